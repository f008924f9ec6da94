/-
  What RowLong wants: an append that leaves what was owned ahead of it; rows of texts of one letter.
-/
import Derived.Test.YtdlgobakoomkpaaDoorRowH
namespace Go.Proofs.YtdlgobakoomkpaaDoor
open Go.RowKit

/-- What was owned ahead of an append is owned behind it, too: the append writes behind its cells, if it writes there at all. -/
theorem append_keep {P : Program} (w : World) (base : Nat) (t tx ty e : TypeId) (i : TypeInfo) (z : Value) (size bytes : Nat) (ht : P.underlying t = some (.slice e)) (hi : P.info? e = some i) (hz : i.zero = some z)
    (hsize : i.size = size) (hby : i.bytes = bytes) (hzs : z.cells.size = size)
    (v : Value) (n : Nat) (xs : List Value) (hown : w.ownsRow base e size v n xs)
    (x : Value) (m : Nat) (news : List Value) (hx : Src P size tx x m news w)
    (h63 : n + m ≤ maxLen) (hbytes : (n + m) * bytes ≤ 140737488355328) (hbase : base ≤ w.heap.size) :
    ∃ v' w', (Builtin.append_ #[t, tx] ty #[v, x]).run P w = .ok v' w' ∧ w'.ownsRow base e size v' (n + m) (xs ++ news) ∧ w.grownBy w' v.ownBlock ∧
      (v'.ownBlock = v.ownBlock ∨ v'.ownBlock = some w.heap.size) ∧ w'.ownsRow base e size v n xs := by
  obtain ⟨v', w', hr, ho, hg, ha⟩ := append_src (P := P) w base t tx ty e i z size bytes ht hi hz hsize hby hzs v n xs hown x m news hx h63 hbytes hbase
  refine ⟨v', w', hr, ho, hg, ha, ?_⟩
  subst hsize
  have hl := hx.newsLen
  rcases hown.2 with ⟨rfl, rfl⟩ | ⟨g, cap, cur, rfl, hbg, hgh, hnc, hcm, hcs, htake⟩
  · exact ⟨hown.1, .inl ⟨rfl, rfl⟩⟩
  · by_cases hroom : n + m ≤ cap
    · have hfit : n * i.size + news.length ≤ cur.size := by rw [hl, hcs, ← Nat.add_mul]; exact Nat.mul_le_mul_right _ hroom
      have hst := run_storeCells_at P g (n * i.size) e news 0 cur w hgh (by simpa using hfit) hx.one
      simp only [Nat.add_zero] at hst
      have hr2 : (Builtin.append_ #[t, tx] ty #[.slice (some ⟨g, 0, none⟩) n cap, x]).run P w =
          .ok (.slice (some ⟨g, 0, none⟩) (n + m) cap) (w.setRow g (cur.toList.take (n * i.size) ++ news ++ cur.toList.drop (n * i.size + news.length)).toArray) := by
        rcases hx.kind with ⟨e', hk⟩ | hk <;> simp [Builtin.append_, run_underlying ht, run_underlying hk, sizeOf, typeInfo, hi, hx.len, hroom, hx.cells, Addr.add_lit, hst]
      rw [hr2] at hr
      injection hr with h1 h2
      subst h2
      refine ⟨hown.1, .inr ⟨g, cap, _, rfl, hbg, setRow_heap w g cur _ e _ hgh, hnc, hcm, ?_, ?_⟩⟩
      · simp only [List.size_toArray, List.length_append, List.length_take, List.length_drop, Array.length_toList]
        omega
      · have h3 : (cur.toList.take (n * i.size)).length = n * i.size := by rw [htake]; exact hown.1
        rw [List.append_assoc]
        show List.take (n * i.size) (cur.toList.take (n * i.size) ++ _) = xs
        rw [List.take_append_of_le_length (by omega), List.take_of_length_le (by omega), htake]
    · have holds : ∀ j u, xs[j]? = some u → w.cell? ((⟨g, 0, none⟩ : Addr).add j) = some u := hown.cells (g := g) rfl
      have hf := run_firstCells_some (P := P) w.drew i.size n ⟨g, 0, none⟩ n cap xs hown.1 (by simpa using holds)
      have hr2 := run_append_grow_src (P := P) w t tx ty e i z ht hi hz (some ⟨g, 0, none⟩) n cap xs hf x m news hx (by omega) (by simp only [maxLen] at h63; omega) (growslice_fits (by simp only [maxLen] at h63; omega) (by rw [hby]; exact hbytes))
      rw [hr2] at hr
      injection hr with h1 h2
      subst h2
      exact World.ownsRow.alloc (own_drew hown) _
/-- The same as a step of a region that draws its order. -/
theorem step_append_keep {P : Program} (w : World) {ops : Array Oper} {o : Oper} {a : Act} {K : Act → World → Prop} {Q : Exit → Act → World → Prop} {E : Prop} (hgd : o.guard = none) (s y : Operand) (t tx : TypeId)
    (ho : o.op = .call { callee := .builtin .append, args := #[s, y], argTypes := #[t, tx] })
    (base : Nat) (e : TypeId) (i : TypeInfo) (z : Value) (size bytes : Nat) (ht : P.underlying t = some (.slice e)) (hi : P.info? e = some i) (hz : i.zero = some z)
    (hsize : i.size = size) (hby : i.bytes = bytes) (hzs : z.cells.size = size)
    (v : Value) (n : Nat) (xs : List Value) (hs : a.eval s = v) (hown : w.ownsRow base e size v n xs)
    (x : Value) (m : Nat) (news : List Value) (hy : a.eval y = x) (hx : Src P size tx x m news w)
    (h63 : n + m ≤ maxLen) (hbytes : (n + m) * bytes ≤ 140737488355328) (hbase : base ≤ w.heap.size)
    (h : ∀ v' w', w'.ownsRow base e size v' (n + m) (xs ++ news) → w.grownBy w' v.ownBlock → (v'.ownBlock = v.ownBlock ∨ v'.ownBlock = some w.heap.size) → w'.ownsRow base e size v n xs → K (a.put o.dst v') w') :
    if Region.wanted o (yielded ops a.tmps) = true then Oper.wp P o a w K Q else E := by
  have hw : Region.wanted o (yielded ops a.tmps) = true := by simp [Region.wanted, hgd]
  rw [if_pos hw]
  obtain ⟨v', w', hr, h2, h3, h4, h5⟩ := append_keep (P := P) w base t tx o.type e i z size bytes ht hi hz hsize hby hzs v n xs hown x m news hx h63 hbytes hbase
  unfold Oper.wp execOp
  simp only [ho, resolve, invoke, builtin, Sem.run_bind, Sem.run_pure, Result.andThen_ok, List.map_toArray, List.map_cons, List.map_nil, hs, hy, hr]
  exact h v' w' h2 h3 h4 h5

/-- A text of so many letters x. -/
def vx (s : Nat) : Val := ⟨2, 0, ⟨(List.replicate s (120 : UInt8)).toArray⟩, false⟩
theorem whole_x : ∀ s, whole (List.replicate s (120 : UInt8)) = true
  | 0 => by simp [whole, Lib.validD_nil]
  | s + 1 => by rw [List.replicate_succ, whole_ascii 120 _ (by decide) (by decide), whole_x s]
theorem vx_right {s : Nat} (h : s ≤ 60) : rightB (vx s) = true := by
  have hs : soundB ⟨(List.replicate s (120 : UInt8)).toArray⟩ = true := by
    unfold soundB
    rw [Bool.and_eq_true, decide_eq_true_iff]
    refine ⟨?_, by simpa using whole_x s⟩
    show (List.replicate s (120 : UInt8)).toArray.size ≤ 60
    simpa using h
  unfold vx rightB
  rw [if_neg (show ¬ (2 : Int) = 0 by decide), if_neg (show ¬ (2 : Int) = 1 by decide), if_pos rfl, hs]
  rfl
theorem vx_len {s : Nat} : (venc (vx s)).length = 1 + s := by
  unfold vx
  rw [venc_text, List.length_cons]
  simp
  omega
theorem vx_ok {s : Nat} (h : s ≤ 60) : ValOk (vx s) := ⟨show (Lit.int .u8 2).wf = true by decide, show (Lit.int .i64 0).wf = true by decide, by unfold vx maxLen; show (List.replicate s (120 : UInt8)).toArray.size ≤ _; simp; omega⟩
/-- So many texts of these sizes. -/
def vxs (l : List UInt8) : List Val := l.map fun b => vx (b.toNat % 61)
theorem vxs_length (l : List UInt8) : (vxs l).length = l.length := by simp [vxs]
theorem vxs_right (l : List UInt8) : (vxs l).all rightB = true := by
  rw [List.all_eq_true]
  intro x hx
  obtain ⟨b, _, rfl⟩ := List.mem_map.1 hx
  exact vx_right (by omega)
theorem vxs_ok (l : List UInt8) : ∀ x ∈ vxs l, ValOk x := by
  intro x hx
  obtain ⟨b, _, rfl⟩ := List.mem_map.1 hx
  exact vx_ok (by omega)
def twos (l : List UInt8) : List UInt8 := l.map fun _ => 2
theorem twos_length (l : List UInt8) : (twos l).length = l.length := by simp [twos]
theorem fits_twos : ∀ l : List UInt8, fits (twos l) (vxs l) = true
  | [] => rfl
  | b :: l => by
    show (fit 2 (vx (b.toNat % 61)) && fits (twos l) (vxs l)) = true
    rw [fits_twos l]; rfl
theorem kok_twos {l : List UInt8} (h1 : 1 ≤ l.length) (h8 : l.length ≤ 8) : kok (twos l) = true := by
  refine kok_yes (by rw [twos_length]; exact ⟨h1, h8⟩) ?_
  rw [List.all_eq_true]
  intro x hx
  obtain ⟨b, _, rfl⟩ := List.mem_map.1 hx
  decide
theorem rwE_twos {l : List UInt8} (h1 : 1 ≤ l.length) (h8 : l.length ≤ 8) : rwE (twos l) (vxs l) = if 200 < 1 + (vencs (vxs l)).length then 2 else 0 := by
  have hm := mtE_ok (kok_twos h1 h8) (by rw [twos_length, vxs_length]) (vxs_right l) (fits_twos l)
  by_cases h : 200 < 1 + (vencs (vxs l)).length
  · rw [if_pos h, rwE_long hm h]
  · rw [if_neg h, rwE_ok hm h]
theorem vencs_next {l : List UInt8} {k : Nat} (h : k < l.length) : (vencs (vxs (l.take (k + 1)))).length = (vencs (vxs (l.take k))).length + (1 + l[k].toNat % 61) := by
  rw [List.take_succ_eq_append_getElem h]
  unfold vxs
  rw [List.map_append, List.map_cons, List.map_nil, vencs_snoc, List.length_append, vx_len]
end Go.Proofs.YtdlgobakoomkpaaDoor
