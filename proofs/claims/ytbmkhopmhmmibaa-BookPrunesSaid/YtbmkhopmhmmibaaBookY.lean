/-
  drop: all of these entries are ended, or none.
-/
import Derived.Test.YtbmkhopmhmmibaaBookX
namespace Go.Proofs.Ytbmkhopmhmmibaa
open Go.RowKit
set_option linter.unusedVariables false

/-- Nobody stands in the way of any. -/
def allFree (S : List Nat) (own xmax : Nat) (R : List Nat) (T : List Tb) (I : List (Nat × Ix)) (D : List Nat) : Bool := D.all fun b => freeE S own xmax R (entB T I b)
theorem allFree_no {S : List Nat} {own xmax : Nat} {R : List Nat} {T : List Tb} {I : List (Nat × Ix)} {D : List Nat} {i : Nat} (hi : i < D.length) (h : freeE S own xmax R (entB T I D[i]) = false) : allFree S own xmax R T I D = false := by
  unfold allFree
  rw [List.all_eq_false]
  exact ⟨_, List.getElem_mem hi, by rw [h]; decide⟩
theorem allFree_yes {S : List Nat} {own xmax : Nat} {R : List Nat} {T : List Tb} {I : List (Nat × Ix)} {D : List Nat} {i : Nat} (h : ∀ k (hk : k < D.length), k < i → freeE S own xmax R (entB T I D[k]) = true) (hi : i = D.length) : allFree S own xmax R T I D = true := by
  unfold allFree
  rw [List.all_eq_true]
  intro x hx
  obtain ⟨k, hk, rfl⟩ := List.getElem_of_mem hx
  exact h k hk (by omega)
theorem yes_more {D : List Nat} {p : Nat → Bool} {i : Nat} (h : ∀ k (hk : k < D.length), k < i → p D[k] = true) (hi : i < D.length) (hp : p D[i] = true) : ∀ k (hk : k < D.length), k < i + 1 → p D[k] = true := fun k hk hki => by
  by_cases e : k = i
  · subst e; exact hp
  · exact h k hk (by omega)
theorem entB_id (T : List Tb) (I : List (Nat × Ix)) (D : List Nat) (own b : Nat) : (entB (T.map (Tb.st D own)) (I.map (Ix.st D own)) b).id = (entB T I b).id := by
  unfold entB
  rw [List.find?_map, List.find?_map]
  have h1 : ((fun t : Tb => t.b == b) ∘ Tb.st D own) = fun t => t.b == b := by funext t; show ((t.st D own).b == b) = _; rw [Tb.st_b]
  have h2 : ((fun i : Nat × Ix => i.1 == b) ∘ Ix.st D own) = fun i => i.1 == b := rfl
  rw [h1, h2]
  cases T.find? (fun t => t.b == b) with
  | some t => show (t.st D own).e.id = t.e.id; unfold Tb.st; split <;> rfl
  | none =>
    cases I.find? (fun i => i.1 == b) with
    | some i => show (Ix.st D own i).2.e.id = i.2.e.id; unfold Ix.st; simp only; split <;> rfl
    | none => rfl
theorem idx_en (ad : Addr) (n c k : Nat) (h : k < n) (W : World) : (Instr.indexAt 136 (.slice (some ad) n c) (.int .i64 (k : Int))).run Try.prog W = .ok (.pointer (some (ad.add k))) W := by
  rw [run_indexAt_slice (h := by kernel_rfl), if_pos (by omega)]
  rw [show Try.prog.elem 136 = 135 by kernel_rfl, show (sizeOf 135).run Try.prog W = .ok 1 W by kernel_rfl]
  simp [Result.andThen]
theorem take_more {D : List Nat} {i : Nat} (hi : i < D.length) : D.take (i + 1) = D.take i ++ [D[i]] := (List.take_append_getElem hi).symm
set_option maxRecDepth 100000 in
set_option maxHeartbeats 2000000 in
theorem drop_any (w : World) (B k g own xmin xmax bb be last N ce : Nat) (Ae : Option Addr) (T : List Tb) (I : List (Nat × Ix)) (S R D : List Nat) (F : Nat → Prop) (v vT vI : Value) (hl : LG w g 1 S F) (hR : w.ownsRow bb 28 1 v R.length (ucells .u64 R)) (hn : R.length ≤ 9223372036854775807)
    (hB : Bk B w k last T I vT vI) (hBw : B ≤ w.heap.size) (hD : ∀ b ∈ D, b ∈ T.map Tb.b ∨ b ∈ I.map Prod.fst) (hN : N = D.length) (hN1 : 1 ≤ N) (hr : w.ownsRow be 135 1 (.slice Ae N ce) N (D.map ptr)) :
    Calls Try.prog 61 #[.pointer (some ⟨g, 0, none⟩), .agg #[.int .u64 (own : Int), .int .u64 (xmin : Int), .int .u64 (xmax : Int), v], .slice Ae N ce] w fun e w' => (allFree S own xmax R T I D = false ∧ e = .returned (.tuple #[.int .u64 0, .int .i64 11]) ∧ Below w.heap.size w w') ∨
      (allFree S own xmax R T I D = true ∧ e = .returned (.tuple #[.int .u64 ((entB T I (D.headD 0)).id : Int), .int .i64 0]) ∧ Bk B w' k last (T.map (Tb.st D own)) (I.map (Ix.st D own)) vT vI ∧ FrT bkT B w w') := by
  obtain ⟨A, c, hv, _, _, _⟩ := own_form hR
  subst hv
  have x0 : Below w.heap.size w (w.alloc (.cells #[.int .u64 (own : Int), .int .u64 (xmin : Int), .int .u64 (xmax : Int), .slice A R.length c] 50)) := (Below.refl _ _).al _
  have b0 := Bx.new w 50 #[.int .u64 (own : Int), .int .u64 (xmin : Int), .int .u64 (xmax : Int), .slice A R.length c] [.int .u64 (own : Int), .int .u64 (xmin : Int), .int .u64 (xmax : Int), .slice A R.length c] rfl
  have hN64 := len_max hr
  obtain ⟨id0, hid⟩ : ∃ x, (entB T I (D.headD 0)).id = x := ⟨_, rfl⟩
  rw [hid]
  have HID := Lib.hid hid
  clear hid
  have HFR := Lib.hid (fun W b (hb : Below w.heap.size w W) (hm : b ∈ T.map Tb.b ∨ b ∈ I.map Prod.fst) => efree_any W b g own xmin xmax bb (entB T I b) S R F _ (hl.below hb) (own_below hR hb) hn ((hB.below hb).entB hm).1)
  have HB := Lib.hid hB
  have HD := Lib.hid hD
  have HN := Lib.hid hN
  have HR := Lib.hid hr
  clear hl hR hB hD hN hr
  go_enter Try.func61, Try.ntmps61
  go_upto_region 1 with fail
  generalize w.alloc (.cells #[.int .u64 (own : Int), .int .u64 (xmin : Int), .int .u64 (xmax : Int), .slice A R.length c] 50) = V at *
  have hq : w.heap.size < V.heap.size := b0.lt
  generalize hq0 : w.heap.size = q0 at *
  have HQ := Lib.hid hq0
  clear hq0
  go_wp2_with fail
  go_loopw [14] (fun iv wr => ∃ (i : Nat), i ≤ N ∧ iv = .int .i64 (i : Int) ∧ (∀ k (h : k < D.length), k < i → freeE S own xmax R (entB T I D[k]) = true) ∧ Below q0 w wr ∧ Bx wr q0 50 [.int .u64 (own : Int), .int .u64 (xmin : Int), .int .u64 (xmax : Int), .slice A R.length c]) (fun iv _ => N - (intOf iv).toNat)
  case atStart => exact ⟨0, Nat.zero_le _, rfl, fun k h hk => by omega, x0, b0⟩
  case round =>
    obtain ⟨i, hi, rfl, hno, hb, hbx⟩ := hrel
    have HNO := Lib.hid hno
    clear hno
    by_cases hlt : i < N
    · have hiD : i < D.length := by rw [← HN.out]; exact hlt
      have hg : (D.map ptr)[i]? = some (ptr D[i]) := by rw [List.getElem?_map, List.getElem?_eq_getElem hiD]; rfl
      obtain ⟨Ae', ce', he, _, _, hrd⟩ := own_form (own_below HR.out (by rw [HQ.out]; exact hb))
      injection he with e1 _ e2
      subst e1 e2
      obtain ⟨ad, rfl, q1⟩ := hrd.2 i _ hg
      replace q1 : wr.cell? (ad.add i) = some (.pointer (some ⟨D[i], 0, none⟩)) := q1
      have ix := idx_en ad N ce i hlt
      have HM := Lib.hid (HD.out _ (List.getElem_mem hiD))
      have HF1 := Lib.hid (HFR.out wr _ hb HM.out)
      have HSE := Lib.hid (rfl : freeE S own xmax R (entB T I D[i]) = freeE S own xmax R (entB T I D[i]))
      obtain ⟨z, hz⟩ : ∃ z, freeE S own xmax R (entB T I D[i]) = z := ⟨_, rfl⟩
      rw [hz] at HF1
      have HZ := Lib.hid hz
      generalize hd : D[i] = d at *
      clear hg hrd hz
      have k0 := hbx.cell 0
      have k1 := hbx.cell 1
      have k2 := hbx.cell 2
      have k3 := hbx.cell 3
      cases z with
      | false =>
        have HA := Lib.hid (allFree_no hiD (by rw [hd]; exact HZ.out))
        clear hd
        go_wp2_with fail
        refine (HF1.out).mono ?_
        rintro e w1 ⟨rfl, hb1⟩
        have hb2 := hb.trans (hb1.mono (by have := hbx.lt; omega))
        go_wp2_with fail
        refine bodyPost_ret (v := .tuple #[.int .u64 0, .int .i64 11]) (by simp [results, Try.results61, go_sem]) rfl ?_
        exact .inl ⟨HA.out, rfl, by rw [HQ.out]; exact hb2⟩
      | true =>
        have HA := Lib.hid (yes_more (p := fun b => freeE S own xmax R (entB T I b)) HNO.out hiD (by rw [hd]; exact HZ.out))
        clear hd
        go_wp2_with (go_at_call 85; (with_reducible refine (HF1.out).mono ?_); rintro e w1 ⟨rfl, hb1⟩; have hb2 := hb.trans (hb1.mono (by have := hbx.lt; omega)); have bx1 := hbx.below hb1)
        go_roundw
        case rel => exact ⟨i + 1, by omega, by go_num, HA.out, hb2, bx1⟩
        case measure => simp [intOf]; omega
    · have hiN : i = N := by omega
      have HA := Lib.hid (allFree_yes HNO.out (by rw [hiN]; exact HN.out))
      clear HNO
      subst hiN
      go_wp2
      have HW := Lib.hid hb
      go_loopw [26] (fun iv wr => ∃ (j : Nat), j ≤ i ∧ iv = .int .i64 (j : Int) ∧ Bk B wr k last (T.map (Tb.st (D.take j) own)) (I.map (Ix.st (D.take j) own)) vT vI ∧ FrT bkT B w wr ∧ Bx wr q0 50 [.int .u64 (own : Int), .int .u64 (xmin : Int), .int .u64 (xmax : Int), .slice A R.length c]) (fun iv _ => i - (intOf iv).toNat)
      case atStart => exact ⟨0, Nat.zero_le _, rfl, by rw [List.take_zero, Tb.st_nil, Ix.st_nil]; exact HB.out.below (by rw [HQ.out]; exact hb), FrT.of_below (by rw [HQ.out]; exact hb), hbx⟩
      case round =>
        obtain ⟨j, hj, rfl, hbk, hfr, hby⟩ := hrel
        by_cases hlt2 : j < i
        · have hiD : j < D.length := by rw [← HN.out]; exact hlt2
          have hg : (D.map ptr)[j]? = some (ptr D[j]) := by rw [List.getElem?_map, List.getElem?_eq_getElem hiD]; rfl
          obtain ⟨Ae', ce', he, _, _, hrd⟩ := own_form (hfr.own HR.out (by unfold bkT; decide))
          injection he with e1 _ e2
          subst e1 e2
          obtain ⟨ad, rfl, q1⟩ := hrd.2 j _ hg
          replace q1 : wr.cell? (ad.add j) = some (.pointer (some ⟨D[j], 0, none⟩)) := q1
          have ix := idx_en ad i ce j hlt2
          have hm : D[j] ∈ (T.map (Tb.st (D.take j) own)).map Tb.b ∨ D[j] ∈ (I.map (Ix.st (D.take j) own)).map Prod.fst := by
            rw [Tb.st_bs, Ix.st_bs]; exact HD.out _ (List.getElem_mem hiD)
          have hst := hbk.stamp (own := own) hm
          rw [Tb.st_more, Ix.st_more, ← take_more hiD] at hst
          have hen := hbk.entB hm
          have c3 := hen.1.c3
          have f3 := hen.2
          have hby2 := hst.2.bx hby (by unfold bkT; decide)
          generalize hd : D[j] = d at *
          have HS := Lib.hid hst
          have HY2 := Lib.hid hby2
          have HFF := Lib.hid (hfr.trans hst.2)
          have k0 := hby.cell 0
          clear hd hg hrd hm hst hen hby2 hbk hby hfr
          go_wp2
          go_roundw
          case rel => exact ⟨j + 1, by omega, by go_num, HS.out.1, HFF.out, HY2.out⟩
          case measure => simp [intOf]; omega
        · have hjN : j = i := by omega
          have htk : D.take j = D := by rw [hjN, HN.out]; exact List.take_length
          rw [htk] at hbk
          have hD0 : 0 < D.length := by have := HN.out; omega
          have hg : (D.map ptr)[0]? = some (ptr (D.headD 0)) := by
            cases D with
            | nil => simp at hD0
            | cons d D => rfl
          have hm0 : D.headD 0 ∈ D := by
            cases D with
            | nil => simp at hD0
            | cons d D => exact List.mem_cons_self
          obtain ⟨Ae', ce', he, _, _, hrd⟩ := own_form (hfr.own HR.out (by unfold bkT; decide))
          injection he with e1 _ e2
          subst e1 e2
          obtain ⟨ad, rfl, q1⟩ := hrd.2 0 _ hg
          replace q1 : wr.cell? (ad.add 0) = some (.pointer (some ⟨D.headD 0, 0, none⟩)) := q1
          rw [show ad.add 0 = ad from rfl] at q1
          have ix : ∀ W, (Instr.indexAt 136 (.slice (some ad) i ce) (.int .i64 0)).run Try.prog W = .ok (.pointer (some ad)) W := fun W => idx_en ad i ce 0 (by omega) W
          have hen := (hbk.entB (b := D.headD 0) (by rw [Tb.st_bs, Ix.st_bs]; exact HD.out _ hm0)).1.c0
          rw [entB_id, HID.out] at hen
          have HK := Lib.hid hbk
          have HFF := Lib.hid hfr
          have HAA := Lib.hid HA.out
          generalize D.headD 0 = d0 at *
          clear hbk hfr hby hg hm0 hrd htk hb hbx
          go_wp2_with fail
          refine bodyPost_ret (v := .tuple #[.int .u64 (id0 : Int), .int .i64 0]) (by simp [results, Try.results61, go_sem]) rfl ?_
          exact .inr ⟨HAA.out, rfl, HK.out, HFF.out⟩
end Go.Proofs.Ytbmkhopmhmmibaa
