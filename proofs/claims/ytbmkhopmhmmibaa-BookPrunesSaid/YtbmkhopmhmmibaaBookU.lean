/-
  (*Book).CreateIndex.
-/
import Derived.Test.YtbmkhopmhmmibaaBookT
namespace Go.Proofs.Ytbmkhopmhmmibaa
open Go.RowKit
set_option linter.unusedVariables false

theorem bx_set6 {W : World} {b : Nat} {T : TypeId} {u0 u1 u2 u3 u4 u5 v0 v1 v2 v3 v4 v5 : Value} (h : Bx W b T [v0, v1, v2, v3, v4, v5]) : Bx ((((((W.setCell ⟨b, 0, none⟩ u0).setCell ⟨b, 1, none⟩ u1).setCell ⟨b, 2, none⟩ u2).setCell ⟨b, 3, none⟩ u3).setCell ⟨b, 4, none⟩ u4).setCell ⟨b, 5, none⟩ u5) b T [u0, u1, u2, u3, u4, u5] :=
  (((((h.set 0 u0).set 1 u1).set 2 u2).set 3 u3).set 4 u4).set 5 u5
section
variable {B k last : Nat} {w w1 w' : World} {T : List Tb} {I : List (Nat × Ix)} {vT vI v9 : Value} {S : Nat → Prop}
/-- An index is put behind the others. -/
theorem Bk.putI (h : Bk B w k last T I vT vI) (hg : w.grownBy w1 vI.ownBlock) (i : Nat × Ix) (ho : w1.ownsRow B 130 1 v9 (I.length + 1) (pts I ++ [ptr i.1]))
    (hB : B ≤ i.1) (hb : Bx w i.1 132 i.2.c) (hn : i.1 ∉ I.map Prod.fst) (ht : ∃ t ∈ T, t.b = i.2.tb ∧ t.e = i.2.te) :
    Bk B (w1.setCell ⟨k, 2, none⟩ v9) k last T (I ++ [i]) vT v9 ∧ FrT bkT B w (w1.setCell ⟨k, 2, none⟩ v9) := by
  have f1 : Fr (fun j => vI.ownBlock = some j) w w1 := Fr.of_own hg fun k e => e
  have b1 := f1.bx h.box fun e => h.box.ty.ne (own_ty h.oI e) (by decide) rfl
  have f2 : Fr (fun j => j = k) w1 (w1.setCell ⟨k, 2, none⟩ v9) := (Fr.refl (fun j => j = k) w1).set (b := k) (.inl rfl) 2 v9
  have g1 : FrT bkT B w w1 := FrT.of_fr f1 fun j hj => ⟨(h.oI.lt _ hj).1, _, by unfold bkT; simp, own_ty h.oI hj⟩
  have g2 : FrT bkT B w1 (w1.setCell ⟨k, 2, none⟩ v9) := FrT.of_fr f2 fun j hj => by subst hj; exact ⟨h.kB, _, by unfold bkT; simp, b1.ty⟩
  have F : Fr (fun j => vI.ownBlock = some j ∨ j = k) w (w1.setCell ⟨k, 2, none⟩ v9) := (f1.mono fun j hj => .inl hj).trans f2 fun j hj => .inl (.inr hj)
  have nx : ∀ {j : Nat} {e : TypeId}, Ty w j e → e ≠ 130 → e ≠ 103 → ¬ (vI.ownBlock = some j ∨ j = k) := fun hj h1 h2 hh => hh.elim (fun hh => hj.ne (own_ty h.oI hh) h1 rfl) fun hh => hj.ne h.box.ty h2 hh
  refine ⟨⟨h.kB, b1.set 2 v9, F.own h.oT fun j hj => nx (own_ty h.oT hj) (by decide) (by decide), ?_, fun t ht => ?_, ?_, h.ndT, ?_⟩, g1.trans g2⟩
  · have : pts (I ++ [i]) = pts I ++ [ptr i.1] := by unfold pts; rw [List.map_append]; rfl
    rw [List.length_append, List.length_singleton, this]
    exact f2.own ho fun j hj hS => (own_ty ho hj).ne b1.ty (by decide) hS
  · obtain ⟨a, b, c⟩ := h.tB t ht
    exact ⟨a, F.bx b (nx b.ty (by decide) (by decide)), F.own c fun j hj => nx (own_ty c hj) (by decide) (by decide)⟩
  · intro i' hi
    rcases List.mem_append.1 hi with hi | hi
    · obtain ⟨a, b, c⟩ := h.iB i' hi
      exact ⟨a, F.bx b (nx b.ty (by decide) (by decide)), c⟩
    · rw [List.mem_singleton] at hi
      subst hi
      exact ⟨hB, F.bx hb (nx hb.ty (by decide) (by decide)), ht⟩
  · rw [List.map_append, List.nodup_append]
    refine ⟨h.ndI, by simp, ?_⟩
    intro a ha b hb he
    rw [List.map_cons, List.map_nil, List.mem_singleton] at hb
    subst hb he
    exact hn ha
end
theorem fr_set6 {S : Nat → Prop} {w W : World} {b : Nat} {u0 u1 u2 u3 u4 u5 : Value} (h : Fr S w W) (hb : S b ∨ w.heap.size ≤ b) : Fr S w ((((((W.setCell ⟨b, 0, none⟩ u0).setCell ⟨b, 1, none⟩ u1).setCell ⟨b, 2, none⟩ u2).setCell ⟨b, 3, none⟩ u3).setCell ⟨b, 4, none⟩ u4).setCell ⟨b, 5, none⟩ u5) :=
  (((((h.set hb 0 u0).set hb 1 u1).set hb 2 u2).set hb 3 u3).set hb 4 u4).set hb 5 u5
theorem Bk.set6 {B k last b : Nat} {W : World} {T : List Tb} {I : List (Nat × Ix)} {vT vI : Value} {l : List Value} {u0 u1 u2 u3 u4 u5 : Value} (h : Bk B W k last T I vT vI) (hb : Bx W b 60 l) : Bk B ((((((W.setCell ⟨b, 0, none⟩ u0).setCell ⟨b, 1, none⟩ u1).setCell ⟨b, 2, none⟩ u2).setCell ⟨b, 3, none⟩ u3).setCell ⟨b, 4, none⟩ u4).setCell ⟨b, 5, none⟩ u5) k last T I vT vI :=
  h.fr (S := fun j => j = b) (fr_set6 (Fr.refl _ _) (.inl rfl)) fun j e hj hS => by
    subst hS
    have : e = 60 := Classical.byContradiction fun hne => hj.ne hb.ty hne rfl
    subst this
    decide
/-- What CreateIndex answers. -/
noncomputable def ciE (S : List Nat) (own xmax : Nat) (R : List Nat) (n tn cn : ByteArray) (T : List Tb) (I : List (Nat × Ix)) : Int :=
  if nameB n then (match findTb S own xmax R tn T with
    | none => 6
    | some t => if colIx cn t.cs < 0 then 6 else if vacV S own xmax R n (T.map Tb.p) I = 0 then (if I.length < 16 then 0 else 12) else vacV S own xmax R n (T.map Tb.p) I) else 3
theorem info_ixp : (Try.prog.info? 130).map (fun i => (i.zero, i.size, i.bytes)) = some (some (.pointer none), 1, 8) := by kernel_rfl
set_option maxRecDepth 100000 in
set_option maxHeartbeats 4000000 in
theorem cridx_any (w : World) (B k g own xmin xmax bb last : Nat) (T : List Tb) (I : List (Nat × Ix)) (S R : List Nat) (F : Nat → Prop) (v vT vI : Value) (n tn cn : ByteArray) (hl : LG w g 1 S F) (hR : w.ownsRow bb 28 1 v R.length (ucells .u64 R)) (hn : R.length ≤ 9223372036854775807)
    (hB : Bk B w k last T I vT vI) (hlast : last < 1000000000) (hBw : B ≤ w.heap.size) (hns : n.size ≤ 9223372036854775807) (h8 : ∀ t ∈ T, t.cs.length ≤ 8) :
    Calls Try.prog 22 #[.pointer (some ⟨k, 0, none⟩), .pointer (some ⟨g, 0, none⟩), .agg #[.int .u64 (own : Int), .int .u64 (xmin : Int), .int .u64 (xmax : Int), v], .string n, .string tn, .string cn] w fun e w' => (ciE S own xmax R n tn cn T I ≠ 0 ∧ e = .returned (.tuple #[.agg #[.int .u64 0, .string ⟨#[]⟩, .int .u64 0, .int .i64 0, .int .u64 0, .int .u64 0], .int .i64 (ciE S own xmax R n tn cn T I)]) ∧ Below w.heap.size w w') ∨
      (ciE S own xmax R n tn cn T I = 0 ∧ ∃ t b, findTb S own xmax R tn T = some t ∧ w.heap.size ≤ b ∧ e = .returned (.tuple #[ixV ⟨⟨last + 1, n, own, 0⟩, t.b, t.e, (colIx cn t.cs).toNat⟩, .int .i64 0]) ∧ (∃ vI', Bk B w' k (last + 1) T (I ++ [(b, ⟨⟨last + 1, n, own, 0⟩, t.b, t.e, (colIx cn t.cs).toNat⟩)]) vT vI') ∧ FrT bkT B w w') := by
  obtain ⟨A, c, hv, _, _, _⟩ := own_form hR
  subst hv
  obtain ⟨AT, ct, AI, ci, rfl, rfl, hT64, hI64, hM⟩ := hB.m
  have x0 : Below w.heap.size w (((w.alloc (.cells #[.int .u64 (own : Int), .int .u64 (xmin : Int), .int .u64 (xmax : Int), .slice A R.length c] 50)).alloc (.cells #[.string cn] 9)).alloc (.cells #[.int .u64 0, .string ⟨#[]⟩, .int .u64 0, .int .i64 0, .int .u64 0, .int .u64 0] 60)) := (((Below.refl _ _).al _).al _).al _
  have b0 := ((Bx.new w 50 #[.int .u64 (own : Int), .int .u64 (xmin : Int), .int .u64 (xmax : Int), .slice A R.length c] [.int .u64 (own : Int), .int .u64 (xmin : Int), .int .u64 (xmax : Int), .slice A R.length c] rfl).alloc (.cells #[.string cn] 9)).alloc (.cells #[.int .u64 0, .string ⟨#[]⟩, .int .u64 0, .int .i64 0, .int .u64 0, .int .u64 0] 60)
  have bc := (Bx.new (w.alloc (.cells #[.int .u64 (own : Int), .int .u64 (xmin : Int), .int .u64 (xmax : Int), .slice A R.length c] 50)) 9 #[.string cn] [.string cn] rfl).alloc (.cells #[.int .u64 0, .string ⟨#[]⟩, .int .u64 0, .int .i64 0, .int .u64 0, .int .u64 0] 60)
  have bz := Bx.new ((w.alloc (.cells #[.int .u64 (own : Int), .int .u64 (xmin : Int), .int .u64 (xmax : Int), .slice A R.length c] 50)).alloc (.cells #[.string cn] 9)) 60 #[.int .u64 0, .string ⟨#[]⟩, .int .u64 0, .int .i64 0, .int .u64 0, .int .u64 0] [.int .u64 0, .string ⟨#[]⟩, .int .u64 0, .int .i64 0, .int .u64 0, .int .u64 0] rfl
  rw [alloc_size] at bc
  rw [alloc_size, alloc_size] at bz
  have HNM := Lib.hid (fun W => bname_any W n hns)
  have HFT := fun W (hb : Below w.heap.size w W) => tfind_any W g 1 own xmin xmax bb T.length ct 0 AT (T.map Tb.p) S R F _ tn (hl.below hb) (own_below hR hb) hn (by simp) hT64 (hM.below hb).rT (fun t ht => ((hM.below hb).eT t ht))
  simp only [findT_tb] at HFT
  have HVA := fun W (hb : Below w.heap.size w W) => vacant_any W k g own xmin xmax bb last T.length ct I.length ci AT AI (T.map Tb.p) I S R F _ n (hl.below hb) (own_below hR hb) hn (hM.below hb) hT64 hI64
  have HB := Lib.hid hB
  have H8 := Lib.hid h8
  obtain ⟨cr, hcr⟩ : ∃ cr, ciE S own xmax R n tn cn T I = cr := ⟨_, rfl⟩
  rw [hcr]
  unfold ciE at hcr
  obtain ⟨o, ho⟩ : ∃ o, findTb S own xmax R tn T = o := ⟨_, rfl⟩
  obtain ⟨vv, hvv⟩ : ∃ vv, vacV S own xmax R n (T.map Tb.p) I = vv := ⟨_, rfl⟩
  simp only [hvv, ho] at hcr HVA HFT
  have HO := Lib.hid ho
  have HCR := Lib.hid hcr.symm
  replace HVA := Lib.hid HVA
  replace HFT := Lib.hid HFT
  obtain ⟨i1, hi1, hy0, hy1, hy2⟩ := info_parts4 info_ixp
  clear hl hR hM hB hcr hvv ho h8 hns
  go_enter Try.func22, Try.ntmps22
  go_wp2_with fail
  generalize (((w.alloc (.cells #[.int .u64 (own : Int), .int .u64 (xmin : Int), .int .u64 (xmax : Int), .slice A R.length c] 50)).alloc (.cells #[.string cn] 9)).alloc (.cells #[.int .u64 0, .string ⟨#[]⟩, .int .u64 0, .int .i64 0, .int .u64 0, .int .u64 0] 60)) = V at *
  refine (HNM.out _).mono ?_
  rintro e w1 ⟨rfl, hb1⟩
  have x1 := x0.next hb1
  have b1 := b0.below hb1
  have bc1 := bc.below hb1
  have bz1 := bz.below hb1
  clear b0 bc bz
  cases hnm : nameB n with
  | false =>
    have HCQ := HCR.out
    rw [hnm] at HCQ
    simp only [Bool.false_eq_true, if_false] at HCQ
    clear hnm HCR b1 bc1
    have k0 := bz1.cell 0
    have f0 := bz1.frozen 0
    have k1 := bz1.cell 1
    have f1 := bz1.frozen 1
    have k2 := bz1.cell 2
    have f2 := bz1.frozen 2
    have k3 := bz1.cell 3
    have f3 := bz1.frozen 3
    have k4 := bz1.cell 4
    have f4 := bz1.frozen 4
    have k5 := bz1.cell 5
    have f5 := bz1.frozen 5
    have bf := bx_set6 (u0 := (.int .u64 0)) (u1 := (.string ⟨#[]⟩)) (u2 := (.int .u64 0)) (u3 := (.int .i64 0)) (u4 := (.int .u64 0)) (u5 := (.int .u64 0)) bz1
    have xf := below_set6 (u0 := (.int .u64 0)) (u1 := (.string ⟨#[]⟩)) (u2 := (.int .u64 0)) (u3 := (.int .i64 0)) (u4 := (.int .u64 0)) (u5 := (.int .u64 0)) x1 (Nat.le_succ_of_le (Nat.le_succ _))
    go_wp2_with fail
    clear k0 f0 k1 f1 k2 f2 k3 f3 k4 f4 k5 f5
    have j0 := bf.cell 0
    have j1 := bf.cell 1
    have j2 := bf.cell 2
    have j3 := bf.cell 3
    have j4 := bf.cell 4
    have j5 := bf.cell 5
    generalize ((((((w1.setCell ⟨w.heap.size + 1 + 1, 0, none⟩ (.int .u64 0)).setCell ⟨w.heap.size + 1 + 1, 1, none⟩ (.string ⟨#[]⟩)).setCell ⟨w.heap.size + 1 + 1, 2, none⟩ (.int .u64 0)).setCell ⟨w.heap.size + 1 + 1, 3, none⟩ (.int .i64 0)).setCell ⟨w.heap.size + 1 + 1, 4, none⟩ (.int .u64 0)).setCell ⟨w.heap.size + 1 + 1, 5, none⟩ (.int .u64 0)) = W at *
    refine bodyPost_ret (v := .tuple #[.agg #[.int .u64 0, .string ⟨#[]⟩, .int .u64 0, .int .i64 0, .int .u64 0, .int .u64 0], .int .i64 3]) (by simp [results, Try.results22, go_sem, j0, j1, j2, j3, j4, j5]) rfl ?_
    exact .inl ⟨by rw [HCQ]; decide, by rw [HCQ], xf⟩
  | true =>
    have HCQ := HCR.out
    rw [hnm, if_pos rfl] at HCQ
    replace HCQ := Lib.hid HCQ
    clear hnm HCR
    have x1d : Below w.heap.size w w1.drew := x1.next (below_n w1 1)
    have b1d : Bx w1.drew w.heap.size 50 [.int .u64 (own : Int), .int .u64 (xmin : Int), .int .u64 (xmax : Int), .slice A R.length c] := b1.below (below_n w1 1)
    have bc1d : Bx w1.drew (w.heap.size + 1) 9 [.string cn] := bc1.below (below_n w1 1)
    have bz1d : Bx w1.drew (w.heap.size + 1 + 1) 60 [.int .u64 0, .string ⟨#[]⟩, .int .u64 0, .int .i64 0, .int .u64 0, .int .u64 0] := bz1.below (below_n w1 1)
    have B1 := HB.out.below x1d
    have hSd : w1.drew.cell? ⟨w.heap.size, 0, none⟩ = some (.int .u64 (own : Int)) ∧ w1.drew.cell? ⟨w.heap.size, 1, none⟩ = some (.int .u64 (xmin : Int)) ∧ w1.drew.cell? ⟨w.heap.size, 2, none⟩ = some (.int .u64 (xmax : Int)) ∧ w1.drew.cell? ⟨w.heap.size, 3, none⟩ = some (.slice A R.length c) ∧ w1.drew.cell? ⟨k, 1, none⟩ = some (.slice AT T.length ct) := ⟨b1d.cell 0, b1d.cell 1, b1d.cell 2, b1d.cell 3, B1.box.cell 1⟩
    have HF1 := HFT.out w1.drew x1d
    clear B1 b1 bc1 bz1
    cases o with
    | none =>
      have HF1 := Lib.hid (show Calls _ _ _ _ fun e w' => e = .returned (.tuple #[.pointer none, .bool false]) ∧ _ from HF1)
      have HCP := HCQ.out
      clear bc1d b1d
      go_upto_region 5 with fail
      go_region_held3 (fun w' => w'.cell? ⟨w.heap.size, 0, none⟩ = some (.int .u64 (own : Int)) ∧ w'.cell? ⟨w.heap.size, 1, none⟩ = some (.int .u64 (xmin : Int)) ∧ w'.cell? ⟨w.heap.size, 2, none⟩ = some (.int .u64 (xmax : Int)) ∧ w'.cell? ⟨w.heap.size, 3, none⟩ = some (.slice A R.length c) ∧ w'.cell? ⟨k, 1, none⟩ = some (.slice AT T.length ct)) (first | (with_reducible assumption))
        (first | (go_at_call 55; (with_reducible refine (HF1.out).mono ?_); rintro e w2 ⟨rfl, hb2⟩; have x2 := x1d.next hb2; have bz2 := bz1d.below hb2; have hS2 : w2.cell? ⟨w.heap.size, 0, none⟩ = some (.int .u64 (own : Int)) ∧ w2.cell? ⟨w.heap.size, 1, none⟩ = some (.int .u64 (xmin : Int)) ∧ w2.cell? ⟨w.heap.size, 2, none⟩ = some (.int .u64 (xmax : Int)) ∧ w2.cell? ⟨w.heap.size, 3, none⟩ = some (.slice A R.length c) ∧ w2.cell? ⟨k, 1, none⟩ = some (.slice AT T.length ct) := ⟨cells_below hb2 hSd.1, cells_below hb2 hSd.2.1, cells_below hb2 hSd.2.2.1, cells_below hb2 hSd.2.2.2.1, cells_below hb2 hSd.2.2.2.2⟩))
      have k0 := bz2.cell 0
      have f0 := bz2.frozen 0
      have k1 := bz2.cell 1
      have f1 := bz2.frozen 1
      have k2 := bz2.cell 2
      have f2 := bz2.frozen 2
      have k3 := bz2.cell 3
      have f3 := bz2.frozen 3
      have k4 := bz2.cell 4
      have f4 := bz2.frozen 4
      have k5 := bz2.cell 5
      have f5 := bz2.frozen 5
      have bf := bx_set6 (u0 := (.int .u64 0)) (u1 := (.string ⟨#[]⟩)) (u2 := (.int .u64 0)) (u3 := (.int .i64 0)) (u4 := (.int .u64 0)) (u5 := (.int .u64 0)) bz2
      have xf := below_set6 (u0 := (.int .u64 0)) (u1 := (.string ⟨#[]⟩)) (u2 := (.int .u64 0)) (u3 := (.int .i64 0)) (u4 := (.int .u64 0)) (u5 := (.int .u64 0)) x2 (Nat.le_succ_of_le (Nat.le_succ _))
      go_wp2_with fail
      clear k0 f0 k1 f1 k2 f2 k3 f3 k4 f4 k5 f5
      have j0 := bf.cell 0
      have j1 := bf.cell 1
      have j2 := bf.cell 2
      have j3 := bf.cell 3
      have j4 := bf.cell 4
      have j5 := bf.cell 5
      generalize ((((((w2.setCell ⟨w.heap.size + 1 + 1, 0, none⟩ (.int .u64 0)).setCell ⟨w.heap.size + 1 + 1, 1, none⟩ (.string ⟨#[]⟩)).setCell ⟨w.heap.size + 1 + 1, 2, none⟩ (.int .u64 0)).setCell ⟨w.heap.size + 1 + 1, 3, none⟩ (.int .i64 0)).setCell ⟨w.heap.size + 1 + 1, 4, none⟩ (.int .u64 0)).setCell ⟨w.heap.size + 1 + 1, 5, none⟩ (.int .u64 0)) = W at *
      refine bodyPost_ret (v := .tuple #[.agg #[.int .u64 0, .string ⟨#[]⟩, .int .u64 0, .int .i64 0, .int .u64 0, .int .u64 0], .int .i64 6]) (by simp [results, Try.results22, go_sem, j0, j1, j2, j3, j4, j5]) rfl ?_
      exact .inl ⟨by rw [HCP]; decide, by rw [HCP], xf⟩
    | some t =>
      obtain ⟨tb, te, tcs, tcv⟩ := t
      have htm := findTb_mem HO.out
      have HTM := Lib.hid htm
      have hcv := ((HB.out).tB _ htm).2.2
      obtain ⟨Ac, cc, hcv', _, _, _⟩ := own_form hcv
      change tcv = .slice Ac tcs.length cc at hcv'
      subst hcv'
      have h8t := H8.out _ htm
      replace h8t : tcs.length ≤ 8 := h8t
      clear htm hcv
      have HF1 := Lib.hid (show Calls _ _ _ _ fun e w' => e = .returned (.tuple #[.pointer (some ⟨tb, 0, none⟩), .bool true]) ∧ _ from HF1)
      go_upto_region 5 with fail
      go_region_held3 (fun w' => w'.cell? ⟨w.heap.size, 0, none⟩ = some (.int .u64 (own : Int)) ∧ w'.cell? ⟨w.heap.size, 1, none⟩ = some (.int .u64 (xmin : Int)) ∧ w'.cell? ⟨w.heap.size, 2, none⟩ = some (.int .u64 (xmax : Int)) ∧ w'.cell? ⟨w.heap.size, 3, none⟩ = some (.slice A R.length c) ∧ w'.cell? ⟨k, 1, none⟩ = some (.slice AT T.length ct)) (first | (with_reducible assumption))
        (first | (go_at_call 55; (with_reducible refine (HF1.out).mono ?_); rintro e w2 ⟨rfl, hb2⟩; have x2 := x1d.next hb2; have bz2 := bz1d.below hb2; have bs2 := b1d.below hb2; have bc2 := bc1d.below hb2; have hS2 : w2.cell? ⟨w.heap.size, 0, none⟩ = some (.int .u64 (own : Int)) ∧ w2.cell? ⟨w.heap.size, 1, none⟩ = some (.int .u64 (xmin : Int)) ∧ w2.cell? ⟨w.heap.size, 2, none⟩ = some (.int .u64 (xmax : Int)) ∧ w2.cell? ⟨w.heap.size, 3, none⟩ = some (.slice A R.length c) ∧ w2.cell? ⟨k, 1, none⟩ = some (.slice AT T.length ct) := ⟨cells_below hb2 hSd.1, cells_below hb2 hSd.2.1, cells_below hb2 hSd.2.2.1, cells_below hb2 hSd.2.2.2.1, cells_below hb2 hSd.2.2.2.2⟩))
      have B2 := HB.out.below x2
      have ht2 := B2.tB _ HTM.out
      have t4 : w2.cell? ⟨tb, 4, none⟩ = some (.slice Ac tcs.length cc) := ht2.2.1.cell 4
      obtain ⟨Ac', cc', hcv', _, _, hrd⟩ := own_form ht2.2.2
      injection hcv' with e1 _ e2
      subst e1 e2
      have HIX := Lib.hid (index_x w2 (w.heap.size + 1) tcs.length cc cn Ac tcs rfl (by omega) hrd (bc2.cell 0))
      clear B2 ht2 hrd hS2 hSd b1d bc1d bz1d x1d
      obtain ⟨cx, hcx⟩ : ∃ cx, colIx cn tcs = cx := ⟨_, rfl⟩
      have HCX := Lib.hid hcx
      rw [hcx] at HIX
      have HCP := HCQ.out
      simp only [hcx] at HCP
      replace HCP := Lib.hid HCP
      clear hcx HCQ
      go_wp2_with fail
      refine (HIX.out).mono ?_
      rintro e w3 ⟨rfl, hb3⟩
      have x3 := x2.next hb3
      have bz3 := bz2.below hb3
      have bs3 := bs2.below hb3
      clear t4 bz2 bs2 bc2 x2
      by_cases hneg : cx < 0
      · have HC3 := HCP.out
        rw [if_pos hneg] at HC3
        clear HCP bs3
        have k0 := bz3.cell 0
        have f0 := bz3.frozen 0
        have k1 := bz3.cell 1
        have f1 := bz3.frozen 1
        have k2 := bz3.cell 2
        have f2 := bz3.frozen 2
        have k3 := bz3.cell 3
        have f3 := bz3.frozen 3
        have k4 := bz3.cell 4
        have f4 := bz3.frozen 4
        have k5 := bz3.cell 5
        have f5 := bz3.frozen 5
        have bf := bx_set6 (u0 := (.int .u64 0)) (u1 := (.string ⟨#[]⟩)) (u2 := (.int .u64 0)) (u3 := (.int .i64 0)) (u4 := (.int .u64 0)) (u5 := (.int .u64 0)) bz3
        have xf := below_set6 (u0 := (.int .u64 0)) (u1 := (.string ⟨#[]⟩)) (u2 := (.int .u64 0)) (u3 := (.int .i64 0)) (u4 := (.int .u64 0)) (u5 := (.int .u64 0)) x3 (Nat.le_succ_of_le (Nat.le_succ _))
        go_wp2_with fail
        clear k0 f0 k1 f1 k2 f2 k3 f3 k4 f4 k5 f5
        have j0 := bf.cell 0
        have j1 := bf.cell 1
        have j2 := bf.cell 2
        have j3 := bf.cell 3
        have j4 := bf.cell 4
        have j5 := bf.cell 5
        generalize ((((((w3.setCell ⟨w.heap.size + 1 + 1, 0, none⟩ (.int .u64 0)).setCell ⟨w.heap.size + 1 + 1, 1, none⟩ (.string ⟨#[]⟩)).setCell ⟨w.heap.size + 1 + 1, 2, none⟩ (.int .u64 0)).setCell ⟨w.heap.size + 1 + 1, 3, none⟩ (.int .i64 0)).setCell ⟨w.heap.size + 1 + 1, 4, none⟩ (.int .u64 0)).setCell ⟨w.heap.size + 1 + 1, 5, none⟩ (.int .u64 0)) = W at *
        refine bodyPost_ret (v := .tuple #[.agg #[.int .u64 0, .string ⟨#[]⟩, .int .u64 0, .int .i64 0, .int .u64 0, .int .u64 0], .int .i64 6]) (by simp [results, Try.results22, go_sem, j0, j1, j2, j3, j4, j5]) rfl ?_
        exact .inl ⟨by rw [HC3]; decide, by rw [HC3], xf⟩
      · have HC3 := HCP.out
        rw [if_neg hneg] at HC3
        obtain ⟨cm, rfl⟩ : ∃ cm : Nat, cx = (cm : Int) := ⟨cx.toNat, by omega⟩
        have HCM := Lib.hid HC3
        clear HCP HC3 hneg
        have k0 := bs3.cell 0
        have k1 := bs3.cell 1
        have k2 := bs3.cell 2
        have k3 := bs3.cell 3
        go_wp2_with fail
        refine (HVA.out _ x3).mono ?_
        rintro e w4 ⟨rfl, hb4⟩
        have x4 := x3.next hb4
        have bz4 := bz3.below hb4
        have bs4 := bs3.below hb4
        clear k0 k1 k2 k3 bz3 bs3 x3
        by_cases hvv : vv = 0
        · have HC4 := HCM.out
          rw [if_pos hvv] at HC4
          subst hvv
          have B4 := HB.out.below x4
          have m1 := B4.box.cell 2
          by_cases h16 : I.length < 16
          · rw [if_pos h16] at HC4
            have HC5 := Lib.hid HC4
            clear HC4
            have g16 : ¬ ((16 : Int) ≤ (I.length : Int)) := by omega
            have kk := bs4.cell 0
            obtain ⟨ln, hln⟩ : ∃ ln, last + 1 = ln := ⟨_, rfl⟩
            have hen := enter_any w4 k last own n _ _ B4.box hlast
            rw [hln] at hen
            have HEN := Lib.hid hen
            have HLN := Lib.hid hln
            clear hen hln
            have HB4 := Lib.hid B4
            clear B4
            go_wp2_with fail
            refine (HEN.out).mono ?_
            rintro e w5 ⟨rfl, hbx5, hf5⟩
            have B5 := HB4.out.count hf5 (by rw [HLN.out]; exact hbx5)
            rw [HLN.out] at B5
            have f5 := HB4.out.frk hf5
            have bz5 := f5.bx bz4 (by unfold bkT; decide)
            have X5 : FrT bkT B w w5 := (FrT.of_below x4).trans f5
            have hsz : w.heap.size ≤ w5.heap.size := X5.size
            have hz5 : w.heap.size + 1 + 1 < w5.heap.size := bz5.lt
            have B6 := B5.below ((Below.refl _ _).al (.cells #[.int .u64 (ln : Int), .string n, .int .u64 (own : Int), .int .u64 0, .pointer (some ⟨tb, 0, none⟩), .int .i64 (cm : Int)] 132))
            have hb6 : Below w5.heap.size w5 (w5.alloc (.cells #[.int .u64 (ln : Int), .string n, .int .u64 (own : Int), .int .u64 0, .pointer (some ⟨tb, 0, none⟩), .int .i64 (cm : Int)] 132)) := (Below.refl _ _).al _
            have bx6 := Bx.new w5 132 #[.int .u64 (ln : Int), .string n, .int .u64 (own : Int), .int .u64 0, .pointer (some ⟨tb, 0, none⟩), .int .i64 (cm : Int)] [.int .u64 (ln : Int), .string n, .int .u64 (own : Int), .int .u64 0, .pointer (some ⟨tb, 0, none⟩), .int .i64 (cm : Int)] rfl
            have X6 := X5.next hb6
            have bz6 := bz5.below hb6
            have m6 := B6.box.cell 2
            have hnew : w5.heap.size ∉ I.map Prod.fst := fun hm => by
              obtain ⟨t, ht, he⟩ := List.mem_map.1 hm
              have := (B5.iB t ht).2.1.lt
              omega
            have HB6 := Lib.hid B6
            have HX6 := Lib.hid X6
            have HBX := Lib.hid bx6
            clear B5 B6 hb6 bx6 X6 X5 f5 kk m1 bz5 bz4 bs4 hbx5 hf5
            go_upto_region 17 with fail
            generalize hw6 : w5.alloc (.cells #[.int .u64 (ln : Int), .string n, .int .u64 (own : Int), .int .u64 0, .pointer (some ⟨tb, 0, none⟩), .int .i64 (cm : Int)] 132) = w6 at *
            clear hw6
            have z6 : Below w6.heap.size w6 (w6.alloc (.cells #[.pointer (some ⟨w5.heap.size, 0, none⟩)] 130)) := (Below.refl _ _).al _
            have B7 := HB6.out.below z6
            have bz7 := bz6.below z6
            have f7 := B7.box.frozen 2
            have m7 := B7.box.cell 2
            have h5 : w5.heap.size ≠ k := fun e => (HBX.out.ty.ne HB6.out.box.ty (by decide)) e
            go_wp2_with (first
              | (at_builtin; refine wpList_append_src _ rfl (.tmp 78) (.tmp 80) 101 101 rfl B 130 _ _ 1 8 Try.underlying101 hi1 hy0 hy1 hy2 rfl _ _ _ rfl B7.oI _ 1 [ptr w5.heap.size] rfl (src_rd Try.underlying101 _ (rd_lit (by first | rfl | simp) rfl rfl) (by decide) (by intro u hu; rw [List.mem_singleton] at hu; subst hu; rfl)) (by simp only [maxLen]; omega) (by omega) (Nat.le_of_lt (Nat.lt_of_le_of_lt B7.kB B7.box.lt)) ?_; intro v9 w9 ho9 hg9 ha9; obtain ⟨A9, c9, hv9, _, _, _⟩ := own_form ho9; subst hv9; have HP := B7.putI hg9 (w5.heap.size, ⟨⟨ln, n, own, 0⟩, tb, te, cm⟩) ho9 (Nat.le_trans hBw hsz) (HBX.out.below z6) hnew ⟨_, HTM.out, rfl, rfl⟩; have bk9 := (Fr.of_own (S := fun k => Value.ownBlock (.slice AI I.length ci) = some k) hg9 fun k e => e).bx B7.box fun e => B7.box.ty.ne (own_ty B7.oI e) (by decide) rfl; have n9 := bk9.cell 2; have y9 := bk9.frozen 2; have HP := Lib.hid HP; clear ho9 hg9 ha9 bk9)
              | fail)
            have HB10 := Lib.hid HP.out.1
            have him := HP.out.1.im (List.mem_append_right _ (List.mem_singleton.2 rfl))
            have h55 := (HP.out.1.iB _ (List.mem_append_right _ (List.mem_singleton.2 rfl))).2.1.cell 5
            have HSH := ishown_any _ _ _ him h55
            unfold ixV at HSH
            have bz10 := HP.out.2.bx bz7 (by unfold bkT; decide)
            have X10 := (HX6.out.next z6).trans HP.out.2
            clear him h55 bz7 bz6 B7 z6 f7 m7 m6 n9 y9 HP HX6 HB6 HBX
            refine (HSH).mono ?_
            rintro e w11 ⟨rfl, hb11⟩
            have bz11 := bz10.below hb11
            have X11 := X10.next hb11
            have B11 := HB10.out.below hb11
            clear HSH bz10 X10 HB10
            have k0 := bz11.cell 0
            have f0 := bz11.frozen 0
            have k1 := bz11.cell 1
            have f1 := bz11.frozen 1
            have k2 := bz11.cell 2
            have f2 := bz11.frozen 2
            have k3 := bz11.cell 3
            have f3 := bz11.frozen 3
            have k4 := bz11.cell 4
            have f4 := bz11.frozen 4
            have k5 := bz11.cell 5
            have f5 := bz11.frozen 5
            have bf := bx_set6 (u0 := (.int .u64 (ln : Int))) (u1 := (.string n)) (u2 := (.int .u64 (te.id : Int))) (u3 := (.int .i64 (cm : Int))) (u4 := (.int .u64 (own : Int))) (u5 := (.int .u64 0)) bz11
            have Bf := Lib.hid (B11.set6 (u0 := (.int .u64 (ln : Int))) (u1 := (.string n)) (u2 := (.int .u64 (te.id : Int))) (u3 := (.int .i64 (cm : Int))) (u4 := (.int .u64 (own : Int))) (u5 := (.int .u64 0)) bz11)
            have Xf := Lib.hid (show FrT bkT B w _ from fr_set6 (u0 := (.int .u64 (ln : Int))) (u1 := (.string n)) (u2 := (.int .u64 (te.id : Int))) (u3 := (.int .i64 (cm : Int))) (u4 := (.int .u64 (own : Int))) (u5 := (.int .u64 0)) X11 (.inr (Nat.le_succ_of_le (Nat.le_succ _))))
            clear B11 X11
            go_wp2_with fail
            clear k0 f0 k1 f1 k2 f2 k3 f3 k4 f4 k5 f5
            have j0 := bf.cell 0
            have j1 := bf.cell 1
            have j2 := bf.cell 2
            have j3 := bf.cell 3
            have j4 := bf.cell 4
            have j5 := bf.cell 5
            generalize ((((((w11.setCell ⟨w.heap.size + 1 + 1, 0, none⟩ (.int .u64 (ln : Int))).setCell ⟨w.heap.size + 1 + 1, 1, none⟩ (.string n)).setCell ⟨w.heap.size + 1 + 1, 2, none⟩ (.int .u64 (te.id : Int))).setCell ⟨w.heap.size + 1 + 1, 3, none⟩ (.int .i64 (cm : Int))).setCell ⟨w.heap.size + 1 + 1, 4, none⟩ (.int .u64 (own : Int))).setCell ⟨w.heap.size + 1 + 1, 5, none⟩ (.int .u64 0)) = W at *
            refine bodyPost_ret (v := .tuple #[ixV ⟨⟨ln, n, own, 0⟩, tb, te, cm⟩, .int .i64 0]) (by simp [ixV, results, Try.results22, go_sem, j0, j1, j2, j3, j4, j5]) rfl ?_
            have hcm : (colIx cn tcs).toNat = cm := by rw [HCX.out]; rfl
            refine .inr ⟨HC5.out, ⟨tb, te, tcs, .slice Ac tcs.length cc⟩, w5.heap.size, HO.out, hsz, ?_, ?_, Xf.out⟩
            · rw [HLN.out, show (colIx cn (Tb.mk tb te tcs (.slice Ac tcs.length cc)).cs).toNat = cm from hcm]
            · rw [HLN.out, show (colIx cn (Tb.mk tb te tcs (.slice Ac tcs.length cc)).cs).toNat = cm from hcm]
              exact ⟨_, Bf.out⟩
          · rw [if_neg h16] at HC4
            have g16 : ((16 : Int) ≤ (I.length : Int)) := by omega
            clear B4 bs4
            have k0 := bz4.cell 0
            have f0 := bz4.frozen 0
            have k1 := bz4.cell 1
            have f1 := bz4.frozen 1
            have k2 := bz4.cell 2
            have f2 := bz4.frozen 2
            have k3 := bz4.cell 3
            have f3 := bz4.frozen 3
            have k4 := bz4.cell 4
            have f4 := bz4.frozen 4
            have k5 := bz4.cell 5
            have f5 := bz4.frozen 5
            have bf := bx_set6 (u0 := (.int .u64 0)) (u1 := (.string ⟨#[]⟩)) (u2 := (.int .u64 0)) (u3 := (.int .i64 0)) (u4 := (.int .u64 0)) (u5 := (.int .u64 0)) bz4
            have xf := below_set6 (u0 := (.int .u64 0)) (u1 := (.string ⟨#[]⟩)) (u2 := (.int .u64 0)) (u3 := (.int .i64 0)) (u4 := (.int .u64 0)) (u5 := (.int .u64 0)) x4 (Nat.le_succ_of_le (Nat.le_succ _))
            go_wp2_with fail
            clear k0 f0 k1 f1 k2 f2 k3 f3 k4 f4 k5 f5
            have j0 := bf.cell 0
            have j1 := bf.cell 1
            have j2 := bf.cell 2
            have j3 := bf.cell 3
            have j4 := bf.cell 4
            have j5 := bf.cell 5
            generalize ((((((w4.setCell ⟨w.heap.size + 1 + 1, 0, none⟩ (.int .u64 0)).setCell ⟨w.heap.size + 1 + 1, 1, none⟩ (.string ⟨#[]⟩)).setCell ⟨w.heap.size + 1 + 1, 2, none⟩ (.int .u64 0)).setCell ⟨w.heap.size + 1 + 1, 3, none⟩ (.int .i64 0)).setCell ⟨w.heap.size + 1 + 1, 4, none⟩ (.int .u64 0)).setCell ⟨w.heap.size + 1 + 1, 5, none⟩ (.int .u64 0)) = W at *
            refine bodyPost_ret (v := .tuple #[.agg #[.int .u64 0, .string ⟨#[]⟩, .int .u64 0, .int .i64 0, .int .u64 0, .int .u64 0], .int .i64 12]) (by simp [results, Try.results22, go_sem, j0, j1, j2, j3, j4, j5]) rfl ?_
            exact .inl ⟨by rw [HC4]; decide, by rw [HC4], xf⟩
        · have HC4 := HCM.out
          rw [if_neg hvv] at HC4
          have HC5 := Lib.hid HC4
          have gv : (vv == 0) = false := beq_eq_false_iff_ne.2 hvv
          have gv2 : (vv != 0) = true := by unfold bne; rw [gv]; rfl
          have HVV := Lib.hid hvv
          clear hvv HC4 bs4
          have k0 := bz4.cell 0
          have f0 := bz4.frozen 0
          have k1 := bz4.cell 1
          have f1 := bz4.frozen 1
          have k2 := bz4.cell 2
          have f2 := bz4.frozen 2
          have k3 := bz4.cell 3
          have f3 := bz4.frozen 3
          have k4 := bz4.cell 4
          have f4 := bz4.frozen 4
          have k5 := bz4.cell 5
          have f5 := bz4.frozen 5
          have bf := bx_set6 (u0 := (.int .u64 0)) (u1 := (.string ⟨#[]⟩)) (u2 := (.int .u64 0)) (u3 := (.int .i64 0)) (u4 := (.int .u64 0)) (u5 := (.int .u64 0)) bz4
          have xf := below_set6 (u0 := (.int .u64 0)) (u1 := (.string ⟨#[]⟩)) (u2 := (.int .u64 0)) (u3 := (.int .i64 0)) (u4 := (.int .u64 0)) (u5 := (.int .u64 0)) x4 (Nat.le_succ_of_le (Nat.le_succ _))
          go_wp2_with fail
          clear k0 f0 k1 f1 k2 f2 k3 f3 k4 f4 k5 f5
          have j0 := bf.cell 0
          have j1 := bf.cell 1
          have j2 := bf.cell 2
          have j3 := bf.cell 3
          have j4 := bf.cell 4
          have j5 := bf.cell 5
          generalize ((((((w4.setCell ⟨w.heap.size + 1 + 1, 0, none⟩ (.int .u64 0)).setCell ⟨w.heap.size + 1 + 1, 1, none⟩ (.string ⟨#[]⟩)).setCell ⟨w.heap.size + 1 + 1, 2, none⟩ (.int .u64 0)).setCell ⟨w.heap.size + 1 + 1, 3, none⟩ (.int .i64 0)).setCell ⟨w.heap.size + 1 + 1, 4, none⟩ (.int .u64 0)).setCell ⟨w.heap.size + 1 + 1, 5, none⟩ (.int .u64 0)) = W at *
          refine bodyPost_ret (v := .tuple #[.agg #[.int .u64 0, .string ⟨#[]⟩, .int .u64 0, .int .i64 0, .int .u64 0, .int .u64 0], .int .i64 vv]) (by simp [results, Try.results22, go_sem, j0, j1, j2, j3, j4, j5]) rfl ?_
          exact .inl ⟨by rw [HC5.out]; exact HVV.out, by rw [HC5.out], xf⟩
end Go.Proofs.Ytbmkhopmhmmibaa
