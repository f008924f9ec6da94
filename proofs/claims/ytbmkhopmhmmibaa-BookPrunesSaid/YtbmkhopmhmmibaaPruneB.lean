/-
  Prune; DropIndex.
-/
import Derived.Test.YtbmkhopmhmmibaaPruneA
namespace Go.Proofs.Ytbmkhopmhmmibaa
open Go.RowKit
set_option linter.unusedVariables false

section
variable {B k last : Nat} {w : World} {T T' : List Tb} {I I' : List (Nat × Ix)} {vT vI v' : Value}
theorem Bk.setI (h : Bk B w k last T I vT vI) (hs : I'.Sublist I) (ho : w.ownsRow B 130 1 v' I'.length (pts I')) : Bk B (w.setCell ⟨k, 2, none⟩ v') k last T I' vT v' ∧ FrT bkT B w (w.setCell ⟨k, 2, none⟩ v') := by
  have f2 : Fr (fun j => j = k) w (w.setCell ⟨k, 2, none⟩ v') := (Fr.refl (fun j => j = k) w).set (b := k) (.inl rfl) 2 v'
  have nx : ∀ {j : Nat} {e : TypeId}, Ty w j e → e ≠ 103 → ¬ j = k := fun hj h2 hh => hj.ne h.box.ty h2 hh
  exact ⟨⟨h.kB, h.box.set 2 v', f2.own h.oT fun j hj => nx (own_ty h.oT hj) (by decide), f2.own ho fun j hj => nx (own_ty ho hj) (by decide), fun t ht => by
    obtain ⟨a, b, c⟩ := h.tB t ht
    exact ⟨a, f2.bx b (nx b.ty (by decide)), f2.own c fun j hj => nx (own_ty c hj) (by decide)⟩, fun i hi => by
    obtain ⟨a, b, c⟩ := h.iB i (hs.subset hi)
    exact ⟨a, f2.bx b (nx b.ty (by decide)), c⟩, h.ndT, (hs.map Prod.fst).nodup h.ndI⟩, h.frk f2⟩
theorem Bk.setT (h : Bk B w k last T I vT vI) (hs : T'.Sublist T) (ho : w.ownsRow B 114 1 v' T'.length (T'.map fun t => ptr t.b)) (hI : ∀ i ∈ I, ∃ t ∈ T', t.b = i.2.tb ∧ t.e = i.2.te) : Bk B (w.setCell ⟨k, 1, none⟩ v') k last T' I v' vI ∧ FrT bkT B w (w.setCell ⟨k, 1, none⟩ v') := by
  have f2 : Fr (fun j => j = k) w (w.setCell ⟨k, 1, none⟩ v') := (Fr.refl (fun j => j = k) w).set (b := k) (.inl rfl) 1 v'
  have nx : ∀ {j : Nat} {e : TypeId}, Ty w j e → e ≠ 103 → ¬ j = k := fun hj h2 hh => hj.ne h.box.ty h2 hh
  exact ⟨⟨h.kB, h.box.set 1 v', f2.own ho fun j hj => nx (own_ty ho hj) (by decide), f2.own h.oI fun j hj => nx (own_ty h.oI hj) (by decide), fun t ht => by
    obtain ⟨a, b, c⟩ := h.tB t (hs.subset ht)
    exact ⟨a, f2.bx b (nx b.ty (by decide)), f2.own c fun j hj => nx (own_ty c hj) (by decide)⟩, fun i hi => by
    obtain ⟨a, b, c⟩ := h.iB i hi
    exact ⟨a, f2.bx b (nx b.ty (by decide)), hI i hi⟩, (hs.map Tb.b).nodup h.ndT, h.ndI⟩, h.frk f2⟩
end
/-- What is left. -/
def liveT (S : List Nat) (h : Nat) (T : List Tb) : List Tb := T.filter fun t => !ddE S h t.e
def liveI (S : List Nat) (h : Nat) (I : List (Nat × Ix)) : List (Nat × Ix) := I.filter fun i => !ddI S h i.2
theorem live_map (S : List Nat) (h : Nat) (T : List Tb) : ((T.map Tb.p).filter fun t => !ddE S h t.2) = (liveT S h T).map Tb.p := by
  unfold liveT
  rw [List.filter_map]
  rfl
set_option maxRecDepth 100000 in
set_option maxHeartbeats 2000000 in
theorem prune_any (w : World) (B k g h last : Nat) (T : List Tb) (I : List (Nat × Ix)) (S : List Nat) (F : Nat → Prop) (vT vI : Value) (hl : LG w g 1 S F) (hB : Bk B w k last T I vT vI) (hBw : B ≤ w.heap.size) (hT16 : T.length ≤ 16) (hI16 : I.length ≤ 16) :
    Calls Try.prog 29 #[.pointer (some ⟨k, 0, none⟩), .pointer (some ⟨g, 0, none⟩), .int .u64 (h : Int)] w fun e w' => ∃ v1 v2 vT' vI', e = .returned (.tuple #[v1, v2]) ∧ w'.ownsRow w.heap.size 28 1 v1 (((T.map Tb.p).filter fun t => ddE S h t.2).map fun t : Nat × Ent => t.2.id).length (ucells .u64 (((T.map Tb.p).filter fun t => ddE S h t.2).map fun t : Nat × Ent => t.2.id)) ∧ w'.ownsRow w.heap.size 28 1 v2 ((I.filter fun t => ddI S h t.2).map fun t : Nat × Ix => t.2.e.id).length (ucells .u64 ((I.filter fun t => ddI S h t.2).map fun t : Nat × Ix => t.2.e.id)) ∧
      Bk B w' k last (liveT S h T) (liveI S h I) vT' vI' ∧ FrT bkT B w w' := by
  obtain ⟨AT, ct, AI, ci, rfl, rfl, hT64, hI64, hM⟩ := hB.m
  have HI := Lib.hid (sift_i w g h I.length ci AI I S F hl rfl hI16 hM.rI hM.eI)
  have HL := Lib.hid hl
  have HB := Lib.hid hB
  have c2 := hB.box.cell 2
  clear hl hB hM hT64 hI64
  go_enter Try.func29, Try.ntmps29
  go_wp2_with fail
  refine (HI.out).mono ?_
  rintro e w1 ⟨vl1, vg1, rfl, ol1, og1, x1⟩
  have B1 := HB.out.below x1
  obtain ⟨Al, cl, hvl, _, _, _⟩ := own_form ol1
  obtain ⟨Ag, cg, hvg, _, _, _⟩ := own_form og1
  have hb2 := B1.setI (I' := liveI S h I) List.filter_sublist (own_le ol1 hBw)
  have OG := Lib.hid (hb2.2.own og1 (by unfold bkT; decide))
  subst hvl hvg
  have k2 := B1.box.cell 2
  have f2 := B1.box.frozen 2
  obtain ⟨B2, F2⟩ := hb2
  have k1 := B2.box.cell 1
  have L2 := F2.lg (HL.out.below x1) (by unfold bkT; decide) (by unfold bkT; decide) (by unfold bkT; decide)
  obtain ⟨AT2, ct2, _, _, hv2, _, _, _, hM2⟩ := B2.m
  injection hv2 with e1 _ e2
  subst e1 e2
  have hT := sift_t _ g h T.length ct AT (T.map Tb.p) S F L2 (by simp) hT16 hM2.rT hM2.eT
  have X2 : FrT bkT B w _ := (FrT.of_below x1).trans F2
  have HS2 := Lib.hid X2.size
  have HT := Lib.hid hT
  have HB2 := Lib.hid B2
  have HX2 := Lib.hid X2
  clear B1 B2 L2 hM2 hT F2 X2 c2 ol1 og1
  obtain ⟨ml, hml⟩ : ∃ m, (List.filter (fun t => !ddI S h t.2) I).length = m := ⟨_, rfl⟩
  obtain ⟨mg, hmg⟩ : ∃ m, ((List.filter (fun t => ddI S h t.2) I).map fun t : Nat × Ix => t.2.e.id).length = m := ⟨_, rfl⟩
  rw [hml] at HS2 HT HB2 HX2 OG k1 ⊢
  rw [hmg] at OG ⊢
  have HMG := Lib.hid hmg
  have HML := Lib.hid hml
  clear hml hmg
  go_upto_region 5 with fail
  generalize w1.setCell ⟨k, 2, none⟩ (.slice Al ml cl) = w2 at *
  clear k2 f2 x1
  go_wp2_with fail
  refine (HT.out).mono ?_
  rintro e w3 ⟨vl3, vg3, rfl, ol3, og3, x3⟩
  have B3 := HB2.out.below x3
  obtain ⟨Al3, cl3, hvl3, _, _, _⟩ := own_form ol3
  obtain ⟨Ag3, cg3, hvg3, _, _, _⟩ := own_form og3
  have hle : B ≤ w2.heap.size := Nat.le_trans hBw HS2.out
  have hb4 := B3.setT (T' := liveT S h T) List.filter_sublist (by
    have := own_le ol3 hle
    rw [live_map, List.length_map, show pts ((liveT S h T).map Tb.p) = (liveT S h T).map fun t => ptr t.b by unfold pts; rw [List.map_map]; rfl] at this
    exact this) (fun i hi => by
    obtain ⟨h1, h2⟩ := List.mem_filter.1 hi
    obtain ⟨_, _, t, ht, h3, h4⟩ := HB.out.iB i h1
    refine ⟨t, List.mem_filter.2 ⟨ht, ?_⟩, h3, h4⟩
    rw [h4]
    have h2 : (!ddI S h i.2) = true := h2
    unfold ddI at h2
    cases hd : ddE S h i.2.te
    · rfl
    · rw [hd, Bool.or_true] at h2; cases h2)
  have OG3 := Lib.hid (hb4.2.own (own_le og3 HS2.out) (by unfold bkT; decide))
  have OG1 := Lib.hid (hb4.2.own (own_below (own_le OG.out (Nat.le_refl _)) x3) (by unfold bkT; decide))
  have f1 := B3.box.frozen 1
  have k3 := B3.box.cell 1
  have HB4 := Lib.hid hb4.1
  have HX4 := Lib.hid ((HX2.out.next x3).trans hb4.2)
  subst hvl3 hvg3
  clear hb4 B3 ol3 og3
  go_wp2_with fail
  refine bodyPost_ret (v := .tuple #[.slice Ag3 (List.map (fun t : Nat × Ent => t.2.id) (List.filter (fun t => ddE S h t.2) (T.map Tb.p))).length cg3, .slice Ag mg cg]) (by simp [results, Try.results29, go_sem]) rfl ?_
  exact ⟨_, _, _, _, rfl, OG3.out, by rw [HMG.out]; exact OG1.out, HB4.out, HX4.out⟩
end Go.Proofs.Ytbmkhopmhmmibaa
