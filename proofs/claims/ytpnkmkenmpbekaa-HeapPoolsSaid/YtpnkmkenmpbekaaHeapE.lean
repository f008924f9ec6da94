/-
  Package heap: Free, Get, Used.
-/
import Derived.Test.YtpnkmkenmpbekaaHeapD
namespace Go.Proofs.Ytpnkmkenmpbekaa
open Go.RowKit
set_option linter.unusedVariables false

theorem note_fr {w w' : World} {h p g : Nat} {v rv rv' : Value} {gs : List Nat} {Ps : List Pg} {rs : List Int} (H : Hm w h p g v rv gs Ps rs) (o : Only w w' g rv rv') :
    Fr (fun k => k = g ∨ rv.ownBlock = some k) w w' ∧ (∀ {k : Nat} {T : TypeId}, Ty w k T → T ≠ 119 → T ≠ 3 → ¬ (k = g ∨ rv.ownBlock = some k)) ∧ ∀ {B : Nat}, B ≤ w.heap.size → ∀ k, Fp h g v rv' gs k → Fp h g v rv gs k ∨ B ≤ k := by
  refine ⟨Fr.of_only o (.inl rfl) fun k e => .inr e, fun hT h1 h2 e => ?_, fun hB k hk => ?_⟩
  · rcases e with e | e
    · exact hT.ne H.rooms.ty h1 e
    · exact hT.ne (own_ty H.rooms.row e) h2 rfl
  · rcases hk with hk | hk | hk | hk | hk
    · exact .inl (.inl hk)
    · exact .inl (.inr (.inl hk))
    · rcases o.own with e | ⟨q, e, hq⟩
      · exact .inl (.inr (.inr (.inl (e.symm.trans hk))))
      · rw [e] at hk
        injection hk with hk
        exact .inr (by omega)
    · exact .inl (.inr (.inr (.inr (.inl hk))))
    · exact .inl (.inr (.inr (.inr (.inr hk))))
section
variable (w : World) (h p g : Nat) (v rv : Value) (gs : List Nat) (Ps : List Pg)
set_option maxRecDepth 100000 in
set_option maxHeartbeats 1000000 in
theorem hfree_off (H : Hm w h p g v rv gs Ps (Ps.map Pg.room)) (q s : Int) (hq : q < 0 ∨ (Ps.length : Int) ≤ q) :
    Calls Try.prog 48 #[.pointer (some ⟨h, 0, none⟩), .agg #[.int .i64 q, .int .i64 s]] w fun e w' => e = .returned (.int .i64 15) ∧ Below w.heap.size w w' := by
  have bI := Bx.new w 41 _ [.int .i64 q, .int .i64 s] rfl
  have hbl : Below w.heap.size w (w.alloc (.cells #[.int .i64 q, .int .i64 s] 41)) := (Below.refl _ _).al _
  have HH := Lib.hid H
  clear H
  go_enter Try.func48, Try.ntmps48
  go_wp2_with fail
  generalize (w.alloc (.cells #[.int .i64 q, .int .i64 s] 41)) = W at *
  have eV : Below w.heap.size w W.drew := hbl.drew
  have HU := HH.out.below eV
  have bI := Bx.below bI ((Below.refl W.heap.size W).drew)
  have v0 : W.drew.cell? ⟨w.heap.size, 0, none⟩ = some (.int .i64 q) := bI.cell 0
  have v1 : W.drew.cell? ⟨w.heap.size, 1, none⟩ = some (.int .i64 s) := bI.cell 1
  have hpa := pageAt_no HU q hq
  have hfr := pfree_nil W.drew s
  go_region_held3 (fun w' => w'.cell? ⟨w.heap.size, 0, none⟩ = some (.int .i64 q) ∧ w'.cell? ⟨w.heap.size, 1, none⟩ = some (.int .i64 s)) (first | assumption | exact v0 | exact v1 | simp [*, go_sem])
    (first
      | (go_at_call 90; (with_reducible refine hpa.mono ?_); rintro e w1 ⟨rfl, hw⟩; have hw' := hw.symm; subst hw'; have hS : _ ∧ _ := ⟨v0, v1⟩)
      | (go_at_call 41; (with_reducible refine hfr.mono ?_); rintro e w2 ⟨rfl, hw⟩; have hw' := hw.symm; subst hw'; have hS : _ ∧ _ := ⟨v0, v1⟩))
  go_wp2
  go_ret
  exact ⟨rfl, eV⟩
set_option maxRecDepth 100000 in
set_option maxHeartbeats 1000000 in
theorem hfree_no (H : Hm w h p g v rv gs Ps (Ps.map Pg.room)) (i a : Nat) (P : Pg) (s : Int) (hi : gs[i]? = some a) (hP : Ps[i]? = some P) (hg : getP P s = none) :
    Calls Try.prog 48 #[.pointer (some ⟨h, 0, none⟩), .agg #[.int .i64 (i : Int), .int .i64 s]] w fun e w' => e = .returned (.int .i64 15) ∧ Heap w' h p (Fp h g v rv gs) Ps ∧ Fr (Fp h g v rv gs) w w' := by
  have bI := Bx.new w 41 _ [.int .i64 (i : Int), .int .i64 s] rfl
  have hbl : Below w.heap.size w (w.alloc (.cells #[.int .i64 (i : Int), .int .i64 s] 41)) := (Below.refl _ _).al _
  have HH := Lib.hid H
  clear H
  go_enter Try.func48, Try.ntmps48
  go_wp2_with fail
  generalize (w.alloc (.cells #[.int .i64 (i : Int), .int .i64 s] 41)) = W at *
  have eV : Below w.heap.size w W.drew := hbl.drew
  have HU := HH.out.below eV
  have bI := Bx.below bI ((Below.refl W.heap.size W).drew)
  have v0 : W.drew.cell? ⟨w.heap.size, 0, none⟩ = some (.int .i64 (i : Int)) := bI.cell 0
  have v1 : W.drew.cell? ⟨w.heap.size, 1, none⟩ = some (.int .i64 s) := bI.cell 1
  have he : freE P s = 15 := by unfold freE; rw [hg]; rfl
  have hn : freN P s = P := by unfold freN; rw [hg]; rfl
  have hpa := pageAt_yes HU i a hi
  have hPa := HU.pages i a P hi hP
  have hTa := hPa.ty
  have hfr := freE_any W.drew a P s hPa
  rw [he, hn] at hfr
  go_region_held3 (fun w' => w'.cell? ⟨w.heap.size, 0, none⟩ = some (.int .i64 (i : Int)) ∧ w'.cell? ⟨w.heap.size, 1, none⟩ = some (.int .i64 s)) (first | assumption | exact v0 | exact v1 | simp [*, go_sem])
    (first
      | (go_at_call 90; (with_reducible refine hpa.mono ?_); rintro e w1 ⟨rfl, hw⟩; have hw' := hw.symm; subst hw'; have hS : _ ∧ _ := ⟨v0, v1⟩)
      | (go_at_call 41; (with_reducible refine hfr.mono ?_); rintro e w2 ⟨rfl, hP2, g2⟩; have f2 : Fr (fun k => k = a) W.drew w2 := Fr.of_grown g2 rfl; have bI2 := f2.bx bI (bI.ty.ne hTa (by decide)); have hS : _ ∧ _ := ⟨bI2.cell 0, bI2.cell 1⟩))
  go_wp2
  go_ret
  have hag : a ∈ gs := List.mem_of_getElem? hi
  have H2 := HU.page hi g2 hP2
  have F2 : Fr (Fp h g v rv gs) w w2 := (Fr.of_below eV).trans f2 (fun k e => .inl (.inr (.inr (.inr (.inr (by rw [e]; exact hag))))))
  rw [set_same hP] at H2
  exact ⟨rfl, H2.heap, F2⟩
set_option maxRecDepth 100000 in
set_option maxHeartbeats 1000000 in
theorem hfree_yes (H : Hm w h p g v rv gs Ps (Ps.map Pg.room)) (i a : Nat) (P : Pg) (s : Int) (hi : gs[i]? = some a) (hP : Ps[i]? = some P) (hg : (getP P s).isSome = true) (h256 : i < 256) :
    Calls Try.prog 48 #[.pointer (some ⟨h, 0, none⟩), .agg #[.int .i64 (i : Int), .int .i64 s]] w fun e w' => e = .returned (.int .i64 0) ∧ ∃ F', Heap w' h p F' (Ps.set i (freN P s)) ∧ Fr (Fp h g v rv gs) w w' ∧ ∀ k, F' k → Fp h g v rv gs k ∨ w.heap.size ≤ k := by
  have bI := Bx.new w 41 _ [.int .i64 (i : Int), .int .i64 s] rfl
  have hbl : Below w.heap.size w (w.alloc (.cells #[.int .i64 (i : Int), .int .i64 s] 41)) := (Below.refl _ _).al _
  have HH := Lib.hid H
  clear H
  go_enter Try.func48, Try.ntmps48
  go_wp2_with fail
  generalize (w.alloc (.cells #[.int .i64 (i : Int), .int .i64 s] 41)) = W at *
  have eV : Below w.heap.size w W.drew := hbl.drew
  have HU := HH.out.below eV
  have bI := Bx.below bI ((Below.refl W.heap.size W).drew)
  have v0 : W.drew.cell? ⟨w.heap.size, 0, none⟩ = some (.int .i64 (i : Int)) := bI.cell 0
  have v1 : W.drew.cell? ⟨w.heap.size, 1, none⟩ = some (.int .i64 s) := bI.cell 1
  have he : freE P s = 0 := by unfold freE; rw [hg]; rfl
  have hn : freN P s = freN P s := rfl
  have hpa := pageAt_yes HU i a hi
  have hPa := HU.pages i a P hi hP
  have hTa := hPa.ty
  have hfr := freE_any W.drew a P s hPa
  rw [he, hn] at hfr
  go_region_held3 (fun w' => w'.cell? ⟨w.heap.size, 0, none⟩ = some (.int .i64 (i : Int)) ∧ w'.cell? ⟨w.heap.size, 1, none⟩ = some (.int .i64 s)) (first | assumption | exact v0 | exact v1 | simp [*, go_sem])
    (first
      | (go_at_call 90; (with_reducible refine hpa.mono ?_); rintro e w1 ⟨rfl, hw⟩; have hw' := hw.symm; subst hw'; have hS : _ ∧ _ := ⟨v0, v1⟩)
      | (go_at_call 41; (with_reducible refine hfr.mono ?_); rintro e w2 ⟨rfl, hP2, g2⟩; have f2 : Fr (fun k => k = a) W.drew w2 := Fr.of_grown g2 rfl; have bI2 := f2.bx bI (bI.ty.ne hTa (by decide)); have hS : _ ∧ _ := ⟨bI2.cell 0, bI2.cell 1⟩))
  have hag : a ∈ gs := List.mem_of_getElem? hi
  have H2 := HU.page hi g2 hP2
  have F2 : Fr (Fp h g v rv gs) w w2 := (Fr.of_below eV).trans f2 (fun k e => .inl (.inr (.inr (.inr (.inr (by rw [e]; exact hag))))))
  have hlt := (List.getElem?_eq_some_iff.1 hi).1
  have hlen := HU.len
  have HN := Lib.hid (note_any w2 h p g v rv gs (Ps.map Pg.room) i a (freN P s) H2.box H2.row H2.rooms hi hP2 (by simp; omega) h256)
  have y0 := bI2.cell 0
  go_wp2_with fail
  refine HN.out.mono ?_
  rintro e w3 ⟨rfl, rv3, o3, r3⟩
  obtain ⟨f3, hno, hsub⟩ := note_fr H2 o3
  have H3 := H2.note o3 r3
  have hput : putR (Ps.map Pg.room) i (freN P s).room = (Ps.set i (freN P s)).map Pg.room := by
    unfold putR
    rw [if_neg (by simp; omega), List.map_set]
  rw [hput] at H3
  have F3 := F2.trans f3 (fun k e => .inl (e.elim (fun e => .inr (.inl e)) (fun e => .inr (.inr (.inl e)))))
  have hs2 := F2.size
  go_wp2
  go_ret
  exact ⟨rfl, _, H3.heap, F3, hsub hs2⟩
end
end Go.Proofs.Ytpnkmkenmpbekaa
