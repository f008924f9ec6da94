/-
  Package heap: Get.
-/
import Derived.Test.YtpnkmkenmpbekaaHeapE
namespace Go.Proofs.Ytpnkmkenmpbekaa
open Go.RowKit
set_option linter.unusedVariables false

theorem cell_set_ne {W : World} {b c i j : Nat} {u : Value} (h : b ≠ c) : (W.setCell ⟨c, j, none⟩ u).cell? ⟨b, i, none⟩ = W.cell? ⟨b, i, none⟩ := by
  unfold World.cell?
  rw [heap_setCell_other W ⟨c, j, none⟩ b u h]
theorem cells_s6 {W : World} {b : Nat} {x0 x1 : Option Value} {u0 u1 u2 u3 u4 u5 : Value} (h : W.cell? ⟨b, 0, none⟩ = x0 ∧ W.cell? ⟨b, 1, none⟩ = x1) : ((((((W.setCell ⟨b + 1, 0, none⟩ u0).setCell ⟨b + 1, 1, none⟩ u1).setCell ⟨b + 1, 2, none⟩ u2).setCell ⟨b + 1, 3, none⟩ u3).setCell ⟨b + 1, 4, none⟩ u4).setCell ⟨b + 1, 5, none⟩ u5).cell? ⟨b, 0, none⟩ = x0 ∧ ((((((W.setCell ⟨b + 1, 0, none⟩ u0).setCell ⟨b + 1, 1, none⟩ u1).setCell ⟨b + 1, 2, none⟩ u2).setCell ⟨b + 1, 3, none⟩ u3).setCell ⟨b + 1, 4, none⟩ u4).setCell ⟨b + 1, 5, none⟩ u5).cell? ⟨b, 1, none⟩ = x1 := by
  have hn : b ≠ b + 1 := by omega
  rw [cell_set_ne hn, cell_set_ne hn, cell_set_ne hn, cell_set_ne hn, cell_set_ne hn, cell_set_ne hn, cell_set_ne hn, cell_set_ne hn, cell_set_ne hn, cell_set_ne hn, cell_set_ne hn, cell_set_ne hn]
  exact h
theorem below_s6 {w W : World} {u0 u1 u2 u3 u4 u5 : Value} (h : Below w.heap.size w W) : Below w.heap.size w ((((((W.setCell ⟨w.heap.size + 1, 0, none⟩ u0).setCell ⟨w.heap.size + 1, 1, none⟩ u1).setCell ⟨w.heap.size + 1, 2, none⟩ u2).setCell ⟨w.heap.size + 1, 3, none⟩ u3).setCell ⟨w.heap.size + 1, 4, none⟩ u4).setCell ⟨w.heap.size + 1, 5, none⟩ u5) :=
  (((((h.setCell (Nat.le_succ _) _).setCell (Nat.le_succ _) _).setCell (Nat.le_succ _) _).setCell (Nat.le_succ _) _).setCell (Nat.le_succ _) _).setCell (Nat.le_succ _) _
section
variable (w : World) (h p g : Nat) (v rv : Value) (gs : List Nat) (Ps : List Pg)
set_option maxRecDepth 100000 in
set_option maxHeartbeats 1000000 in
theorem hget_off (H : Hm w h p g v rv gs Ps (Ps.map Pg.room)) (q s : Int) (hq : q < 0 ∨ (Ps.length : Int) ≤ q) :
    Calls Try.prog 61 #[.pointer (some ⟨h, 0, none⟩), .agg #[.int .i64 q, .int .i64 s]] w fun e w' => e = .returned (.tuple #[noTup, .bool false]) ∧ Below w.heap.size w w' := by
  have b0 := Bx.new w 41 _ [.int .i64 q, .int .i64 s] rfl
  have bI := b0.alloc (.cells #[.int .u64 0, .int .u64 0, .int .u64 0, .int .i64 0, .int .i64 0, .slice none 0 0] 44)
  have z1 : (w.alloc (.cells #[.int .i64 q, .int .i64 s] 41)).heap.size = w.heap.size + 1 := by simp
  have bT := Bx.new (w.alloc (.cells #[.int .i64 q, .int .i64 s] 41)) 44 _ [.int .u64 0, .int .u64 0, .int .u64 0, .int .i64 0, .int .i64 0, .slice none 0 0] rfl
  rw [z1] at bT
  have hbl : Below w.heap.size w ((w.alloc (.cells #[.int .i64 q, .int .i64 s] 41)).alloc (.cells #[.int .u64 0, .int .u64 0, .int .u64 0, .int .i64 0, .int .i64 0, .slice none 0 0] 44)) := ((Below.refl _ _).al _).al _
  have HH := Lib.hid H
  clear H z1 b0
  go_enter Try.func61, Try.ntmps61
  go_wp2_with fail
  generalize ((w.alloc (.cells #[.int .i64 q, .int .i64 s] 41)).alloc (.cells #[.int .u64 0, .int .u64 0, .int .u64 0, .int .i64 0, .int .i64 0, .slice none 0 0] 44)) = W at *
  have eV : Below w.heap.size w W.drew := hbl.drew
  have HU := HH.out.below eV
  have bI := Bx.below bI ((Below.refl W.heap.size W).drew)
  have bT := Bx.below bT ((Below.refl W.heap.size W).drew)
  have v0 : W.drew.cell? ⟨w.heap.size, 0, none⟩ = some (.int .i64 q) := bI.cell 0
  have v1 : W.drew.cell? ⟨w.heap.size, 1, none⟩ = some (.int .i64 s) := bI.cell 1
  have hpa := pageAt_no HU q hq
  have hgt : Calls Try.prog 30 #[.pointer none, .int .i64 s] W.drew fun e w' => e = .returned (.tuple #[.agg #[.int .u64 0, .int .u64 0, .int .u64 0, .int .i64 0, .int .i64 0, .slice none 0 0], .bool false]) ∧ Below W.drew.heap.size W.drew w' := get_nil W.drew s
  go_region_held3 (fun w' => w'.cell? ⟨w.heap.size, 0, none⟩ = some (.int .i64 q) ∧ w'.cell? ⟨w.heap.size, 1, none⟩ = some (.int .i64 s)) (first | (with_reducible assumption) | (with_reducible exact And.intro v0 v1) | (with_reducible exact cells_s6 (by with_reducible assumption)))
    (first
      | (go_at_call 90; (with_reducible refine hpa.mono ?_); rintro e w1 ⟨rfl, hw⟩; have hw' := hw.symm; subst hw'; have hS : _ ∧ _ := ⟨v0, v1⟩)
      | (go_at_call 30; (with_reducible refine hgt.mono ?_); rintro e w2 ⟨rfl, hb2⟩; have b2 := Bx.below bT hb2; have bI2 := Bx.below bI hb2; have hS : w2.cell? ⟨w.heap.size, 0, none⟩ = some (.int .i64 q) ∧ w2.cell? ⟨w.heap.size, 1, none⟩ = some (.int .i64 s) := ⟨bI2.cell 0, bI2.cell 1⟩; have k0 := b2.cell 0; have k1 := b2.cell 1; have k2 := b2.cell 2; have k3 := b2.cell 3; have k4 := b2.cell 4; have k5 := b2.cell 5; have f0 := b2.frozen 0; have f1 := b2.frozen 1; have f2 := b2.frozen 2; have f3 := b2.frozen 3; have f4 := b2.frozen 4; have f5 := b2.frozen 5))
  go_wp2
  have hx := eV.next hb2
  have bz := ((((((b2.set 0 (.int .u64 0)).set 1 (.int .u64 0)).set 2 (.int .u64 0)).set 3 (.int .i64 0)).set 4 (.int .i64 0)).set 5 (.slice none 0 0))
  have lz : Below w.heap.size w ((((((w2.setCell ⟨w.heap.size + 1, 0, none⟩ (.int .u64 0)).setCell ⟨w.heap.size + 1, 1, none⟩ (.int .u64 0)).setCell ⟨w.heap.size + 1, 2, none⟩ (.int .u64 0)).setCell ⟨w.heap.size + 1, 3, none⟩ (.int .i64 0)).setCell ⟨w.heap.size + 1, 4, none⟩ (.int .i64 0)).setCell ⟨w.heap.size + 1, 5, none⟩ (.slice none 0 0)) := below_s6 hx
  clear k0 k1 k2 k3 k4 k5 f0 f1 f2 f3 f4 f5
  generalize ((((((w2.setCell ⟨w.heap.size + 1, 0, none⟩ (.int .u64 0)).setCell ⟨w.heap.size + 1, 1, none⟩ (.int .u64 0)).setCell ⟨w.heap.size + 1, 2, none⟩ (.int .u64 0)).setCell ⟨w.heap.size + 1, 3, none⟩ (.int .i64 0)).setCell ⟨w.heap.size + 1, 4, none⟩ (.int .i64 0)).setCell ⟨w.heap.size + 1, 5, none⟩ (.slice none 0 0)) = V at *
  have k0 := bz.cell 0
  have k1 := bz.cell 1
  have k2 := bz.cell 2
  have k3 := bz.cell 3
  have k4 := bz.cell 4
  have k5 := bz.cell 5
  refine bodyPost_ret (v := .tuple #[noTup, .bool false]) (by simp [results, Try.results61, go_sem, k0, k1, k2, k3, k4, k5, noTup]) rfl ?_
  exact ⟨rfl, lz⟩
set_option maxRecDepth 100000 in
set_option maxHeartbeats 1000000 in
theorem hget_no (H : Hm w h p g v rv gs Ps (Ps.map Pg.room)) (i a : Nat) (P : Pg) (s : Int) (hi : gs[i]? = some a) (hP : Ps[i]? = some P) (hg : getP P s = none) :
    Calls Try.prog 61 #[.pointer (some ⟨h, 0, none⟩), .agg #[.int .i64 (i : Int), .int .i64 s]] w fun e w' => e = .returned (.tuple #[noTup, .bool false]) ∧ Below w.heap.size w w' := by
  have b0 := Bx.new w 41 _ [.int .i64 (i : Int), .int .i64 s] rfl
  have bI := b0.alloc (.cells #[.int .u64 0, .int .u64 0, .int .u64 0, .int .i64 0, .int .i64 0, .slice none 0 0] 44)
  have z1 : (w.alloc (.cells #[.int .i64 (i : Int), .int .i64 s] 41)).heap.size = w.heap.size + 1 := by simp
  have bT := Bx.new (w.alloc (.cells #[.int .i64 (i : Int), .int .i64 s] 41)) 44 _ [.int .u64 0, .int .u64 0, .int .u64 0, .int .i64 0, .int .i64 0, .slice none 0 0] rfl
  rw [z1] at bT
  have hbl : Below w.heap.size w ((w.alloc (.cells #[.int .i64 (i : Int), .int .i64 s] 41)).alloc (.cells #[.int .u64 0, .int .u64 0, .int .u64 0, .int .i64 0, .int .i64 0, .slice none 0 0] 44)) := ((Below.refl _ _).al _).al _
  have HH := Lib.hid H
  clear H z1 b0
  go_enter Try.func61, Try.ntmps61
  go_wp2_with fail
  generalize ((w.alloc (.cells #[.int .i64 (i : Int), .int .i64 s] 41)).alloc (.cells #[.int .u64 0, .int .u64 0, .int .u64 0, .int .i64 0, .int .i64 0, .slice none 0 0] 44)) = W at *
  have eV : Below w.heap.size w W.drew := hbl.drew
  have HU := HH.out.below eV
  have bI := Bx.below bI ((Below.refl W.heap.size W).drew)
  have bT := Bx.below bT ((Below.refl W.heap.size W).drew)
  have v0 : W.drew.cell? ⟨w.heap.size, 0, none⟩ = some (.int .i64 (i : Int)) := bI.cell 0
  have v1 : W.drew.cell? ⟨w.heap.size, 1, none⟩ = some (.int .i64 s) := bI.cell 1
  have hpa := pageAt_yes HU i a hi
  have hgt : Calls Try.prog 30 #[.pointer (some ⟨a, 0, none⟩), .int .i64 s] W.drew fun e w' => e = .returned (.tuple #[.agg #[.int .u64 0, .int .u64 0, .int .u64 0, .int .i64 0, .int .i64 0, .slice none 0 0], .bool false]) ∧ Below W.drew.heap.size W.drew w' := getE_no W.drew a P s (HU.pages i a P hi hP) hg
  go_region_held3 (fun w' => w'.cell? ⟨w.heap.size, 0, none⟩ = some (.int .i64 (i : Int)) ∧ w'.cell? ⟨w.heap.size, 1, none⟩ = some (.int .i64 s)) (first | (with_reducible assumption) | (with_reducible exact And.intro v0 v1) | (with_reducible exact cells_s6 (by with_reducible assumption)))
    (first
      | (go_at_call 90; (with_reducible refine hpa.mono ?_); rintro e w1 ⟨rfl, hw⟩; have hw' := hw.symm; subst hw'; have hS : _ ∧ _ := ⟨v0, v1⟩)
      | (go_at_call 30; (with_reducible refine hgt.mono ?_); rintro e w2 ⟨rfl, hb2⟩; have b2 := Bx.below bT hb2; have bI2 := Bx.below bI hb2; have hS : w2.cell? ⟨w.heap.size, 0, none⟩ = some (.int .i64 (i : Int)) ∧ w2.cell? ⟨w.heap.size, 1, none⟩ = some (.int .i64 s) := ⟨bI2.cell 0, bI2.cell 1⟩; have k0 := b2.cell 0; have k1 := b2.cell 1; have k2 := b2.cell 2; have k3 := b2.cell 3; have k4 := b2.cell 4; have k5 := b2.cell 5; have f0 := b2.frozen 0; have f1 := b2.frozen 1; have f2 := b2.frozen 2; have f3 := b2.frozen 3; have f4 := b2.frozen 4; have f5 := b2.frozen 5))
  go_wp2
  have hx := eV.next hb2
  have bz := ((((((b2.set 0 (.int .u64 0)).set 1 (.int .u64 0)).set 2 (.int .u64 0)).set 3 (.int .i64 0)).set 4 (.int .i64 0)).set 5 (.slice none 0 0))
  have lz : Below w.heap.size w ((((((w2.setCell ⟨w.heap.size + 1, 0, none⟩ (.int .u64 0)).setCell ⟨w.heap.size + 1, 1, none⟩ (.int .u64 0)).setCell ⟨w.heap.size + 1, 2, none⟩ (.int .u64 0)).setCell ⟨w.heap.size + 1, 3, none⟩ (.int .i64 0)).setCell ⟨w.heap.size + 1, 4, none⟩ (.int .i64 0)).setCell ⟨w.heap.size + 1, 5, none⟩ (.slice none 0 0)) := below_s6 hx
  clear k0 k1 k2 k3 k4 k5 f0 f1 f2 f3 f4 f5
  generalize ((((((w2.setCell ⟨w.heap.size + 1, 0, none⟩ (.int .u64 0)).setCell ⟨w.heap.size + 1, 1, none⟩ (.int .u64 0)).setCell ⟨w.heap.size + 1, 2, none⟩ (.int .u64 0)).setCell ⟨w.heap.size + 1, 3, none⟩ (.int .i64 0)).setCell ⟨w.heap.size + 1, 4, none⟩ (.int .i64 0)).setCell ⟨w.heap.size + 1, 5, none⟩ (.slice none 0 0)) = V at *
  have k0 := bz.cell 0
  have k1 := bz.cell 1
  have k2 := bz.cell 2
  have k3 := bz.cell 3
  have k4 := bz.cell 4
  have k5 := bz.cell 5
  refine bodyPost_ret (v := .tuple #[noTup, .bool false]) (by simp [results, Try.results61, go_sem, k0, k1, k2, k3, k4, k5, noTup]) rfl ?_
  exact ⟨rfl, lz⟩
set_option maxRecDepth 100000 in
set_option maxHeartbeats 1000000 in
theorem hget_yes (H : Hm w h p g v rv gs Ps (Ps.map Pg.room)) (i a : Nat) (P : Pg) (s : Int) (hi : gs[i]? = some a) (hP : Ps[i]? = some P) (t : Ver) (hg : getP P s = some t) :
    Calls Try.prog 61 #[.pointer (some ⟨h, 0, none⟩), .agg #[.int .i64 (i : Int), .int .i64 s]] w fun e w' => ∃ dv, e = .returned (.tuple #[t.val dv, .bool true]) ∧ Byt w' w.heap.size dv t.d ∧ Below w.heap.size w w' := by
  have b0 := Bx.new w 41 _ [.int .i64 (i : Int), .int .i64 s] rfl
  have bI := b0.alloc (.cells #[.int .u64 0, .int .u64 0, .int .u64 0, .int .i64 0, .int .i64 0, .slice none 0 0] 44)
  have z1 : (w.alloc (.cells #[.int .i64 (i : Int), .int .i64 s] 41)).heap.size = w.heap.size + 1 := by simp
  have bT := Bx.new (w.alloc (.cells #[.int .i64 (i : Int), .int .i64 s] 41)) 44 _ [.int .u64 0, .int .u64 0, .int .u64 0, .int .i64 0, .int .i64 0, .slice none 0 0] rfl
  rw [z1] at bT
  have hbl : Below w.heap.size w ((w.alloc (.cells #[.int .i64 (i : Int), .int .i64 s] 41)).alloc (.cells #[.int .u64 0, .int .u64 0, .int .u64 0, .int .i64 0, .int .i64 0, .slice none 0 0] 44)) := ((Below.refl _ _).al _).al _
  have HH := Lib.hid H
  clear H z1 b0
  go_enter Try.func61, Try.ntmps61
  go_wp2_with fail
  generalize ((w.alloc (.cells #[.int .i64 (i : Int), .int .i64 s] 41)).alloc (.cells #[.int .u64 0, .int .u64 0, .int .u64 0, .int .i64 0, .int .i64 0, .slice none 0 0] 44)) = W at *
  have eV : Below w.heap.size w W.drew := hbl.drew
  have HU := HH.out.below eV
  have bI := Bx.below bI ((Below.refl W.heap.size W).drew)
  have bT := Bx.below bT ((Below.refl W.heap.size W).drew)
  have v0 : W.drew.cell? ⟨w.heap.size, 0, none⟩ = some (.int .i64 (i : Int)) := bI.cell 0
  have v1 : W.drew.cell? ⟨w.heap.size, 1, none⟩ = some (.int .i64 s) := bI.cell 1
  have hpa := pageAt_yes HU i a hi
  have hgt : Calls Try.prog 30 #[.pointer (some ⟨a, 0, none⟩), .int .i64 s] W.drew fun e w' => ∃ dv, e = .returned (.tuple #[.agg #[.int .u64 (t.r : Int), .int .u64 (t.x : Int), .int .u64 (t.m : Int), .int .i64 t.p, .int .i64 t.s, dv], .bool true]) ∧ Byt w' W.drew.heap.size dv t.d ∧ Below W.drew.heap.size W.drew w' := getE_yes W.drew a P s t (HU.pages i a P hi hP) hg
  go_region_held3 (fun w' => w'.cell? ⟨w.heap.size, 0, none⟩ = some (.int .i64 (i : Int)) ∧ w'.cell? ⟨w.heap.size, 1, none⟩ = some (.int .i64 s)) (first | (with_reducible assumption) | (with_reducible exact And.intro v0 v1) | (with_reducible exact cells_s6 (by with_reducible assumption)))
    (first
      | (go_at_call 90; (with_reducible refine hpa.mono ?_); rintro e w1 ⟨rfl, hw⟩; have hw' := hw.symm; subst hw'; have hS : _ ∧ _ := ⟨v0, v1⟩)
      | (go_at_call 30; (with_reducible refine hgt.mono ?_); rintro e w2 ⟨dv, rfl, ho5, hb2⟩; obtain ⟨A5, c5, rfl, hn5, hm5, hr5⟩ := own_form ho5; have b2 := Bx.below bT hb2; have bI2 := Bx.below bI hb2; have hS : w2.cell? ⟨w.heap.size, 0, none⟩ = some (.int .i64 (i : Int)) ∧ w2.cell? ⟨w.heap.size, 1, none⟩ = some (.int .i64 s) := ⟨bI2.cell 0, bI2.cell 1⟩; have k0 := b2.cell 0; have k1 := b2.cell 1; have k2 := b2.cell 2; have k3 := b2.cell 3; have k4 := b2.cell 4; have k5 := b2.cell 5; have f0 := b2.frozen 0; have f1 := b2.frozen 1; have f2 := b2.frozen 2; have f3 := b2.frozen 3; have f4 := b2.frozen 4; have f5 := b2.frozen 5))
  go_wp2
  have hx := eV.next hb2
  have bz := ((((((b2.set 0 (.int .u64 (t.r : Int))).set 1 (.int .u64 (t.x : Int))).set 2 (.int .u64 (t.m : Int))).set 3 (.int .i64 t.p)).set 4 (.int .i64 t.s)).set 5 (.slice A5 t.d.length c5))
  have lz : Below w.heap.size w ((((((w2.setCell ⟨w.heap.size + 1, 0, none⟩ (.int .u64 (t.r : Int))).setCell ⟨w.heap.size + 1, 1, none⟩ (.int .u64 (t.x : Int))).setCell ⟨w.heap.size + 1, 2, none⟩ (.int .u64 (t.m : Int))).setCell ⟨w.heap.size + 1, 3, none⟩ (.int .i64 t.p)).setCell ⟨w.heap.size + 1, 4, none⟩ (.int .i64 t.s)).setCell ⟨w.heap.size + 1, 5, none⟩ (.slice A5 t.d.length c5)) := below_s6 hx
  have hy : w.heap.size + 2 ≤ W.drew.heap.size := bT.lt
  have oz : Byt ((((((w2.setCell ⟨w.heap.size + 1, 0, none⟩ (.int .u64 (t.r : Int))).setCell ⟨w.heap.size + 1, 1, none⟩ (.int .u64 (t.x : Int))).setCell ⟨w.heap.size + 1, 2, none⟩ (.int .u64 (t.m : Int))).setCell ⟨w.heap.size + 1, 3, none⟩ (.int .i64 t.p)).setCell ⟨w.heap.size + 1, 4, none⟩ (.int .i64 t.s)).setCell ⟨w.heap.size + 1, 5, none⟩ (.slice A5 t.d.length c5)) w.heap.size (.slice A5 t.d.length c5) t.d := own_set6 ho5 (show w.heap.size + 1 < W.drew.heap.size by omega) (by omega) _ _ _ _ _ _
  clear k0 k1 k2 k3 k4 k5 f0 f1 f2 f3 f4 f5
  generalize ((((((w2.setCell ⟨w.heap.size + 1, 0, none⟩ (.int .u64 (t.r : Int))).setCell ⟨w.heap.size + 1, 1, none⟩ (.int .u64 (t.x : Int))).setCell ⟨w.heap.size + 1, 2, none⟩ (.int .u64 (t.m : Int))).setCell ⟨w.heap.size + 1, 3, none⟩ (.int .i64 t.p)).setCell ⟨w.heap.size + 1, 4, none⟩ (.int .i64 t.s)).setCell ⟨w.heap.size + 1, 5, none⟩ (.slice A5 t.d.length c5)) = V at *
  have k0 := bz.cell 0
  have k1 := bz.cell 1
  have k2 := bz.cell 2
  have k3 := bz.cell 3
  have k4 := bz.cell 4
  have k5 := bz.cell 5
  refine bodyPost_ret (v := .tuple #[t.val (.slice A5 t.d.length c5), .bool true]) (by simp [results, Try.results61, go_sem, k0, k1, k2, k3, k4, k5, Ver.val, tupV]) rfl ?_
  exact ⟨_, rfl, oz, lz⟩
end
end Go.Proofs.Ytpnkmkenmpbekaa
