/-
  Pages: read, Get, Bytes.
-/
import Derived.Test.YtpnkmkenmpbekaaPageF
namespace Go.Proofs.Ytpnkmkenmpbekaa
open Go.RowKit

/-- Bytes of a page. -/
def btl (f : Nat → UInt8) (a n : Nat) : List UInt8 := (List.range n).map fun j => f (a + j)
theorem btl_length (f : Nat → UInt8) (a n : Nat) : (btl f a n).length = n := by simp [btl]
theorem btl_get (f : Nat → UInt8) (a : Nat) {n j : Nat} (h : j < n) : (btl f a n)[j]? = some (f (a + j)) := by simp [btl, h]
theorem adr_some (g a : Nat) : ∃ ad, adr g a = some ad := by unfold adr; split <;> exact ⟨_, rfl⟩
theorem Pgm.brd {w : World} {g : Nat} {f : Nat → UInt8} (h : Pgm w g f) {a n : Nat} (ha : a + n ≤ 512) : Brd w (adr g a) (btl f a n) := by
  refine ⟨by rw [bcells_length]; simp, fun j u hu => ?_⟩
  have hj : j < n := by have := (List.getElem?_eq_some_iff.1 hu).1; rw [bcells_length, btl_length] at this; exact this
  rw [adr_lt (show a < 512 by omega)]
  refine ⟨_, rfl, ?_⟩
  rw [Addr.add_lit, h.cell (show a + j < 512 by omega), ← hu]
  unfold bcells
  rw [List.getElem?_map, btl_get f a hj]; rfl
theorem below_set6 {w W : World} {u0 u1 u2 u3 u4 u5 : Value} (h : Below w.heap.size w W) : Below w.heap.size w ((((((W.setCell ⟨w.heap.size, 0, none⟩ u0).setCell ⟨w.heap.size, 1, none⟩ u1).setCell ⟨w.heap.size, 2, none⟩ u2).setCell ⟨w.heap.size, 3, none⟩ u3).setCell ⟨w.heap.size, 4, none⟩ u4).setCell ⟨w.heap.size, 5, none⟩ u5) :=
  (((((h.setCell (Nat.le_refl _) _).setCell (Nat.le_refl _) _).setCell (Nat.le_refl _) _).setCell (Nat.le_refl _) _).setCell (Nat.le_refl _) _).setCell (Nat.le_refl _) _
theorem own_set {w : World} {base : Nat} {e : TypeId} {size n : Nat} {v : Value} {xs : List Value} (h : w.ownsRow base e size v n xs) {g : Nat} (hg : g < base) (i : Nat) (u : Value) : (w.setCell ⟨g, i, none⟩ u).ownsRow base e size v n xs := by
  refine h.kept (grown_set w g i u) ?_
  cases hv : v.ownBlock with
  | none => exact .inl rfl
  | some k =>
    right
    intro e
    have := (h.lt k hv).1
    injection e with e
    omega
theorem own_set6 {w : World} {base b : Nat} {e : TypeId} {size n : Nat} {v : Value} {xs : List Value} (h : w.ownsRow base e size v n xs) {g : Nat} (hg : g < base) (hb : b ≤ base) (u0 u1 u2 u3 u4 u5 : Value) :
    ((((((w.setCell ⟨g, 0, none⟩ u0).setCell ⟨g, 1, none⟩ u1).setCell ⟨g, 2, none⟩ u2).setCell ⟨g, 3, none⟩ u3).setCell ⟨g, 4, none⟩ u4).setCell ⟨g, 5, none⟩ u5).ownsRow b e size v n xs :=
  own_le (own_set (own_set (own_set (own_set (own_set (own_set h hg _ _) hg _ _) hg _ _) hg _ _) hg _ _) hg _ _) hb
theorem Bx.set {w : World} {b : Nat} {T : TypeId} {l : List Value} (h : Bx w b T l) (i : Nat) (u : Value) : Bx (w.setCell ⟨b, i, none⟩ u) b T (l.set i u) := by
  have := heap_setCell_same w b i _ _ u h
  unfold Bx
  simpa using this
def tupV (r x m : Nat) (p s : Int) (v : Value) : Value := .agg #[.int .u64 (r : Int), .int .u64 (x : Int), .int .u64 (m : Int), .int .i64 p, .int .i64 s, v]
set_option maxRecDepth 100000 in
set_option maxHeartbeats 4000000 in
theorem read_any (w : World) (g : Nat) (f : Nat → UInt8) (x : Int) (k : Nat) (hx : x = (k : Int)) (hk : k < 127) (h : Pgm w g f) (hz : 30 ≤ nZ f k) (ha : nA f k + nZ f k ≤ 512) :
    Calls Try.prog 78 #[.pointer (some ⟨g, 0, none⟩), .int .i64 x] w fun e w' => ∃ v, e = .returned (.agg #[.int .u64 (le f (nA f k) 8 : Int), .int .u64 (le f (nA f k + 8) 8 : Int), .int .u64 (le f (nA f k + 16) 8 : Int), .int .i64 ((le f (nA f k + 24) 4 : Int) - 1), .int .i64 ((le f (nA f k + 28) 2 : Int) - 1), v]) ∧ Byt w' w.heap.size v (btl f (nA f k + 30) (nZ f k - 30)) ∧ Below w.heap.size w w' := by
  have hspan := fun w hp => span_any w g f x k hx hk hp
  have HSP := Lib.hid hspan
  generalize nA f k = a at *
  generalize nZ f k = z at *
  obtain ⟨ad, had⟩ := adr_some g (a + 30)
  have hbr := fun (w : World) (hp : Pgm w g f) => hp.brd (a := a + 30) (n := z - 30) (by omega)
  rw [had] at hbr
  have hsl := sl_both g (a + 30) (a + z) ((a : Int) + 30) ((a : Int) + (z : Int)) (by omega) (by omega) (by omega) (by omega)
  rw [had, show a + z - (a + 30) = z - 30 by omega] at hsl
  have hbl := btl_length f (a + 30) (z - 30)
  have hl4 := le_lt f (a + 24) 4
  have hl2 := le_lt f (a + 28) 2
  have n0 := fun w (hp : Pgm w g f) => number_i w g f (a : Int) 8 a 8 rfl rfl hp (by omega) (by omega) (by omega)
  have n1 := fun w (hp : Pgm w g f) => number_i w g f ((a : Int) + 8) 8 (a + 8) 8 (by omega) rfl hp (by omega) (by omega) (by omega)
  have n2 := fun w (hp : Pgm w g f) => number_i w g f ((a : Int) + 16) 8 (a + 16) 8 (by omega) rfl hp (by omega) (by omega) (by omega)
  have n3 := fun w (hp : Pgm w g f) => number_i w g f ((a : Int) + 24) 4 (a + 24) 4 (by omega) rfl hp (by omega) (by omega) (by omega)
  have n4 := fun w (hp : Pgm w g f) => number_i w g f ((a : Int) + 28) 2 (a + 28) 2 (by omega) rfl hp (by omega) (by omega) (by omega)
  have N0 := Lib.hid n0
  have N1 := Lib.hid n1
  have N2 := Lib.hid n2
  have N3 := Lib.hid n3
  have N4 := Lib.hid n4
  have HBR := Lib.hid hbr
  have hgne : g ≠ w.heap.size := by have := h.lt; omega
  generalize le f a 8 = q0 at *
  generalize le f (a + 8) 8 = q1 at *
  generalize le f (a + 16) 8 = q2 at *
  generalize le f (a + 24) 4 = q3 at *
  generalize le f (a + 28) 2 = q4 at *
  generalize btl f (a + 30) (z - 30) = l at *
  have HBL := Lib.hid hbl
  have hcl := fun (c : Nat) (W : World) (hB : Brd W (some ad) l) => clone_any ad c l W hB (by omega)
  rw [HBL.out] at hcl
  have HCL := Lib.hid hcl
  clear hcl
  have hw0 : IntKind.i64.wrap ((a : Int) + 0) = (a : Int) := IntWalk.i64_in _ (by omega)
  have hw00 : IntKind.i64.wrap (a : Int) = (a : Int) := IntWalk.i64_in _ (by omega)
  have hw1 : IntKind.i64.wrap ((a : Int) + 8) = (a : Int) + 8 := IntWalk.i64_in _ (by omega)
  have hw2 : IntKind.i64.wrap ((a : Int) + 16) = (a : Int) + 16 := IntWalk.i64_in _ (by omega)
  have hw3 : IntKind.i64.wrap ((a : Int) + 24) = (a : Int) + 24 := IntWalk.i64_in _ (by omega)
  have hw4 : IntKind.i64.wrap ((a : Int) + 28) = (a : Int) + 28 := IntWalk.i64_in _ (by omega)
  have hw5 : IntKind.i64.wrap ((a : Int) + 30) = (a : Int) + 30 := IntWalk.i64_in _ (by omega)
  have hw6 : IntKind.i64.wrap ((a : Int) + (z : Int)) = (a : Int) + (z : Int) := IntWalk.i64_in _ (by omega)
  have hw7 : IntKind.i64.wrap (q3 : Int) = (q3 : Int) := IntWalk.i64_in _ (by omega)
  have hw8 : IntKind.i64.wrap ((q3 : Int) - 1) = (q3 : Int) - 1 := IntWalk.i64_in _ (by omega)
  have hw9 : IntKind.i64.wrap (q4 : Int) = (q4 : Int) := IntWalk.i64_in _ (by omega)
  have hwa : IntKind.i64.wrap ((q4 : Int) - 1) = (q4 : Int) - 1 := IntWalk.i64_in _ (by omega)
  clear hspan had hbr hbl n0 n1 n2 n3 n4 hx
  go_enter Try.func78, Try.ntmps78
  go_wp2_with (go_at_call 74; (with_reducible refine (HSP.out _ (h.alloc _)).mono ?_); rintro e w2 ⟨rfl, hw1⟩; have hw := hw1.symm; subst hw)
  have h0 := h.alloc (.cells #[.int .u64 0, .int .u64 0, .int .u64 0, .int .i64 0, .int .i64 0, .slice none 0 0] 44)
  have b0 := Bx.new w 44 _ [.int .u64 0, .int .u64 0, .int .u64 0, .int .i64 0, .int .i64 0, .slice none 0 0] rfl
  generalize hw0 : w.alloc (.cells #[.int .u64 0, .int .u64 0, .int .u64 0, .int .i64 0, .int .i64 0, .slice none 0 0] 44) = w0 at *
  have hz0 : w.heap.size < w0.heap.size := by rw [← hw0]; simp
  have hb0 : Below w.heap.size w w0 := by rw [← hw0]; exact (Below.refl _ _).alloc (Nat.le_refl _) _
  clear hw0 h
  go_region_held3 (fun w' => Below w.heap.size w w') (first | (with_reducible assumption) | (with_reducible exact Below.drew (by assumption)) | (with_reducible exact below_set6 (by assumption)))
    (first
    | (go_at_call 76; (with_reducible refine (N0.out _ ?_).mono ?_); exact h0; rintro e w4 ⟨rfl, hw4⟩; have hw4' := hw4.symm; subst hw4')
    | (go_at_call 76; (with_reducible refine (N1.out _ ?_).mono ?_); exact h0; rintro e w4 ⟨rfl, hw4⟩; have hw4' := hw4.symm; subst hw4')
    | (go_at_call 76; (with_reducible refine (N2.out _ ?_).mono ?_); exact h0; rintro e w4 ⟨rfl, hw4⟩; have hw4' := hw4.symm; subst hw4')
    | (go_at_call 76; (with_reducible refine (N3.out _ ?_).mono ?_); exact h0; rintro e w4 ⟨rfl, hw4⟩; have hw4' := hw4.symm; subst hw4')
    | (go_at_call 76; (with_reducible refine (N4.out _ ?_).mono ?_); exact h0; rintro e w4 ⟨rfl, hw4⟩; have hw4' := hw4.symm; subst hw4')
    | (go_at_call 68; (with_reducible refine (HCL.out _ _ ?_).mono ?_); exact HBR.out _ h0; rintro e w5 ⟨v5, rfl, ho5, hb5⟩; obtain ⟨A5, c5, rfl, hn5, hm5, hr5⟩ := own_form ho5; have hS5 : Below w.heap.size w w5 := Below.next (by assumption) hb5; have b5 := Bx.kept (w := w0.drew) b0 (grown_of_below hb5 none) (by simp); have k0 := b5.cell 0; have k1 := b5.cell 1; have k2 := b5.cell 2; have k3 := b5.cell 3; have k4 := b5.cell 4; have k5 := b5.cell 5; have f0 := b5.frozen 0; have f1 := b5.frozen 1; have f2 := b5.frozen 2; have f3 := b5.frozen 3; have f4 := b5.frozen 4; have f5 := b5.frozen 5))
  go_wp2
  have bz := ((((((b5.set 0 (.int .u64 (q0 : Int))).set 1 (.int .u64 (q1 : Int))).set 2 (.int .u64 (q2 : Int))).set 3 (.int .i64 ((q3 : Int) - 1))).set 4 (.int .i64 ((q4 : Int) - 1))).set 5 (.slice A5 l.length c5))
  have oz := own_set6 (b := w.heap.size) ho5 hz0 (Nat.le_of_lt hz0) (.int .u64 (q0 : Int)) (.int .u64 (q1 : Int)) (.int .u64 (q2 : Int)) (.int .i64 ((q3 : Int) - 1)) (.int .i64 ((q4 : Int) - 1)) (.slice A5 l.length c5)
  have lz := below_set6 (u0 := .int .u64 (q0 : Int)) (u1 := .int .u64 (q1 : Int)) (u2 := .int .u64 (q2 : Int)) (u3 := .int .i64 ((q3 : Int) - 1)) (u4 := .int .i64 ((q4 : Int) - 1)) (u5 := .slice A5 l.length c5) hS5
  clear k0 k1 k2 k3 k4 k5 f0 f1 f2 f3 f4 f5
  generalize ((((((w5.setCell ⟨w.heap.size, 0, none⟩ (.int .u64 (q0 : Int))).setCell ⟨w.heap.size, 1, none⟩ (.int .u64 (q1 : Int))).setCell ⟨w.heap.size, 2, none⟩ (.int .u64 (q2 : Int))).setCell ⟨w.heap.size, 3, none⟩ (.int .i64 ((q3 : Int) - 1))).setCell ⟨w.heap.size, 4, none⟩ (.int .i64 ((q4 : Int) - 1))).setCell ⟨w.heap.size, 5, none⟩ (.slice A5 l.length c5)) = W at *
  have k0 := bz.cell 0
  have k1 := bz.cell 1
  have k2 := bz.cell 2
  have k3 := bz.cell 3
  have k4 := bz.cell 4
  have k5 := bz.cell 5
  refine bodyPost_ret (v := .agg #[.int .u64 (q0 : Int), .int .u64 (q1 : Int), .int .u64 (q2 : Int), .int .i64 ((q3 : Int) - 1), .int .i64 ((q4 : Int) - 1), .slice A5 l.length c5]) (by simp [results, Try.results78, go_sem, k0, k1, k2, k3, k4, k5]) rfl ?_
  exact ⟨_, rfl, oz, lz⟩
end Go.Proofs.Ytpnkmkenmpbekaa
