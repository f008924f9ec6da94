/-
  Entries of a book in memory: what their methods say.
-/
import Derived.Test.YtbmkhopmhmmibaaSnapD
import Derived.Test.YtbmkhopmhmmibaaBookN
import Derived.Deep.RegionHeld3
import Derived.Deep.DeepCutAuto
namespace Go.Proofs.Ytbmkhopmhmmibaa
open Go.RowKit
set_option linter.unusedVariables false

/-- What tables and indexes have in common. -/
structure Ent where
  id : Nat
  nm : ByteArray
  xmin : Nat
  xmax : Nat
def Ent.c (e : Ent) : List Value := [.int .u64 (e.id : Int), .string e.nm, .int .u64 (e.xmin : Int), .int .u64 (e.xmax : Int)]
/-- The entry at the head of block b. -/
structure En (w : World) (b : Nat) (e : Ent) : Prop where
  c0 : w.cell? ⟨b, 0, none⟩ = some (.int .u64 (e.id : Int))
  c1 : w.cell? ⟨b, 1, none⟩ = some (.string e.nm)
  c2 : w.cell? ⟨b, 2, none⟩ = some (.int .u64 (e.xmin : Int))
  c3 : w.cell? ⟨b, 3, none⟩ = some (.int .u64 (e.xmax : Int))
section
variable {w w' : World} {b g f : Nat} {e : Ent} {S R : List Nat} {F : Nat → Prop}
theorem En.below (h : En w b e) (hb : Below w.heap.size w w') : En w' b e := by
  have hl := World.block_lt_of_cell? _ _ h.c0
  exact ⟨(hb.cell (p := ⟨b, 0, none⟩) hl).trans h.c0, (hb.cell (p := ⟨b, 1, none⟩) hl).trans h.c1, (hb.cell (p := ⟨b, 2, none⟩) hl).trans h.c2, (hb.cell (p := ⟨b, 3, none⟩) hl).trans h.c3⟩
end
theorem called_any (w : World) (b : Nat) (x : Ent) (n : ByteArray) (h : En w b x) :
    Calls Try.prog 116 #[.pointer (some ⟨b, 0, none⟩), .string n] w fun e w' => e = .returned (.bool (x.nm.toList == n.toList)) ∧ Below w.heap.size w w' := by
  obtain ⟨c0, c1, c2, c3⟩ := h
  go_enter Try.func116, Try.ntmps116
  go_wp2
  go_ret
  exact ⟨rfl, Below.refl _ _⟩
theorem ended_any (w : World) (b own : Nat) (x : Ent) (h : En w b x) :
    Calls Try.prog 118 #[.pointer (some ⟨b, 0, none⟩), .int .u64 (own : Int)] w fun e w' => e = .returned (.bool (decide (x.xmax ≠ 0) && decide (x.xmax = own))) ∧ Below w.heap.size w w' := by
  obtain ⟨c0, c1, c2, c3⟩ := h
  have e2 : ((x.xmax : Int) == (own : Int)) = decide (x.xmax = own) := beq_int
  by_cases h0 : x.xmax = 0
  · have e1 : ((x.xmax : Int) != 0) = false := by rw [h0]; rfl
    have HD := Lib.hid (show decide (x.xmax ≠ 0) = false by simp [h0])
    clear h0
    go_enter Try.func118, Try.ntmps118
    go_wp2
    go_ret
    exact ⟨by rw [HD.out]; rfl, Below.refl _ _⟩
  · have e1 : ((x.xmax : Int) != 0) = true := by simp; omega
    have HD := Lib.hid (show decide (x.xmax ≠ 0) = true by simp [h0])
    generalize decide (x.xmax = own) = z at *
    clear h0
    go_enter Try.func118, Try.ntmps118
    go_wp2
    go_ret
    exact ⟨by rw [HD.out]; rfl, Below.refl _ _⟩
theorem undone_any (w : World) (b g f : Nat) (x : Ent) (S : List Nat) (F : Nat → Prop) (hl : LG w g f S F) (h : En w b x) :
    Calls Try.prog 89 #[.pointer (some ⟨b, 0, none⟩), .pointer (some ⟨g, 0, none⟩)] w fun e w' => e = .returned (.bool (decide (stt f S x.xmin = 3))) ∧ Below w.heap.size w w' := by
  obtain ⟨c0, c1, c2, c3⟩ := h
  have HS := Lib.hid (lg_state w g f x.xmin S F hl)
  have e3 : ((stt f S x.xmin : Int) == 3) = decide (stt f S x.xmin = 3) := beq_int (b := 3)
  generalize decide (stt f S x.xmin = 3) = z at *
  generalize stt f S x.xmin = sx at *
  clear hl
  go_enter Try.func89, Try.ntmps89
  go_wp2_with (go_at_call 28; (with_reducible refine (HS.out).mono ?_); rintro e w1 ⟨rfl, n1, hw1⟩; have hb1 := below_n w n1; rw [← hw1] at hb1; clear hw1)
  go_ret
  exact ⟨rfl, hb1⟩
/-- Is it there, or may it come to be? -/
def aliveE (f : Nat) (S : List Nat) (x : Ent) : Bool := !decide (stt f S x.xmin = 3) && !decide (stt f S x.xmax = 2)
theorem alive_any (w : World) (b g f : Nat) (x : Ent) (S : List Nat) (F : Nat → Prop) (hl : LG w g f S F) (h : En w b x) :
    Calls Try.prog 115 #[.pointer (some ⟨b, 0, none⟩), .pointer (some ⟨g, 0, none⟩)] w fun e w' => e = .returned (.bool (aliveE f S x)) ∧ Below w.heap.size w w' := by
  have HU := Lib.hid (undone_any w b g f x S F hl h)
  have HL := Lib.hid (fun W (hb : Below w.heap.size w W) => lg_state W g f x.xmax S F (hl.below hb))
  have HE := Lib.hid h
  unfold aliveE
  have e2 : ((stt f S x.xmax : Int) != 2) = !decide (stt f S x.xmax = 2) := congrArg (! ·) (beq_int (b := 2))
  generalize decide (stt f S x.xmin = 3) = z at *
  generalize decide (stt f S x.xmax = 2) = y at *
  generalize stt f S x.xmax = sx at *
  clear hl h
  go_enter Try.func115, Try.ntmps115
  go_wp2_with fail
  refine (HU.out).mono ?_
  rintro e w1 ⟨rfl, hb1⟩
  cases z with
  | true =>
    go_wp2
    go_ret
    exact ⟨rfl, hb1⟩
  | false =>
    obtain ⟨c0, c1, c2, c3⟩ := HE.out.below hb1
    go_wp2_with (go_at_call 28; (with_reducible refine (HL.out _ hb1).mono ?_); rintro e w2 ⟨rfl, n2, hw2⟩; have hb2 := hb1.next (below_n w1 n2); rw [← hw2] at hb2; clear hw2)
    go_ret
    exact ⟨by simp, hb2⟩
theorem cell_set6 {W : World} {a : Addr} {b : Nat} {u u0 u1 u2 u3 u4 u5 : Value} (hne : a.block ≠ b) (h : W.cell? a = some u) : ((((((W.setCell ⟨b, 0, none⟩ u0).setCell ⟨b, 1, none⟩ u1).setCell ⟨b, 2, none⟩ u2).setCell ⟨b, 3, none⟩ u3).setCell ⟨b, 4, none⟩ u4).setCell ⟨b, 5, none⟩ u5).cell? a = some u := by
  unfold World.cell? at h ⊢
  rw [heap_setCell_other _ ⟨b, 5, none⟩ _ _ hne, heap_setCell_other _ ⟨b, 4, none⟩ _ _ hne, heap_setCell_other _ ⟨b, 3, none⟩ _ _ hne, heap_setCell_other _ ⟨b, 2, none⟩ _ _ hne, heap_setCell_other _ ⟨b, 1, none⟩ _ _ hne, heap_setCell_other _ ⟨b, 0, none⟩ _ _ hne]
  exact h
theorem below_set6 {w W : World} {b : Nat} {u0 u1 u2 u3 u4 u5 : Value} (h : Below w.heap.size w W) (hb : w.heap.size ≤ b) : Below w.heap.size w ((((((W.setCell ⟨b, 0, none⟩ u0).setCell ⟨b, 1, none⟩ u1).setCell ⟨b, 2, none⟩ u2).setCell ⟨b, 3, none⟩ u3).setCell ⟨b, 4, none⟩ u4).setCell ⟨b, 5, none⟩ u5) :=
  (((((h.setCell hb _).setCell hb _).setCell hb _).setCell hb _).setCell hb _).setCell hb _
set_option maxRecDepth 100000 in
theorem stamped_any (w : World) (b : Nat) (x : Ent) (h : En w b x) :
    Calls Try.prog 93 #[.pointer (some ⟨b, 0, none⟩)] w fun e w' => e = .returned (tpv x.xmin x.xmax) ∧ Below w.heap.size w w' := by
  have hlt := World.block_lt_of_cell? _ _ h.c0
  have hne : b ≠ w.heap.size := by have : b < w.heap.size := hlt; omega
  have xz : Below w.heap.size w (w.alloc (.cells #[.int .u64 0, .int .u64 0, .int .u64 0, .int .i64 0, .int .i64 0, .slice none 0 0] 169)) := (Below.refl _ _).al _
  have xd := xz.next (below_n _ 1)
  have xf : Below w.heap.size w (w.alloc (.cells #[.int .u64 0, .int .u64 (x.xmin : Int), .int .u64 (x.xmax : Int), .int .i64 0, .int .i64 0, .slice none 0 0] 169)).drew := ((Below.refl _ _).al _).next (below_n _ 1)
  have hF := h.below xf
  have d2 : (w.alloc (.cells #[.int .u64 0, .int .u64 (x.xmin : Int), .int .u64 (x.xmax : Int), .int .i64 0, .int .i64 0, .slice none 0 0] 169)).drew.cell? ⟨b, 2, none⟩ = some (.int .u64 (x.xmin : Int)) := hF.c2
  have d3 : (w.alloc (.cells #[.int .u64 0, .int .u64 (x.xmin : Int), .int .u64 (x.xmax : Int), .int .i64 0, .int .i64 0, .slice none 0 0] 169)).drew.cell? ⟨b, 3, none⟩ = some (.int .u64 (x.xmax : Int)) := hF.c3
  have bf : Bx (w.alloc (.cells #[.int .u64 0, .int .u64 (x.xmin : Int), .int .u64 (x.xmax : Int), .int .i64 0, .int .i64 0, .slice none 0 0] 169)).drew w.heap.size 169 [.int .u64 0, .int .u64 (x.xmin : Int), .int .u64 (x.xmax : Int), .int .i64 0, .int .i64 0, .slice none 0 0] := Bx.new w 169 _ _ rfl
  clear hF
  have hE := h.below xd
  obtain ⟨c0, c1, c2, c3⟩ := hE
  have c2 : (w.alloc (.cells #[.int .u64 0, .int .u64 0, .int .u64 0, .int .i64 0, .int .i64 0, .slice none 0 0] 169)).drew.cell? ⟨b, 2, none⟩ = some (.int .u64 (x.xmin : Int)) := c2
  have c3 : (w.alloc (.cells #[.int .u64 0, .int .u64 0, .int .u64 0, .int .i64 0, .int .i64 0, .slice none 0 0] 169)).drew.cell? ⟨b, 3, none⟩ = some (.int .u64 (x.xmax : Int)) := c3
  go_enter Try.func93, Try.ntmps93
  have bz : Bx (w.alloc (.cells #[.int .u64 0, .int .u64 0, .int .u64 0, .int .i64 0, .int .i64 0, .slice none 0 0] 169)).drew w.heap.size 169 [.int .u64 0, .int .u64 0, .int .u64 0, .int .i64 0, .int .i64 0, .slice none 0 0] := Bx.new w 169 _ _ rfl
  have k0 := bz.cell 0
  have k1 := bz.cell 1
  have k2 := bz.cell 2
  have k3 := bz.cell 3
  have k4 := bz.cell 4
  have k5 := bz.cell 5
  have f0 := bz.frozen 0
  have f1 := bz.frozen 1
  have f2 := bz.frozen 2
  have f3 := bz.frozen 3
  have f4 := bz.frozen 4
  have f5 := bz.frozen 5
  go_upto_region 1 with fail
  go_region_held3 (fun w' => w'.cell? ⟨b, 2, none⟩ = some (.int .u64 (x.xmin : Int)) ∧ w'.cell? ⟨b, 3, none⟩ = some (.int .u64 (x.xmax : Int))) (first | (with_reducible assumption) | (with_reducible exact ⟨c2, c3⟩) | (with_reducible exact ⟨d2, d3⟩))
    (fail)
  have j0 : (w.alloc (.cells #[.int .u64 0, .int .u64 (x.xmin : Int), .int .u64 (x.xmax : Int), .int .i64 0, .int .i64 0, .slice none 0 0] 169)).drew.cell? ⟨w.heap.size, 0, none⟩ = some (.int .u64 0) := bf.cell 0
  have j1 : (w.alloc (.cells #[.int .u64 0, .int .u64 (x.xmin : Int), .int .u64 (x.xmax : Int), .int .i64 0, .int .i64 0, .slice none 0 0] 169)).drew.cell? ⟨w.heap.size, 1, none⟩ = some (.int .u64 (x.xmin : Int)) := bf.cell 1
  have j2 : (w.alloc (.cells #[.int .u64 0, .int .u64 (x.xmin : Int), .int .u64 (x.xmax : Int), .int .i64 0, .int .i64 0, .slice none 0 0] 169)).drew.cell? ⟨w.heap.size, 2, none⟩ = some (.int .u64 (x.xmax : Int)) := bf.cell 2
  have j3 : (w.alloc (.cells #[.int .u64 0, .int .u64 (x.xmin : Int), .int .u64 (x.xmax : Int), .int .i64 0, .int .i64 0, .slice none 0 0] 169)).drew.cell? ⟨w.heap.size, 3, none⟩ = some (.int .i64 0) := bf.cell 3
  have j4 : (w.alloc (.cells #[.int .u64 0, .int .u64 (x.xmin : Int), .int .u64 (x.xmax : Int), .int .i64 0, .int .i64 0, .slice none 0 0] 169)).drew.cell? ⟨w.heap.size, 4, none⟩ = some (.int .i64 0) := bf.cell 4
  have j5 : (w.alloc (.cells #[.int .u64 0, .int .u64 (x.xmin : Int), .int .u64 (x.xmax : Int), .int .i64 0, .int .i64 0, .slice none 0 0] 169)).drew.cell? ⟨w.heap.size, 5, none⟩ = some (.slice none 0 0) := bf.cell 5
  generalize (w.alloc (.cells #[.int .u64 0, .int .u64 (x.xmin : Int), .int .u64 (x.xmax : Int), .int .i64 0, .int .i64 0, .slice none 0 0] 169)).drew = W at *
  clear k0 k1 k2 k3 k4 k5 f0 f1 f2 f3 f4 f5 bz c2 c3
  go_wp2_with fail
  refine bodyPost_ret (v := tpv x.xmin x.xmax) (by simp [tpv, results, Try.results93, go_sem, j0, j1, j2, j3, j4, j5]) rfl ?_
  exact ⟨rfl, xf⟩
set_option maxRecDepth 100000 in
set_option maxHeartbeats 1000000 in
theorem evis_any (w : World) (b g f own xmin xmax bb : Nat) (x : Ent) (S R : List Nat) (F : Nat → Prop) (v : Value) (hl : LG w g f S F) (hR : w.ownsRow bb 28 1 v R.length (ucells .u64 R)) (hn : R.length ≤ 9223372036854775807) (h : En w b x) :
    Calls Try.prog 84 #[.pointer (some ⟨b, 0, none⟩), .pointer (some ⟨g, 0, none⟩), .agg #[.int .u64 (own : Int), .int .u64 (xmin : Int), .int .u64 (xmax : Int), v]] w fun e w' => e = .returned (.bool (visB f S own xmax R x.xmin x.xmax)) ∧ Below w.heap.size w w' := by
  obtain ⟨A, c, hv, _, _, _⟩ := own_form hR
  subst hv
  have x0 : Below w.heap.size w (w.alloc (.cells #[.int .u64 (own : Int), .int .u64 (xmin : Int), .int .u64 (xmax : Int), .slice A R.length c] 50)).drew := ((Below.refl _ _).al _).next (below_n _ 1)
  have b0 : Bx (w.alloc (.cells #[.int .u64 (own : Int), .int .u64 (xmin : Int), .int .u64 (xmax : Int), .slice A R.length c] 50)).drew w.heap.size 50 [.int .u64 (own : Int), .int .u64 (xmin : Int), .int .u64 (xmax : Int), .slice A R.length c] := Bx.new w 50 _ _ rfl
  have HST := Lib.hid (stamped_any _ b x (h.below x0))
  have HV : ∀ W, Below w.heap.size w W → Calls Try.prog 92 #[.pointer (some ⟨g, 0, none⟩), .agg #[.int .u64 (own : Int), .int .u64 (xmin : Int), .int .u64 (xmax : Int), .slice A R.length c], tpv x.xmin x.xmax] W fun e w' => e = .returned (.bool (visB f S own xmax R x.xmin x.xmax)) ∧ Below W.heap.size W w' := fun W hb => vis_any W g f own xmin xmax x.xmin x.xmax bb S R F _ (hl.below hb) (own_below hR hb) hn
  generalize visB f S own xmax R x.xmin x.xmax = z at *
  have HVH := Lib.hid HV
  have hS0 : (w.alloc (.cells #[.int .u64 (own : Int), .int .u64 (xmin : Int), .int .u64 (xmax : Int), .slice A R.length c] 50)).drew.cell? ⟨w.heap.size, 0, none⟩ = some (.int .u64 (own : Int)) ∧ (w.alloc (.cells #[.int .u64 (own : Int), .int .u64 (xmin : Int), .int .u64 (xmax : Int), .slice A R.length c] 50)).drew.cell? ⟨w.heap.size, 1, none⟩ = some (.int .u64 (xmin : Int)) ∧ (w.alloc (.cells #[.int .u64 (own : Int), .int .u64 (xmin : Int), .int .u64 (xmax : Int), .slice A R.length c] 50)).drew.cell? ⟨w.heap.size, 2, none⟩ = some (.int .u64 (xmax : Int)) ∧ (w.alloc (.cells #[.int .u64 (own : Int), .int .u64 (xmin : Int), .int .u64 (xmax : Int), .slice A R.length c] 50)).drew.cell? ⟨w.heap.size, 3, none⟩ = some (.slice A R.length c) := ⟨b0.cell 0, b0.cell 1, b0.cell 2, b0.cell 3⟩
  clear HV hl hR h
  go_enter Try.func84, Try.ntmps84
  go_upto_region 1 with fail
  go_region_held3 (fun w' => w'.cell? ⟨w.heap.size, 0, none⟩ = some (.int .u64 (own : Int)) ∧ w'.cell? ⟨w.heap.size, 1, none⟩ = some (.int .u64 (xmin : Int)) ∧ w'.cell? ⟨w.heap.size, 2, none⟩ = some (.int .u64 (xmax : Int)) ∧ w'.cell? ⟨w.heap.size, 3, none⟩ = some (.slice A R.length c)) (first | (with_reducible assumption))
    (first
    | (go_at_call 93; (with_reducible refine (HST.out).mono ?_); rintro e w1 ⟨rfl, hb1⟩; have x1 := x0.next hb1; have b1 := b0.below hb1; have hS1 : w1.cell? ⟨w.heap.size, 0, none⟩ = some (.int .u64 (own : Int)) ∧ w1.cell? ⟨w.heap.size, 1, none⟩ = some (.int .u64 (xmin : Int)) ∧ w1.cell? ⟨w.heap.size, 2, none⟩ = some (.int .u64 (xmax : Int)) ∧ w1.cell? ⟨w.heap.size, 3, none⟩ = some (.slice A R.length c) := ⟨b1.cell 0, b1.cell 1, b1.cell 2, b1.cell 3⟩)
    | (go_at_call 92; (with_reducible refine (HVH.out _ x1).mono ?_); rintro e w2 ⟨rfl, hb2⟩; have x2 := x1.next hb2; have b2 := b1.below hb2; have hS2 : w2.cell? ⟨w.heap.size, 0, none⟩ = some (.int .u64 (own : Int)) ∧ w2.cell? ⟨w.heap.size, 1, none⟩ = some (.int .u64 (xmin : Int)) ∧ w2.cell? ⟨w.heap.size, 2, none⟩ = some (.int .u64 (xmax : Int)) ∧ w2.cell? ⟨w.heap.size, 3, none⟩ = some (.slice A R.length c) := ⟨b2.cell 0, b2.cell 1, b2.cell 2, b2.cell 3⟩))
  go_wp2_with fail
  go_ret
  exact ⟨rfl, x2⟩
end Go.Proofs.Ytbmkhopmhmmibaa
