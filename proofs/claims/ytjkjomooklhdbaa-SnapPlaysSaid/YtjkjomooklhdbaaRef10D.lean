/-
  Free of both; Horizon of the document's.
-/
import Derived.Test.YtjkjomooklhdbaaRef10C
import Derived.Test.YtjkjomooklhdbaaSnapE
import Derived.Test.YtjkjomooklhdbaaPlayA
namespace Go.Proofs.Ytjkjomooklhdbaa
open Go.RowKit
set_option linter.unusedVariables false

def freeV (f : Nat) (S : List Nat) (own xmax : Nat) (R : List Nat) (a b : Nat) : Int := if b ≠ 0 ∧ b ≠ own ∧ stt f S b ≠ 3 then 11 else if visB f S own xmax R a b then 0 else 14
theorem freeV_eq (f : Nat) (S : List Nat) (own xmax : Nat) (R : List Nat) (a b : Nat) : freeV f S own xmax R a b = if b ≠ 0 ∧ b ≠ own ∧ stt f S b ≠ 3 then 11 else if visB f S own xmax R a b then 0 else 14 := rfl
set_option maxRecDepth 100000 in
set_option maxHeartbeats 1000000 in
theorem free_any (w : World) (g f own xmin xmax a b bb : Nat) (S R : List Nat) (F : Nat → Prop) (v : Value) (h : LG w g f S F) (hR : w.ownsRow bb 22 1 v R.length (ucells .u64 R)) (hn : R.length ≤ 9223372036854775807) :
    Calls Try.prog 38 #[.pointer (some ⟨g, 0, none⟩), .agg #[.int .u64 (own : Int), .int .u64 (xmin : Int), .int .u64 (xmax : Int), v], .agg #[.int .u64 0, .int .u64 (a : Int), .int .u64 (b : Int), .int .i64 0, .int .i64 0, .slice none 0 0]] w fun e w' => e = .returned (.int .i64 (freeV f S own xmax R a b)) ∧ Below w.heap.size w w' := by
  obtain ⟨A, c, hv, _, _, _⟩ := own_form hR
  subst hv
  have hA : Below w.heap.size w ((w.alloc (.cells #[.int .u64 (own : Int), .int .u64 (xmin : Int), .int .u64 (xmax : Int), .slice A R.length c] 76)).alloc (.cells #[.int .u64 0, .int .u64 (a : Int), .int .u64 (b : Int), .int .i64 0, .int .i64 0, .slice none 0 0] 71)) := ((Below.refl _ _).al _).al _
  have b0 := (Bx.new w 76 #[.int .u64 (own : Int), .int .u64 (xmin : Int), .int .u64 (xmax : Int), .slice A R.length c] [.int .u64 (own : Int), .int .u64 (xmin : Int), .int .u64 (xmax : Int), .slice A R.length c] rfl).alloc (.cells #[.int .u64 0, .int .u64 (a : Int), .int .u64 (b : Int), .int .i64 0, .int .i64 0, .slice none 0 0] 71)
  have t0 := Bx.new (w.alloc (.cells #[.int .u64 (own : Int), .int .u64 (xmin : Int), .int .u64 (xmax : Int), .slice A R.length c] 76)) 71 #[.int .u64 0, .int .u64 (a : Int), .int .u64 (b : Int), .int .i64 0, .int .i64 0, .slice none 0 0] [.int .u64 0, .int .u64 (a : Int), .int .u64 (b : Int), .int .i64 0, .int .i64 0, .slice none 0 0] rfl
  have hsz : (w.alloc (.cells #[.int .u64 (own : Int), .int .u64 (xmin : Int), .int .u64 (xmax : Int), .slice A R.length c] 76)).heap.size = w.heap.size + 1 := by simp
  rw [hsz] at t0
  have h1 := h.below hA
  have R1 := own_below hR hA
  have HVV0 : ∀ W, Below ((w.alloc (.cells #[.int .u64 (own : Int), .int .u64 (xmin : Int), .int .u64 (xmax : Int), .slice A R.length c] 76)).alloc (.cells #[.int .u64 0, .int .u64 (a : Int), .int .u64 (b : Int), .int .i64 0, .int .i64 0, .slice none 0 0] 71)).heap.size ((w.alloc (.cells #[.int .u64 (own : Int), .int .u64 (xmin : Int), .int .u64 (xmax : Int), .slice A R.length c] 76)).alloc (.cells #[.int .u64 0, .int .u64 (a : Int), .int .u64 (b : Int), .int .i64 0, .int .i64 0, .slice none 0 0] 71)) W → Calls Try.prog 36 #[.pointer (some ⟨g, 0, none⟩), .agg #[.int .u64 (own : Int), .int .u64 (xmin : Int), .int .u64 (xmax : Int), .slice A R.length c], .agg #[.int .u64 0, .int .u64 (a : Int), .int .u64 (b : Int), .int .i64 0, .int .i64 0, .slice none 0 0]] W fun e w' => e = .returned (.bool (visB f S own xmax R a b)) ∧ Below W.heap.size W w' := fun W hb => vis_any W g f own xmin xmax a b bb S R F _ (h1.below hb) (own_below R1 hb) hn
  have HVV := Lib.hid HVV0
  have HST := Lib.hid (fun W (hW : LG W g f S F) => lg_state W g f b S F hW)
  have HH := Lib.hid h1
  have HFV := Lib.hid (freeV_eq f S own xmax R a b)
  have hB0 := below_n ((w.alloc (.cells #[.int .u64 (own : Int), .int .u64 (xmin : Int), .int .u64 (xmax : Int), .slice A R.length c] 76)).alloc (.cells #[.int .u64 0, .int .u64 (a : Int), .int .u64 (b : Int), .int .i64 0, .int .i64 0, .slice none 0 0] 71)) 0
  have hBr : Below ((w.alloc (.cells #[.int .u64 (own : Int), .int .u64 (xmin : Int), .int .u64 (xmax : Int), .slice A R.length c] 76)).alloc (.cells #[.int .u64 0, .int .u64 (a : Int), .int .u64 (b : Int), .int .i64 0, .int .i64 0, .slice none 0 0] 71)).heap.size ((w.alloc (.cells #[.int .u64 (own : Int), .int .u64 (xmin : Int), .int .u64 (xmax : Int), .slice A R.length c] 76)).alloc (.cells #[.int .u64 0, .int .u64 (a : Int), .int .u64 (b : Int), .int .i64 0, .int .i64 0, .slice none 0 0] 71)) ((w.alloc (.cells #[.int .u64 (own : Int), .int .u64 (xmin : Int), .int .u64 (xmax : Int), .slice A R.length c] 76)).alloc (.cells #[.int .u64 0, .int .u64 (a : Int), .int .u64 (b : Int), .int .i64 0, .int .i64 0, .slice none 0 0] 71)) := Below.refl _ _
  have k0 := b0.cell 0
  have k1 := b0.cell 1
  have k2 := b0.cell 2
  have k3 := b0.cell 3
  have t1 := t0.cell 1
  have t2 := t0.cell 2
  clear h hR R1 h1 HVV0 hsz
  by_cases hb0 : b = 0
  · have hbz : ((b : Int) != 0) = false := by rw [hb0]; rfl
    have hif : ¬ (b ≠ 0 ∧ b ≠ own ∧ stt f S b ≠ 3) := fun hh => hh.1 hb0
    have HIF := Lib.hid hif
    clear hb0 hif
    go_enter Try.func38, Try.ntmps38
    cases hvi : visB f S own xmax R a b with
    | false =>
      have HV := Lib.hid (HVV.out _ hBr)
      rw [hvi] at HV
      go_wp2_with (go_at_call 36; (with_reducible refine (HV.out).mono ?_); rintro e w9 ⟨rfl, hb9⟩; have x9 := (hA.next hBr).next hb9)
      go_ret
      exact ⟨by rw [HFV.out, if_neg HIF.out, hvi]; rfl, x9⟩
    | true =>
      have HV := Lib.hid (HVV.out _ hBr)
      rw [hvi] at HV
      go_wp2_with (go_at_call 36; (with_reducible refine (HV.out).mono ?_); rintro e w9 ⟨rfl, hb9⟩; have x9 := (hA.next hBr).next hb9)
      go_ret
      exact ⟨by rw [HFV.out, if_neg HIF.out, hvi]; rfl, x9⟩
  · have hbz : ((b : Int) != 0) = true := by simp; omega
    by_cases hbo : b = own
    · have hbw : ((b : Int) != (own : Int)) = false := by rw [hbo]; simp
      have hif : ¬ (b ≠ 0 ∧ b ≠ own ∧ stt f S b ≠ 3) := fun hh => hh.2.1 hbo
      have HIF := Lib.hid hif
      clear hb0 hif hbo
      go_enter Try.func38, Try.ntmps38
      cases hvi : visB f S own xmax R a b with
      | false =>
        have HV := Lib.hid (HVV.out _ hBr)
        rw [hvi] at HV
        go_wp2_with (go_at_call 36; (with_reducible refine (HV.out).mono ?_); rintro e w9 ⟨rfl, hb9⟩; have x9 := (hA.next hBr).next hb9)
        go_ret
        exact ⟨by rw [HFV.out, if_neg HIF.out, hvi]; rfl, x9⟩
      | true =>
        have HV := Lib.hid (HVV.out _ hBr)
        rw [hvi] at HV
        go_wp2_with (go_at_call 36; (with_reducible refine (HV.out).mono ?_); rintro e w9 ⟨rfl, hb9⟩; have x9 := (hA.next hBr).next hb9)
        go_ret
        exact ⟨by rw [HFV.out, if_neg HIF.out, hvi]; rfl, x9⟩
    · have hbw : ((b : Int) != (own : Int)) = true := by simp; omega
      have HS := Lib.hid (HST.out _ HH.out)
      by_cases hs3 : stt f S b = 3
      · have hif : ¬ (b ≠ 0 ∧ b ≠ own ∧ stt f S b ≠ 3) := fun hh => hh.2.2 hs3
        rw [hs3] at HS
        have HIF := Lib.hid hif
        clear hb0 hif hbo hs3
        go_enter Try.func38, Try.ntmps38
        go_wp2_with fail
        refine (HS.out).mono ?_
        rintro e w1 ⟨rfl, n1, hw1⟩
        have hb1 := below_n ((w.alloc (.cells #[.int .u64 (own : Int), .int .u64 (xmin : Int), .int .u64 (xmax : Int), .slice A R.length c] 76)).alloc (.cells #[.int .u64 0, .int .u64 (a : Int), .int .u64 (b : Int), .int .i64 0, .int .i64 0, .slice none 0 0] 71)) n1
        rw [← hw1] at hb1
        have b1 := b0.below hb1
        have u1 := t0.below hb1
        have m0 := b1.cell 0
        have m1 := b1.cell 1
        have m2 := b1.cell 2
        have m3 := b1.cell 3
        have n0 := u1.cell 0
        have n1' := u1.cell 1
        have n2 := u1.cell 2
        have n3 := u1.cell 3
        have n4 := u1.cell 4
        have n5 := u1.cell 5
        clear hw1
        cases hvi : visB f S own xmax R a b with
        | false =>
          have HV := Lib.hid (HVV.out _ hb1)
          rw [hvi] at HV
          go_wp2_with (go_at_call 36; (with_reducible refine (HV.out).mono ?_); rintro e w9 ⟨rfl, hb9⟩; have x9 := (hA.next hb1).next hb9)
          go_ret
          exact ⟨by rw [HFV.out, if_neg HIF.out, hvi]; rfl, x9⟩
        | true =>
          have HV := Lib.hid (HVV.out _ hb1)
          rw [hvi] at HV
          go_wp2_with (go_at_call 36; (with_reducible refine (HV.out).mono ?_); rintro e w9 ⟨rfl, hb9⟩; have x9 := (hA.next hb1).next hb9)
          go_ret
          exact ⟨by rw [HFV.out, if_neg HIF.out, hvi]; rfl, x9⟩
      · have hif : b ≠ 0 ∧ b ≠ own ∧ stt f S b ≠ 3 := ⟨hb0, hbo, hs3⟩
        have hsb : ((stt f S b : Nat) : Int) != 3 := by simp; omega
        have HIF := Lib.hid hif
        generalize stt f S b = sb at *
        clear hb0 hbo hs3 hif
        go_enter Try.func38, Try.ntmps38
        go_wp2_with (go_at_call 20; (with_reducible refine (HS.out).mono ?_); rintro e w1 ⟨rfl, n1, hw1⟩; have hb1 := hA.next (below_n _ n1); rw [← hw1] at hb1; clear hw1)
        go_ret
        exact ⟨by rw [HFV.out, if_pos HIF.out]; rfl, hb1⟩
set_option maxRecDepth 100000 in
set_option maxHeartbeats 1000000 in
theorem rfree_any (w : World) (g f own xmax a b bb : Nat) (S R : List Nat) (F : Nat → Prop) (v : Value) (h : RG w g f S F) (hR : w.ownsRow bb 22 1 v R.length (ucells .u64 R)) (hn : R.length ≤ 9223372036854775807) (ha64 : a < 18446744073709551616) (hb64 : b < 18446744073709551616) :
    Calls Try.prog 39 #[.pointer (some ⟨g, 0, none⟩), .agg #[.int .u64 (own : Int), .int .u64 (xmax : Int), v], .agg #[.int .u64 0, .int .u64 (a : Int), .int .u64 (b : Int), .int .i64 0, .int .i64 0, .slice none 0 0]] w fun e w' => e = .returned (.int .i64 (freeV f S own xmax R a b)) ∧ Below w.heap.size w w' := by
  obtain ⟨A, c, hv, _, _, _⟩ := own_form hR
  subst hv
  have hA : Below w.heap.size w ((w.alloc (.cells #[.int .u64 (own : Int), .int .u64 (xmax : Int), .slice A R.length c] 80)).alloc (.cells #[.int .u64 0, .int .u64 (a : Int), .int .u64 (b : Int), .int .i64 0, .int .i64 0, .slice none 0 0] 71)) := ((Below.refl _ _).al _).al _
  have b0 := (Bx.new w 80 #[.int .u64 (own : Int), .int .u64 (xmax : Int), .slice A R.length c] [.int .u64 (own : Int), .int .u64 (xmax : Int), .slice A R.length c] rfl).alloc (.cells #[.int .u64 0, .int .u64 (a : Int), .int .u64 (b : Int), .int .i64 0, .int .i64 0, .slice none 0 0] 71)
  have t0 := Bx.new (w.alloc (.cells #[.int .u64 (own : Int), .int .u64 (xmax : Int), .slice A R.length c] 80)) 71 #[.int .u64 0, .int .u64 (a : Int), .int .u64 (b : Int), .int .i64 0, .int .i64 0, .slice none 0 0] [.int .u64 0, .int .u64 (a : Int), .int .u64 (b : Int), .int .i64 0, .int .i64 0, .slice none 0 0] rfl
  have hsz : (w.alloc (.cells #[.int .u64 (own : Int), .int .u64 (xmax : Int), .slice A R.length c] 80)).heap.size = w.heap.size + 1 := by simp
  rw [hsz] at t0
  have h1 := h.below hA
  have R1 := own_below hR hA
  have HVV0 : ∀ W, Below ((w.alloc (.cells #[.int .u64 (own : Int), .int .u64 (xmax : Int), .slice A R.length c] 80)).alloc (.cells #[.int .u64 0, .int .u64 (a : Int), .int .u64 (b : Int), .int .i64 0, .int .i64 0, .slice none 0 0] 71)).heap.size ((w.alloc (.cells #[.int .u64 (own : Int), .int .u64 (xmax : Int), .slice A R.length c] 80)).alloc (.cells #[.int .u64 0, .int .u64 (a : Int), .int .u64 (b : Int), .int .i64 0, .int .i64 0, .slice none 0 0] 71)) W → Calls Try.prog 37 #[.pointer (some ⟨g, 0, none⟩), .agg #[.int .u64 (own : Int), .int .u64 (xmax : Int), .slice A R.length c], .agg #[.int .u64 0, .int .u64 (a : Int), .int .u64 (b : Int), .int .i64 0, .int .i64 0, .slice none 0 0]] W fun e w' => e = .returned (.bool (visB f S own xmax R a b)) ∧ Below W.heap.size W w' := fun W hb => rvis_any W g f own xmax a b bb S R F _ (h1.below hb) (own_below R1 hb) hn ha64 hb64
  have HVV := Lib.hid HVV0
  have HST := Lib.hid (fun W (hW : RG W g f S F) => rg_state W g f b S F hW hb64)
  have HH := Lib.hid h1
  have HFV := Lib.hid (freeV_eq f S own xmax R a b)
  have hB0 := below_n ((w.alloc (.cells #[.int .u64 (own : Int), .int .u64 (xmax : Int), .slice A R.length c] 80)).alloc (.cells #[.int .u64 0, .int .u64 (a : Int), .int .u64 (b : Int), .int .i64 0, .int .i64 0, .slice none 0 0] 71)) 0
  have hBr : Below ((w.alloc (.cells #[.int .u64 (own : Int), .int .u64 (xmax : Int), .slice A R.length c] 80)).alloc (.cells #[.int .u64 0, .int .u64 (a : Int), .int .u64 (b : Int), .int .i64 0, .int .i64 0, .slice none 0 0] 71)).heap.size ((w.alloc (.cells #[.int .u64 (own : Int), .int .u64 (xmax : Int), .slice A R.length c] 80)).alloc (.cells #[.int .u64 0, .int .u64 (a : Int), .int .u64 (b : Int), .int .i64 0, .int .i64 0, .slice none 0 0] 71)) ((w.alloc (.cells #[.int .u64 (own : Int), .int .u64 (xmax : Int), .slice A R.length c] 80)).alloc (.cells #[.int .u64 0, .int .u64 (a : Int), .int .u64 (b : Int), .int .i64 0, .int .i64 0, .slice none 0 0] 71)) := Below.refl _ _
  have k0 := b0.cell 0
  have k1 := b0.cell 1
  have k2 := b0.cell 2
  have t1 := t0.cell 1
  have t2 := t0.cell 2
  clear h hR R1 h1 HVV0 hsz
  by_cases hb0 : b = 0
  · have hbz : ((b : Int) != 0) = false := by rw [hb0]; rfl
    have hif : ¬ (b ≠ 0 ∧ b ≠ own ∧ stt f S b ≠ 3) := fun hh => hh.1 hb0
    have HIF := Lib.hid hif
    clear hb0 hif
    go_enter Try.func39, Try.ntmps39
    cases hvi : visB f S own xmax R a b with
    | false =>
      have HV := Lib.hid (HVV.out _ hBr)
      rw [hvi] at HV
      go_wp2_with (go_at_call 37; (with_reducible refine (HV.out).mono ?_); rintro e w9 ⟨rfl, hb9⟩; have x9 := (hA.next hBr).next hb9)
      go_ret
      exact ⟨by rw [HFV.out, if_neg HIF.out, hvi]; rfl, x9⟩
    | true =>
      have HV := Lib.hid (HVV.out _ hBr)
      rw [hvi] at HV
      go_wp2_with (go_at_call 37; (with_reducible refine (HV.out).mono ?_); rintro e w9 ⟨rfl, hb9⟩; have x9 := (hA.next hBr).next hb9)
      go_ret
      exact ⟨by rw [HFV.out, if_neg HIF.out, hvi]; rfl, x9⟩
  · have hbz : ((b : Int) != 0) = true := by simp; omega
    by_cases hbo : b = own
    · have hbw : ((b : Int) != (own : Int)) = false := by rw [hbo]; simp
      have hif : ¬ (b ≠ 0 ∧ b ≠ own ∧ stt f S b ≠ 3) := fun hh => hh.2.1 hbo
      have HIF := Lib.hid hif
      clear hb0 hif hbo
      go_enter Try.func39, Try.ntmps39
      cases hvi : visB f S own xmax R a b with
      | false =>
        have HV := Lib.hid (HVV.out _ hBr)
        rw [hvi] at HV
        go_wp2_with (go_at_call 37; (with_reducible refine (HV.out).mono ?_); rintro e w9 ⟨rfl, hb9⟩; have x9 := (hA.next hBr).next hb9)
        go_ret
        exact ⟨by rw [HFV.out, if_neg HIF.out, hvi]; rfl, x9⟩
      | true =>
        have HV := Lib.hid (HVV.out _ hBr)
        rw [hvi] at HV
        go_wp2_with (go_at_call 37; (with_reducible refine (HV.out).mono ?_); rintro e w9 ⟨rfl, hb9⟩; have x9 := (hA.next hBr).next hb9)
        go_ret
        exact ⟨by rw [HFV.out, if_neg HIF.out, hvi]; rfl, x9⟩
    · have hbw : ((b : Int) != (own : Int)) = true := by simp; omega
      have HS := Lib.hid (HST.out _ HH.out)
      by_cases hs3 : stt f S b = 3
      · have hif : ¬ (b ≠ 0 ∧ b ≠ own ∧ stt f S b ≠ 3) := fun hh => hh.2.2 hs3
        rw [hs3] at HS
        have HIF := Lib.hid hif
        clear hb0 hif hbo hs3
        go_enter Try.func39, Try.ntmps39
        go_wp2_with fail
        refine (HS.out).mono ?_
        rintro e w1 ⟨rfl, n1, hw1⟩
        have hb1 := below_n ((w.alloc (.cells #[.int .u64 (own : Int), .int .u64 (xmax : Int), .slice A R.length c] 80)).alloc (.cells #[.int .u64 0, .int .u64 (a : Int), .int .u64 (b : Int), .int .i64 0, .int .i64 0, .slice none 0 0] 71)) n1
        rw [← hw1] at hb1
        have b1 := b0.below hb1
        have u1 := t0.below hb1
        have m0 := b1.cell 0
        have m1 := b1.cell 1
        have m2 := b1.cell 2
        have n0 := u1.cell 0
        have n1' := u1.cell 1
        have n2 := u1.cell 2
        have n3 := u1.cell 3
        have n4 := u1.cell 4
        have n5 := u1.cell 5
        clear hw1
        cases hvi : visB f S own xmax R a b with
        | false =>
          have HV := Lib.hid (HVV.out _ hb1)
          rw [hvi] at HV
          go_wp2_with (go_at_call 37; (with_reducible refine (HV.out).mono ?_); rintro e w9 ⟨rfl, hb9⟩; have x9 := (hA.next hb1).next hb9)
          go_ret
          exact ⟨by rw [HFV.out, if_neg HIF.out, hvi]; rfl, x9⟩
        | true =>
          have HV := Lib.hid (HVV.out _ hb1)
          rw [hvi] at HV
          go_wp2_with (go_at_call 37; (with_reducible refine (HV.out).mono ?_); rintro e w9 ⟨rfl, hb9⟩; have x9 := (hA.next hb1).next hb9)
          go_ret
          exact ⟨by rw [HFV.out, if_neg HIF.out, hvi]; rfl, x9⟩
      · have hif : b ≠ 0 ∧ b ≠ own ∧ stt f S b ≠ 3 := ⟨hb0, hbo, hs3⟩
        have hsb : ((stt f S b : Nat) : Int) != 3 := by simp; omega
        have HIF := Lib.hid hif
        generalize stt f S b = sb at *
        clear hb0 hbo hs3 hif
        go_enter Try.func39, Try.ntmps39
        go_wp2_with (go_at_call 21; (with_reducible refine (HS.out).mono ?_); rintro e w1 ⟨rfl, n1, hw1⟩; have hb1 := hA.next (below_n _ n1); rw [← hw1] at hb1; clear hw1)
        go_ret
        exact ⟨by rw [HFV.out, if_pos HIF.out]; rfl, hb1⟩
theorem rs_at {w : World} {A : Option Addr} {l : List Pn} (h : Rd w 3 A l.length (l.flatMap Pn.f)) {k : Nat} (hk : k < l.length) :
    ∃ ad : Addr, A = some ad ∧ w.cell? (ad.add (k * 3)) = some (.int .u64 (l[k].own : Int)) ∧ w.cell? ⟨(ad.add (k * 3)).block, (ad.add (k * 3)).off + 1, none⟩ = some (.int .u64 (l[k].xmax : Int)) ∧
      w.cell? ⟨(ad.add (k * 3)).block, (ad.add (k * 3)).off + 2, none⟩ = some (.slice l[k].A2 l[k].R.length l[k].c2) := by
  obtain ⟨ad, e, hc⟩ := flat_elem Pn.f 3 (fun _ => rfl) h hk (by decide)
  exact ⟨ad, e, hc 0 _ rfl, hc 1 _ rfl, hc 2 _ rfl⟩
theorem idx_rs (ad : Addr) (n c k : Nat) (h : k < n) (W : World) : (Instr.indexAt 63 (.slice (some ad) n c) (.int .i64 (k : Int))).run Try.prog W = .ok (.pointer (some (ad.add (k * 3)))) W := by
  rw [run_indexAt_slice (h := by kernel_rfl), if_pos (by omega)]
  rw [show Try.prog.elem 63 = 80 by kernel_rfl, show (sizeOf 80).run Try.prog W = .ok 3 W by kernel_rfl]
  simp [Result.andThen]
/-- The least of the first k. -/
def mn (z : Nat) (l : List Pn) : Nat := l.foldl (fun m q => min m (least q.R q.xmax)) z
theorem mn_take (z : Nat) (l : List Pn) {k : Nat} (hk : k < l.length) : mn z (l.take (k + 1)) = min (mn z (l.take k)) (least l[k].R l[k].xmax) := by
  unfold mn
  rw [← List.take_append_getElem hk, List.foldl_append]; rfl
theorem mn_hzn (nx : Nat) (q : Pn) (r : List Pn) : mn (least q.R q.xmax) (q :: r) = hzn nx ((q :: r).map Pn.s) := by
  unfold mn hzn
  rw [List.foldl_cons, Nat.min_self, List.map_cons]
  show _ = (r.map Pn.s).foldl (fun m t => min m t.xmin) (least q.R q.xmax)
  rw [List.foldl_map]
  rfl
set_option maxRecDepth 100000 in
set_option maxHeartbeats 1000000 in
theorem rhor_any (w : World) (g f N b : Nat) (S : List Nat) (F : Nat → Prop) (L : List Pn) (A : Option Addr) (c : Nat) (hl : RG w g f S F) (hN : N = L.length) (hNm : N ≤ 1000) (ho : w.ownsRow b 80 3 (.slice A N c) L.length (L.flatMap Pn.f)) (hr : ∀ q ∈ L, w.ownsRow b 22 1 (.slice q.A2 q.R.length q.c2) q.R.length (ucells .u64 q.R)) (hs : ∀ q ∈ L, q.R.Pairwise (· < ·) ∧ (∀ x ∈ q.R, x < q.xmax) ∧ q.R.length ≤ 1000) :
    Calls Try.prog 30 #[.pointer (some ⟨g, 0, none⟩), .slice A N c] w fun e w' => e = .returned (.int .u64 ((hzn (f + S.length) (L.map Pn.s) : Nat) : Int)) ∧ Below w.heap.size w w' := by
  by_cases hN0 : N = 0
  · obtain rfl : L = [] := by rw [hN] at hN0; exact List.eq_nil_of_length_eq_zero hN0
    have hz : ((N : Int) == 0) = true := by rw [hN0]; rfl
    clear hN0 hN ho hr hs
    have HN := Lib.hid (rg_next w g f S F hl)
    go_enter Try.func30, Try.ntmps30
    go_wp2_with (go_at_call 23; (with_reducible refine (HN.out).mono ?_); rintro e w1 ⟨rfl, n1, hw1⟩; have hb1 := below_n w n1; rw [← hw1] at hb1; clear hw1)
    go_ret
    exact ⟨rfl, hb1⟩
  · have hne : ((N : Int) == 0) = false := beq_eq_false_iff_ne.2 (by omega)
    have hLe : ∀ (W : World) (k : Nat) (hk : k < L.length), Below w.heap.size w W → Calls Try.prog 44 #[.agg #[.int .u64 (L[k].own : Int), .int .u64 (L[k].xmax : Int), .slice L[k].A2 L[k].R.length L[k].c2]] W fun e w' => e = .returned (.int .u64 (least L[k].R L[k].xmax : Nat)) ∧ Below W.heap.size W w' := fun W k hk hb => by
      have hm := List.getElem_mem hk
      have := rleast_any W L[k].own L[k].xmax b _ L[k].R (own_below (hr _ hm) hb) (by have := (hs _ hm).2.2; omega)
      rw [lst_eq (hs _ hm).1 (hs _ hm).2.1] at this
      exact this
    have HLE := Lib.hid hLe
    have HO := Lib.hid ho
    have HNL := Lib.hid hN
    have hcut : ∀ (W : World) (k : Nat) (hk : k < N), Below w.heap.size w W → ∃ (ad : Addr) (own xmax : Nat) (A2 : Option Addr) (R : List Nat) (c2 : Nat) (lm : Nat), A = some ad ∧ W.cell? (ad.add (k * 3)) = some (.int .u64 (own : Int)) ∧ W.cell? ⟨(ad.add (k * 3)).block, (ad.add (k * 3)).off + 1, none⟩ = some (.int .u64 (xmax : Int)) ∧
      W.cell? ⟨(ad.add (k * 3)).block, (ad.add (k * 3)).off + 2, none⟩ = some (.slice A2 R.length c2) ∧ (∀ z, mn z (L.take (k + 1)) = min (mn z (L.take k)) lm) ∧ (k = 0 → mn lm L = hzn (f + S.length) (L.map Pn.s)) ∧
      (∀ W', Below w.heap.size w W' → Calls Try.prog 44 #[.agg #[.int .u64 (own : Int), .int .u64 (xmax : Int), .slice A2 R.length c2]] W' fun e w' => e = .returned (.int .u64 (lm : Int)) ∧ Below W'.heap.size W' w') := fun W k hk hb => by
      have hkL : k < L.length := by rw [← HNL.out]; exact hk
      obtain ⟨A', c', hv, _, _, hrd⟩ := own_form (own_below HO.out hb)
      injection hv with e1 e2 e3
      subst e1
      obtain ⟨ad, e, q0, q1, q2⟩ := rs_at hrd hkL
      refine ⟨ad, _, _, _, L[k].R, _, _, e, q0, q1, q2, fun z => mn_take z L hkL, fun e0 => ?_, fun W' hb' => HLE.out W' k hkL hb'⟩
      subst e0
      cases L with
      | nil => simp at hkL
      | cons q r => exact mn_hzn _ q r
    have HC := Lib.hid hcut
    clear hr hs hLe ho hN hcut
    obtain ⟨ad, own0, xmax0, A20, R0, c20, lm0, rfl, q0, q1, q2, hmn0, hfin0, hle0⟩ := HC.out w 0 (by omega) (Below.refl _ _)
    have ix0 := idx_rs ad N c 0 (by omega)
    rw [show ((0 : Nat) : Int) = 0 from rfl] at ix0
    have ez : ad.add (0 * 3) = ad := by unfold Addr.add; simp
    rw [ez] at q0 q1 q2 ix0
    have HF0 := Lib.hid (hfin0 rfl)
    have HL0 := Lib.hid (hle0 w (Below.refl _ _))
    clear hmn0 hfin0 hle0 ez
    go_enter Try.func30, Try.ntmps30
    go_wp2_with fail
    refine (HL0.out).mono ?_
    rintro e w1 ⟨rfl, hb1⟩
    clear HL0 q0 q1 q2 ix0 hl
    go_wp2
    go_loopw [5, 19] (fun nv iv wr => ∃ (k m : Nat), k ≤ N ∧ iv = .int .i64 (k : Int) ∧ nv = .int .u64 (m : Int) ∧ m = mn lm0 (L.take k) ∧ Below w.heap.size w wr) (fun _ iv _ => N - (intOf iv).toNat)
    case atStart => exact ⟨0, lm0, Nat.zero_le _, rfl, rfl, rfl, hb1⟩
    case round =>
      obtain ⟨k, m, hk, rfl, rfl, hmk, hb⟩ := hrel
      have HMK := Lib.hid hmk
      clear hmk hb1
      by_cases hlt : k < N
      · obtain ⟨ad2, own, xmax, A2, R, c2, lm, e2, q0, q1, q2, hmn, _, hle⟩ := HC.out wr k hlt hb
        injection e2 with e2
        subst e2
        have ix := idx_rs ad N c k hlt
        have HMN := Lib.hid (hmn lm0)
        have HLE2 := Lib.hid hle
        have hb2 := hb.al (.cells #[.int .u64 (own : Int), .int .u64 (xmax : Int), .slice A2 R.length c2] 80)
        have bx := Bx.new wr 80 #[.int .u64 (own : Int), .int .u64 (xmax : Int), .slice A2 R.length c2] [.int .u64 (own : Int), .int .u64 (xmax : Int), .slice A2 R.length c2] rfl
        clear hmn hle
        go_wp2_with fail
        refine (HLE2.out _ hb2).mono ?_
        rintro e w3 ⟨rfl, hb3⟩
        have hb4 := hb2.next hb3
        have b3 := bx.below hb3
        have j0 : w3.cell? ⟨wr.heap.size, 0, none⟩ = some (.int .u64 (own : Int)) := b3.cell 0
        have j1 : w3.cell? ⟨wr.heap.size, 1, none⟩ = some (.int .u64 (xmax : Int)) := b3.cell 1
        have j2 : w3.cell? ⟨wr.heap.size, 2, none⟩ = some (.slice A2 R.length c2) := b3.cell 2
        by_cases hlm : lm < m
        · have hlmi : (lm : Int) < (m : Int) := by omega
          clear q0 q1 q2
          go_wp2_with (go_at_call 44; (with_reducible refine (HLE2.out _ hb4).mono ?_); rintro e w5 ⟨rfl, hb5⟩; have hb6 := hb4.next hb5)
          go_roundw
          case rel => exact ⟨k + 1, lm, by omega, by go_num, rfl, by rw [HMN.out, ← HMK.out]; omega, hb6⟩
          case measure => simp [intOf]; omega
        · have hlmi : ¬ (lm : Int) < (m : Int) := by omega
          clear q0 q1 q2
          go_wp2_with fail
          go_roundw
          case rel => exact ⟨k + 1, m, by omega, by go_num, rfl, by rw [HMN.out, ← HMK.out]; omega, hb4⟩
          case measure => simp [intOf]; omega
      · obtain rfl : k = N := by omega
        have hmr : m = hzn (f + S.length) (L.map Pn.s) := by
          have h := HMK.out
          rw [HNL.out, List.take_length] at h
          rw [h]; exact HF0.out
        have HE := Lib.hid hmr
        clear hmr
        go_wp2_with fail
        go_ret
        exact ⟨by rw [← HE.out]; rfl, hb⟩
end Go.Proofs.Ytjkjomooklhdbaa
