/-
  snap.Free (the same as in Ref10D, for seats that lack what that text imports).
-/
import Derived.Test.YtbmkhopmhmmibaaSnapE
namespace Go.Proofs.Ytbmkhopmhmmibaa
open Go.RowKit
set_option linter.unusedVariables false

def freeV (f : Nat) (S : List Nat) (own xmax : Nat) (R : List Nat) (a b : Nat) : Int := if b ≠ 0 ∧ b ≠ own ∧ stt f S b ≠ 3 then 11 else if visB f S own xmax R a b then 0 else 14
theorem freeV_eq (f : Nat) (S : List Nat) (own xmax : Nat) (R : List Nat) (a b : Nat) : freeV f S own xmax R a b = if b ≠ 0 ∧ b ≠ own ∧ stt f S b ≠ 3 then 11 else if visB f S own xmax R a b then 0 else 14 := rfl
set_option maxRecDepth 100000 in
set_option maxHeartbeats 1000000 in
theorem free_any (w : World) (g f own xmin xmax a b bb : Nat) (S R : List Nat) (F : Nat → Prop) (v : Value) (h : LG w g f S F) (hR : w.ownsRow bb 28 1 v R.length (ucells .u64 R)) (hn : R.length ≤ 9223372036854775807) :
    Calls Try.prog 94 #[.pointer (some ⟨g, 0, none⟩), .agg #[.int .u64 (own : Int), .int .u64 (xmin : Int), .int .u64 (xmax : Int), v], .agg #[.int .u64 0, .int .u64 (a : Int), .int .u64 (b : Int), .int .i64 0, .int .i64 0, .slice none 0 0]] w fun e w' => e = .returned (.int .i64 (freeV f S own xmax R a b)) ∧ Below w.heap.size w w' := by
  obtain ⟨A, c, hv, _, _, _⟩ := own_form hR
  subst hv
  have hA : Below w.heap.size w ((w.alloc (.cells #[.int .u64 (own : Int), .int .u64 (xmin : Int), .int .u64 (xmax : Int), .slice A R.length c] 50)).alloc (.cells #[.int .u64 0, .int .u64 (a : Int), .int .u64 (b : Int), .int .i64 0, .int .i64 0, .slice none 0 0] 169)) := ((Below.refl _ _).al _).al _
  have b0 := (Bx.new w 50 #[.int .u64 (own : Int), .int .u64 (xmin : Int), .int .u64 (xmax : Int), .slice A R.length c] [.int .u64 (own : Int), .int .u64 (xmin : Int), .int .u64 (xmax : Int), .slice A R.length c] rfl).alloc (.cells #[.int .u64 0, .int .u64 (a : Int), .int .u64 (b : Int), .int .i64 0, .int .i64 0, .slice none 0 0] 169)
  have t0 := Bx.new (w.alloc (.cells #[.int .u64 (own : Int), .int .u64 (xmin : Int), .int .u64 (xmax : Int), .slice A R.length c] 50)) 169 #[.int .u64 0, .int .u64 (a : Int), .int .u64 (b : Int), .int .i64 0, .int .i64 0, .slice none 0 0] [.int .u64 0, .int .u64 (a : Int), .int .u64 (b : Int), .int .i64 0, .int .i64 0, .slice none 0 0] rfl
  have hsz : (w.alloc (.cells #[.int .u64 (own : Int), .int .u64 (xmin : Int), .int .u64 (xmax : Int), .slice A R.length c] 50)).heap.size = w.heap.size + 1 := by simp
  rw [hsz] at t0
  have h1 := h.below hA
  have R1 := own_below hR hA
  have HVV0 : ∀ W, Below ((w.alloc (.cells #[.int .u64 (own : Int), .int .u64 (xmin : Int), .int .u64 (xmax : Int), .slice A R.length c] 50)).alloc (.cells #[.int .u64 0, .int .u64 (a : Int), .int .u64 (b : Int), .int .i64 0, .int .i64 0, .slice none 0 0] 169)).heap.size ((w.alloc (.cells #[.int .u64 (own : Int), .int .u64 (xmin : Int), .int .u64 (xmax : Int), .slice A R.length c] 50)).alloc (.cells #[.int .u64 0, .int .u64 (a : Int), .int .u64 (b : Int), .int .i64 0, .int .i64 0, .slice none 0 0] 169)) W → Calls Try.prog 92 #[.pointer (some ⟨g, 0, none⟩), .agg #[.int .u64 (own : Int), .int .u64 (xmin : Int), .int .u64 (xmax : Int), .slice A R.length c], .agg #[.int .u64 0, .int .u64 (a : Int), .int .u64 (b : Int), .int .i64 0, .int .i64 0, .slice none 0 0]] W fun e w' => e = .returned (.bool (visB f S own xmax R a b)) ∧ Below W.heap.size W w' := fun W hb => vis_any W g f own xmin xmax a b bb S R F _ (h1.below hb) (own_below R1 hb) hn
  have HVV := Lib.hid HVV0
  have HST := Lib.hid (fun W (hW : LG W g f S F) => lg_state W g f b S F hW)
  have HH := Lib.hid h1
  have HFV := Lib.hid (freeV_eq f S own xmax R a b)
  have hB0 := below_n ((w.alloc (.cells #[.int .u64 (own : Int), .int .u64 (xmin : Int), .int .u64 (xmax : Int), .slice A R.length c] 50)).alloc (.cells #[.int .u64 0, .int .u64 (a : Int), .int .u64 (b : Int), .int .i64 0, .int .i64 0, .slice none 0 0] 169)) 0
  have hBr : Below ((w.alloc (.cells #[.int .u64 (own : Int), .int .u64 (xmin : Int), .int .u64 (xmax : Int), .slice A R.length c] 50)).alloc (.cells #[.int .u64 0, .int .u64 (a : Int), .int .u64 (b : Int), .int .i64 0, .int .i64 0, .slice none 0 0] 169)).heap.size ((w.alloc (.cells #[.int .u64 (own : Int), .int .u64 (xmin : Int), .int .u64 (xmax : Int), .slice A R.length c] 50)).alloc (.cells #[.int .u64 0, .int .u64 (a : Int), .int .u64 (b : Int), .int .i64 0, .int .i64 0, .slice none 0 0] 169)) ((w.alloc (.cells #[.int .u64 (own : Int), .int .u64 (xmin : Int), .int .u64 (xmax : Int), .slice A R.length c] 50)).alloc (.cells #[.int .u64 0, .int .u64 (a : Int), .int .u64 (b : Int), .int .i64 0, .int .i64 0, .slice none 0 0] 169)) := Below.refl _ _
  have k0 := b0.cell 0
  have k1 := b0.cell 1
  have k2 := b0.cell 2
  have k3 := b0.cell 3
  have t1 := t0.cell 1
  have t2 := t0.cell 2
  clear h hR R1 h1 HVV0 hsz
  by_cases hb0 : b = 0
  · have hbz : ((b : Int) != 0) = false := by rw [hb0]; rfl
    have hif : ¬ (b ≠ 0 ∧ b ≠ own ∧ stt f S b ≠ 3) := fun hh => hh.1 hb0
    have HIF := Lib.hid hif
    clear hb0 hif
    go_enter Try.func94, Try.ntmps94
    cases hvi : visB f S own xmax R a b with
    | false =>
      have HV := Lib.hid (HVV.out _ hBr)
      rw [hvi] at HV
      go_wp2_with (go_at_call 92; (with_reducible refine (HV.out).mono ?_); rintro e w9 ⟨rfl, hb9⟩; have x9 := (hA.next hBr).next hb9)
      go_ret
      exact ⟨by rw [HFV.out, if_neg HIF.out, hvi]; rfl, x9⟩
    | true =>
      have HV := Lib.hid (HVV.out _ hBr)
      rw [hvi] at HV
      go_wp2_with (go_at_call 92; (with_reducible refine (HV.out).mono ?_); rintro e w9 ⟨rfl, hb9⟩; have x9 := (hA.next hBr).next hb9)
      go_ret
      exact ⟨by rw [HFV.out, if_neg HIF.out, hvi]; rfl, x9⟩
  · have hbz : ((b : Int) != 0) = true := by simp; omega
    by_cases hbo : b = own
    · have hbw : ((b : Int) != (own : Int)) = false := by rw [hbo]; simp
      have hif : ¬ (b ≠ 0 ∧ b ≠ own ∧ stt f S b ≠ 3) := fun hh => hh.2.1 hbo
      have HIF := Lib.hid hif
      clear hb0 hif hbo
      go_enter Try.func94, Try.ntmps94
      cases hvi : visB f S own xmax R a b with
      | false =>
        have HV := Lib.hid (HVV.out _ hBr)
        rw [hvi] at HV
        go_wp2_with (go_at_call 92; (with_reducible refine (HV.out).mono ?_); rintro e w9 ⟨rfl, hb9⟩; have x9 := (hA.next hBr).next hb9)
        go_ret
        exact ⟨by rw [HFV.out, if_neg HIF.out, hvi]; rfl, x9⟩
      | true =>
        have HV := Lib.hid (HVV.out _ hBr)
        rw [hvi] at HV
        go_wp2_with (go_at_call 92; (with_reducible refine (HV.out).mono ?_); rintro e w9 ⟨rfl, hb9⟩; have x9 := (hA.next hBr).next hb9)
        go_ret
        exact ⟨by rw [HFV.out, if_neg HIF.out, hvi]; rfl, x9⟩
    · have hbw : ((b : Int) != (own : Int)) = true := by simp; omega
      have HS := Lib.hid (HST.out _ HH.out)
      by_cases hs3 : stt f S b = 3
      · have hif : ¬ (b ≠ 0 ∧ b ≠ own ∧ stt f S b ≠ 3) := fun hh => hh.2.2 hs3
        rw [hs3] at HS
        have HIF := Lib.hid hif
        clear hb0 hif hbo hs3
        go_enter Try.func94, Try.ntmps94
        go_wp2_with fail
        refine (HS.out).mono ?_
        rintro e w1 ⟨rfl, n1, hw1⟩
        have hb1 := below_n ((w.alloc (.cells #[.int .u64 (own : Int), .int .u64 (xmin : Int), .int .u64 (xmax : Int), .slice A R.length c] 50)).alloc (.cells #[.int .u64 0, .int .u64 (a : Int), .int .u64 (b : Int), .int .i64 0, .int .i64 0, .slice none 0 0] 169)) n1
        rw [← hw1] at hb1
        have b1 := b0.below hb1
        have u1 := t0.below hb1
        have m0 := b1.cell 0
        have m1 := b1.cell 1
        have m2 := b1.cell 2
        have m3 := b1.cell 3
        have n0 := u1.cell 0
        have n1' := u1.cell 1
        have n2 := u1.cell 2
        have n3 := u1.cell 3
        have n4 := u1.cell 4
        have n5 := u1.cell 5
        clear hw1
        cases hvi : visB f S own xmax R a b with
        | false =>
          have HV := Lib.hid (HVV.out _ hb1)
          rw [hvi] at HV
          go_wp2_with (go_at_call 92; (with_reducible refine (HV.out).mono ?_); rintro e w9 ⟨rfl, hb9⟩; have x9 := (hA.next hb1).next hb9)
          go_ret
          exact ⟨by rw [HFV.out, if_neg HIF.out, hvi]; rfl, x9⟩
        | true =>
          have HV := Lib.hid (HVV.out _ hb1)
          rw [hvi] at HV
          go_wp2_with (go_at_call 92; (with_reducible refine (HV.out).mono ?_); rintro e w9 ⟨rfl, hb9⟩; have x9 := (hA.next hb1).next hb9)
          go_ret
          exact ⟨by rw [HFV.out, if_neg HIF.out, hvi]; rfl, x9⟩
      · have hif : b ≠ 0 ∧ b ≠ own ∧ stt f S b ≠ 3 := ⟨hb0, hbo, hs3⟩
        have hsb : ((stt f S b : Nat) : Int) != 3 := by simp; omega
        have HIF := Lib.hid hif
        generalize stt f S b = sb at *
        clear hb0 hbo hs3 hif
        go_enter Try.func94, Try.ntmps94
        go_wp2_with (go_at_call 28; (with_reducible refine (HS.out).mono ?_); rintro e w1 ⟨rfl, n1, hw1⟩; have hb1 := hA.next (below_n _ n1); rw [← hw1] at hb1; clear hw1)
        go_ret
        exact ⟨by rw [HFV.out, if_pos HIF.out]; rfl, hb1⟩
end Go.Proofs.Ytbmkhopmhmmibaa
