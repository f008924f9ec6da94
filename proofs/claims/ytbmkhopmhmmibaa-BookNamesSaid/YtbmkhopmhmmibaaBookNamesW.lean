/-
  BookNames: the walk.
-/
import Derived.Test.YtbmkhopmhmmibaaBookM
namespace Go.Proofs.Ytbmkhopmhmmibaa.bookNames
open Go.RowKit
set_option linter.unusedVariables false

theorem crE_names (S : List Nat) (own xmax : Nat) (R : List Nat) (n : ByteArray) : crE S own xmax R n [coA] [] [] = if nameB n then 0 else 3 := by
  unfold crE
  rw [proper_one]
  cases nameB n <;> rfl
theorem wd_frame {B g k last : Nat} {w0 w : World} {S : List Nat} {T : List Tb} {I : List (Nat × Ix)} {Q : List (Value × List Nat)} (h : Wd B w0 w g S k last T I Q) : Below B w0 w := h.below'
set_option maxRecDepth 100000 in
set_option maxHeartbeats 2000000 in
theorem walk (s : ByteArray) (w : World) (hs : s.size ≤ maxLen) :
    Calls Try.prog 4 #[.string s] w fun e w' => e = .returned (.bool true) ∧ Below w.heap.size w w' := by
  have hs : s.size ≤ 9223372036854775807 := by unfold maxLen at hs; omega
  go_enter Try.func4, Try.ntmps4
  go_wp2_with fail
  refine (awake11_any w).mono ?_
  rintro e w0 ⟨rfl, x0⟩
  go_wp2_with fail
  refine (few_any w0 s hs).mono ?_
  rintro e w0' ⟨s', rfl, hs', hw⟩
  subst hw
  have hs64 : s'.size ≤ 9223372036854775807 := by omega
  go_wp2_with fail
  refine (lg_new w0' 1 (by decide) (by decide)).mono ?_
  rintro e w1 ⟨rfl, h1, hb1⟩
  have hsz0 := x0.size
  have m1 : Mine w.heap.size w w1 (fun k => k = w0'.heap.size) := ⟨fun k hk => by omega, x0.next hb1, Nat.le_trans x0.size hb1.size⟩
  clear hb1
  generalize hg : w0'.heap.size = g at *
  clear x0 hg hsz0 w0'
  have HB := lg_begin w1 g 1 _ _ h1
  rw [show begR 1 [] = .tuple #[.int .u64 1, .int .i64 0] from rfl, show begL 1 [] = [1] from rfl] at HB
  go_wp2_with fail
  refine (HB).mono ?_
  rintro e w2 ⟨rfl, F2, h2, c2⟩
  have m2 := m1.chg c2
  clear h1 m1 c2 HB
  go_wp2_with fail
  refine (bnew_any w2).mono ?_
  rintro e w3 ⟨rfl, hb3, x3⟩
  have W3 := wd_newS (h2.below x3) (m2.next x3) hb3 m2.size
  clear h2 m2 x3 hb3
  generalize hk : w2.heap.size = k at *
  clear hk w2
  have HT := wd_take W3 1
  rw [show runs 1 [1] = [1] from rfl, show others [1] 1 = [] by decide, show least [] (1 + [1].length) = 2 from rfl, show 1 + [1].length = 2 from rfl] at HT
  go_wp2_with fail
  refine (HT).mono ?_
  rintro e w4 ⟨v4, rfl, W4, _⟩
  obtain ⟨A4, c4, rfl⟩ := W4.form (v := v4) (n := 0) List.mem_cons_self rfl
  clear HT W3
  go_wp2_with fail
  refine (one_ex w4).mono ?_
  rintro e w5 ⟨q5, rfl, o5, x5⟩
  have W5 := W4.next x5
  have HN := Lib.hid (fun W => bname_any W s' hs64)
  have HR := Lib.hid (fun W => rname_any W s' hs64)
  have hcr := crE_names [1] 1 2 [] s'
  cases hnm : nameB s' with
  | true =>
    rw [hnm] at HN HR hcr
    have HC := wd_crOK W5 1 2 2 w4.heap.size q5 (.slice A4 0 c4) [] s' List.mem_cons_self (by decide) hs64 o5 hcr 1 2 2 rfl rfl rfl 1 rfl
    clear hcr hnm W4 x5 o5
    go_wp2_with fail
    refine (HC).mono ?_
    rintro e w6 ⟨rfl, ⟨b, cv, W6⟩, _⟩
    have X6 := W6.below'
    clear HC W5 W6
    go_wp2_with (first
      | (go_at_call 36; (with_reducible refine (HN.out _).mono ?_); rintro e w7 ⟨rfl, x7⟩; have X7 := X6.trans (x7.mono (by have := X6.size; omega)))
      | (go_at_call 37; (with_reducible refine (HR.out w7).mono ?_); rintro e w8 ⟨rfl, x8⟩; have X8 := X7.trans (x8.mono (by have := X7.size; omega)))
      | (go_at_call 37; (with_reducible refine (HR.out w8).mono ?_); rintro e w9 ⟨rfl, x9⟩; have X9 := X8.trans (x9.mono (by have := X8.size; omega))))
    go_ret
    exact ⟨rfl, X9⟩
  | false =>
    rw [hnm] at HN HR hcr
    have HC := wd_crNo W5 1 2 2 w4.heap.size q5 3 (.slice A4 0 c4) [] s' List.mem_cons_self (by decide) hs64 o5 hcr (by decide) 1 2 2 rfl rfl rfl
    clear hcr hnm W4 x5 o5
    go_wp2_with fail
    refine (HC).mono ?_
    rintro e w6 ⟨rfl, W6, _⟩
    have X6 := W6.below'
    clear HC W5 W6
    go_wp2_with (first
      | (go_at_call 36; (with_reducible refine (HN.out _).mono ?_); rintro e w7 ⟨rfl, x7⟩; have X7 := X6.trans (x7.mono (by have := X6.size; omega)))
      | (go_at_call 37; (with_reducible refine (HR.out w7).mono ?_); rintro e w8 ⟨rfl, x8⟩; have X8 := X7.trans (x8.mono (by have := X7.size; omega)))
      | (go_at_call 37; (with_reducible refine (HR.out w8).mono ?_); rintro e w9 ⟨rfl, x9⟩; have X9 := X8.trans (x9.mono (by have := X8.size; omega))))
    go_ret
    exact ⟨rfl, X9⟩
end Go.Proofs.Ytbmkhopmhmmibaa.bookNames
