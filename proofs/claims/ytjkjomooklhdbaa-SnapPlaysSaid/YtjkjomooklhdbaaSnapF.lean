/-
  lapidarylaw10.awake: the document's example of snap holds: true; of what was there nothing has turned.
-/
import Derived.Test.YtjkjomooklhdbaaSnapE
namespace Go.Proofs.Ytjkjomooklhdbaa
open Go.RowKit
set_option linter.unusedVariables false

set_option maxRecDepth 100000 in
set_option maxHeartbeats 1000000 in
theorem awake10_any (w : World) :
    Calls Try.prog 27 #[] w fun e w' => e = .returned (.bool true) ∧ Below w.heap.size w w' := by
  go_enter Try.func27, Try.ntmps27
  go_wp2_with fail
  refine (lg_new w 1 (by decide) (by decide)).mono ?_
  rintro e w1 ⟨rfl, h1, hb1⟩
  have m1 : Mine w.heap.size w w1 (fun k => k = w.heap.size) := ⟨fun k hk => by omega, hb1, hb1.size⟩
  clear hb1
  generalize hg : w.heap.size = g at *
  go_wp2_with fail
  refine (lg_begin w1 g 1 _ _ h1).mono ?_
  rintro e w2 ⟨rfl, F2, h2, c2⟩
  have m2 := m1.chg c2
  clear c2 m1 h1
  rw [show begR 1 [] = .tuple #[.int .u64 1, .int .i64 0] from rfl]
  rw [show begL 1 [] = [1] from rfl] at h2
  go_wp2_with fail
  refine (lg_begin w2 g 1 _ _ h2).mono ?_
  rintro e w3 ⟨rfl, F3, h3, c3⟩
  have m3 := m2.chg c3
  clear c3 m2 h2
  rw [show begR 1 [1] = .tuple #[.int .u64 2, .int .i64 0] from rfl]
  rw [show begL 1 [1] = [1, 1] from rfl] at h3
  have HT := take_any w3 g 1 2 _ _ h3
  rw [show runs 1 [1, 1] = [1, 2] from rfl, show others [1, 2] 2 = [1] by decide, show least [1] (1 + [1, 1].length) = 1 from rfl, show 1 + [1, 1].length = 3 from rfl] at HT
  unfold snv at HT
  go_wp2_with fail
  refine (HT).mono ?_
  rintro e w4 ⟨v4, rfl, o4, b4⟩
  have h4 := h3.below b4
  have m4 := m3.next b4
  obtain ⟨A4, c4, hv4, _, _, _⟩ := own_form o4
  subst hv4
  have hnF : ∀ k, (Value.slice A4 [1].length c4).ownBlock = some k → ¬ F3 k := fun k e hk => by have := (o4.lt k e).1; have := h3.lt hk; omega
  clear h3 m3 b4 HT
  have x5 : Below w4.heap.size w4 (w4.alloc (.cells #[.int .u64 2, .int .u64 1, .int .u64 3, .slice A4 1 c4] 76)) := (Below.refl _ _).al _
  have b5 := Bx.new w4 76 #[.int .u64 2, .int .u64 1, .int .u64 3, .slice A4 1 c4] [.int .u64 2, .int .u64 1, .int .u64 3, .slice A4 1 c4] rfl
  have h5 := h4.below x5
  have m5 := m4.next x5
  have o5 := own_below o4 x5
  have hnb : ¬ F3 w4.heap.size := fun hk => by have := h4.lt hk; omega
  clear h4 m4 o4
  go_wp2_with fail
  generalize w4.alloc (.cells #[.int .u64 2, .int .u64 1, .int .u64 3, .slice A4 1 c4] 76) = W5 at *
  generalize w4.heap.size = sb at *
  refine (lg_commit W5 g 1 1 _ _ h5 (by decide)).mono ?_
  rintro e w6 ⟨rfl, F6, h6, c6⟩
  have m6 := m5.chg c6
  have b6 := c6.fr.bx b5 hnb
  have o6 := c6.fr.own o5 hnF
  rw [show endE 1 [1, 1] 1 = 0 from rfl]
  rw [show endL 1 [1, 1] 1 2 = [2, 1] from rfl] at h6
  have d0 := b6.cell 0
  have d1 := b6.cell 1
  have d2 := b6.cell 2
  have d3 := b6.cell 3
  clear c6 m5 h5 b5 o5 x5 hnb hnF
  have HS := sees_any w6 g 1 2 1 3 1 _ [2, 1] [1] F6 _ h6 o6 (by decide)
  rw [show seesB 1 [2, 1] 2 3 [1] 1 = false by decide] at HS
  rw [show ((2 : Nat) : Int) = 2 from rfl, show ((1 : Nat) : Int) = 1 from rfl, show ((3 : Nat) : Int) = 3 from rfl, show ([1] : List Nat).length = 1 from rfl] at HS
  have HS := Lib.hid HS
  have HT := fun W (hW : LG W g 1 [2, 1] F6) => take_any W g 1 2 _ _ hW
  rw [show runs 1 [2, 1] = [2] from rfl, show others [2] 2 = [] by decide, show least [] (1 + [2, 1].length) = 3 from rfl, show 1 + [2, 1].length = 3 from rfl] at HT
  unfold snv at HT
  rw [show ((2 : Nat) : Int) = 2 from rfl, show ((3 : Nat) : Int) = 3 from rfl] at HT
  replace HT := Lib.hid HT
  have HV := (fun W v b (hW : LG W g 1 [2, 1] F6) (ho : W.ownsRow b 22 1 v ([] : List Nat).length (ucells .u64 [])) => sees_any W g 1 2 3 3 1 b [2, 1] [] F6 v hW ho (by decide))
  rw [show seesB 1 [2, 1] 2 3 [] 1 = true by decide, show ((2 : Nat) : Int) = 2 from rfl, show ((1 : Nat) : Int) = 1 from rfl, show ((3 : Nat) : Int) = 3 from rfl] at HV
  replace HV := Lib.hid HV
  go_wp2_with (first
    | (go_at_call 34; (with_reducible refine (HS.out).mono ?_); rintro e w7 ⟨rfl, hb7⟩; have h7 := h6.below hb7; have m7 := m6.next hb7; clear hb7)
    | (go_at_call 40; (with_reducible refine (HT.out _ h7).mono ?_); rintro e w8 ⟨v8, rfl, o8, b8⟩; have h8 := h7.below b8; have m8 := m7.next b8; clear b8)
    | (go_at_call 34; (with_reducible refine (HV.out _ _ _ h8 o8).mono ?_); rintro e w9 ⟨rfl, hb9⟩; have m9 := m8.next hb9; clear hb9))
  go_ret
  exact ⟨rfl, by rw [hg]; exact m9.below⟩
end Go.Proofs.Ytjkjomooklhdbaa
