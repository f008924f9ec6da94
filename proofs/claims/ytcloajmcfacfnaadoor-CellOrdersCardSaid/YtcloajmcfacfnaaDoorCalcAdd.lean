/-
  calc.Add, calc.Sub, calc.Neg: each answers the number, or 0 and the error 9, and leaves the world alone.
-/
import Derived.Test.YtcloajmcfacfnaaDoorProg
import Derived.Test.YtcloajmcfacfnaaDoorNum
import Derived.WalkKit
import Derived.WalkSpells
import Derived.WalkLawsBesides
namespace Go.Proofs.YtcloajmcfacfnaaDoor
open Go.RowKit

theorem ret2_int {k l : IntKind} {a b c d : Int} (h : a = c) (h' : b = d) : Ending.returned (.tuple #[.int k a, .int l b]) = .returned (.tuple #[.int k c, .int l d]) := by rw [h, h']

set_option maxHeartbeats 400000 in
theorem add_any (a b : Int) (a0 : -9223372036854775808 ≤ a) (a1 : a ≤ 9223372036854775807) (b0 : -9223372036854775808 ≤ b) (b1 : b ≤ 9223372036854775807) (w : World) :
    Calls Tryd.prog 32 #[.int .i64 a, .int .i64 b] w fun e w' => e = .returned (.tuple #[.int .i64 (okv (a + b)), .int .i64 (oke (a + b))]) ∧ w = w' := by
  by_cases h : In64 (a + b)
  · rw [okv_in h, oke_in h]
    obtain ⟨h0, h1⟩ := h
    by_cases hb : 0 < b
    · go_enter Tryd.func32, Tryd.ntmps32
      go_wp2
      go_ret2
      exact ⟨rfl, rfl⟩
    · by_cases hb' : b < 0
      · go_enter Tryd.func32, Tryd.ntmps32
        go_wp2
        go_ret2
        exact ⟨rfl, rfl⟩
      · go_enter Tryd.func32, Tryd.ntmps32
        go_wp2
        go_ret2
        exact ⟨rfl, rfl⟩
  · rw [okv_out h, oke_out h]
    by_cases hb : 0 < b
    · have h1 : 9223372036854775807 - b < a := by
        apply Classical.byContradiction; intro hc; exact h (in64 (by omega) (by omega))
      clear h
      go_enter Tryd.func32, Tryd.ntmps32
      go_wp2
      go_ret2
      exact ⟨rfl, rfl⟩
    · have hb' : b < 0 := by
        apply Classical.byContradiction; intro hc; exact h (in64 (by omega) (by omega))
      have h1 : a < -9223372036854775808 - b := by
        apply Classical.byContradiction; intro hc; exact h (in64 (by omega) (by omega))
      clear h
      go_enter Tryd.func32, Tryd.ntmps32
      go_wp2
      go_ret2
      exact ⟨rfl, rfl⟩
end Go.Proofs.YtcloajmcfacfnaaDoor
