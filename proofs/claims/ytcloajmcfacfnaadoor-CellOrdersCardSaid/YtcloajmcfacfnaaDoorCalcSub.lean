/-
  calc.Sub, calc.Neg: each answers the number, or 0 and the error 9, and leaves the world alone.
-/
import Derived.Test.YtcloajmcfacfnaaDoorCalcAdd
namespace Go.Proofs.YtcloajmcfacfnaaDoor
open Go.RowKit


set_option maxHeartbeats 400000 in
theorem neg_any (a : Int) (a0 : -9223372036854775808 ≤ a) (a1 : a ≤ 9223372036854775807) (w : World) :
    Calls Tryd.prog 50 #[.int .i64 a] w fun e w' => e = .returned (.tuple #[.int .i64 (okv (-a)), .int .i64 (oke (-a))]) ∧ w = w' := by
  by_cases h : a = -9223372036854775808
  · subst h
    have e1 : okv (-(-9223372036854775808)) = 0 := okv_out (by unfold In64; omega)
    have e2 : oke (-(-9223372036854775808)) = 9 := oke_out (by unfold In64; omega)
    rw [e1, e2]
    clear e1 e2
    go_enter Tryd.func50, Tryd.ntmps50
    go_wp2
    go_ret2
    exact ⟨rfl, rfl⟩
  · have e1 : In64 (-a) := in64 (by omega) (by omega)
    rw [okv_in e1, oke_in e1]
    clear e1
    have h' : -9223372036854775808 < a := by omega
    clear h
    go_enter Tryd.func50, Tryd.ntmps50
    go_wp2
    go_ret2
    exact ⟨rfl, rfl⟩
end Go.Proofs.YtcloajmcfacfnaaDoor
