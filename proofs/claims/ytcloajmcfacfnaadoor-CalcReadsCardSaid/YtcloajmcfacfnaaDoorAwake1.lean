/-
  lapidarylaw01.awake: the document's examples of calc hold: true; of what was there nothing has turned.
-/
import Derived.Test.YtcloajmcfacfnaaDoorCalcRead
namespace Go.Proofs.YtcloajmcfacfnaaDoor
open Go.RowKit

theorem ex_add (w : World) : Calls Tryd.prog 32 #[.int .i64 9223372036854775807, .int .i64 1] w fun e w' => e = .returned (.tuple #[.int .i64 0, .int .i64 9]) ∧ w = w' := by
  have h := add_any 9223372036854775807 1 (by decide) (by decide) (by decide) (by decide) w
  rw [show okv (9223372036854775807 + 1) = 0 from rfl, show oke (9223372036854775807 + 1) = 9 from rfl] at h
  exact h
theorem ex_div (w : World) : Calls Tryd.prog 33 #[.int .i64 (-7), .int .i64 2] w fun e w' => e = .returned (.tuple #[.int .i64 (-3), .int .i64 0]) ∧ w = w' := by
  have h := div_any (-7) 2 (by decide) (by decide) (by decide) (by decide) w
  rw [show divv (-7) 2 = -3 from rfl, show dive (-7) 2 = 0 from rfl] at h
  exact h
theorem ex_mod (w : World) : Calls Tryd.prog 34 #[.int .i64 (-7), .int .i64 2] w fun e w' => e = .returned (.tuple #[.int .i64 (-1), .int .i64 0]) ∧ w = w' := by
  have h := mod_any (-7) 2 (by decide) (by decide) (by decide) (by decide) w
  rw [show modv (-7) 2 = -1 from rfl, show mode 2 = 0 from rfl] at h
  exact h
theorem ex_read (w : World) : Calls Tryd.prog 11 #[.string ⟨#[48, 48, 55]⟩] w fun e w' => e = .returned (.tuple #[.int .i64 7, .int .i64 0]) ∧ Below w.heap.size w w' := by
  have h := read_any ⟨#[48, 48, 55]⟩ w
  rw [show readv (⟨#[48, 48, 55]⟩ : ByteArray).data.toList = 7 by decide +kernel, show reade (⟨#[48, 48, 55]⟩ : ByteArray).data.toList = 0 by decide +kernel] at h
  exact h

set_option maxHeartbeats 400000 in
theorem awake1_any (w : World) :
    Calls Tryd.prog 10 #[] w fun e w' => e = .returned (.bool true) ∧ Below w.heap.size w w' := by
  go_enter Tryd.func10, Tryd.ntmps10
  go_wp2_with (first | (go_at_call 32; refine (ex_add _).mono ?_; rintro e w' ⟨rfl, rfl⟩) | (go_at_call 33; refine (ex_div _).mono ?_; rintro e w' ⟨rfl, rfl⟩) | (go_at_call 34; refine (ex_mod _).mono ?_; rintro e w' ⟨rfl, rfl⟩) | (go_at_call 11; refine (ex_read _).mono ?_; rintro e w' ⟨rfl, hb⟩))
  go_ret
  exact ⟨rfl, ‹_›⟩
end Go.Proofs.YtcloajmcfacfnaaDoor
