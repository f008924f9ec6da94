/-
  lapidarylaw02.awake: the document's examples of cell hold: true; of what was there nothing has turned.
-/
import Derived.Test.YtcloajmcfacfnaaDoorCellB
import Derived.Test.YtcloajmcfacfnaaDoorCellE
import Derived.Test.YtcloajmcfacfnaaDoorCellF
import Derived.Test.YtcloajmcfacfnaaDoorLit
namespace Go.Proofs.YtcloajmcfacfnaaDoor
open Go.RowKit

theorem ex2_and (w : World) : Calls Tryd.prog 24 #[.agg #[.int .u8 0, .int .i64 0, .string ⟨#[]⟩, .bool false], .agg #[.int .u8 3, .int .i64 0, .string ⟨#[]⟩, .bool false]] w fun e w' => e = .returned (.tuple #[.agg #[.int .u8 3, .int .i64 0, .string ⟨#[]⟩, .bool false], .int .i64 0]) ∧ Below w.heap.size w w' :=
  and_any ⟨0, 0, ⟨#[]⟩, false⟩ ⟨3, 0, ⟨#[]⟩, false⟩ w
theorem ex2_or (w : World) : Calls Tryd.prog 27 #[.agg #[.int .u8 0, .int .i64 0, .string ⟨#[]⟩, .bool false], .agg #[.int .u8 3, .int .i64 0, .string ⟨#[]⟩, .bool false]] w fun e w' => e = .returned (.tuple #[.agg #[.int .u8 0, .int .i64 0, .string ⟨#[]⟩, .bool false], .int .i64 0]) ∧ Below w.heap.size w w' :=
  or_any ⟨0, 0, ⟨#[]⟩, false⟩ ⟨3, 0, ⟨#[]⟩, false⟩ w
theorem ex2_cmp (w : World) : Calls Tryd.prog 19 #[.agg #[.int .u8 1, .int .i64 1, .string ⟨#[]⟩, .bool false], .agg #[.int .u8 2, .int .i64 0, .string ⟨#[120]⟩, .bool false]] w fun e w' => e = .returned (.tuple #[.int .i64 0, .bool false, .int .i64 8]) ∧ Below w.heap.size w w' :=
  compare_any ⟨1, 1, ⟨#[]⟩, false⟩ ⟨2, 0, ⟨#[120]⟩, false⟩ w
theorem ex2_lit (w : World) (hE : Env w) : Calls Tryd.prog 30 #[.agg #[.int .u8 2, .int .i64 0, .string ⟨#[105, 116, 39, 115]⟩, .bool false]] w fun e w' => e = .returned (.string ⟨#[39, 105, 116, 39, 39, 115, 39]⟩) ∧ Below w.heap.size w w' :=
  literal_any ⟨2, 0, ⟨#[105, 116, 39, 115]⟩, false⟩ (by decide) (by decide) w hE

set_option maxHeartbeats 1000000 in
theorem awake2_any (w : World) (hE : Env w) :
    Calls Tryd.prog 15 #[] w fun e w' => e = .returned (.bool true) ∧ Below w.heap.size w w' := by
  have qe := eqval 3 0 ⟨#[]⟩ false 3 0 ⟨#[]⟩ false
  go_enter Tryd.func15, Tryd.ntmps15
  go_wp2_with (first | (go_at_call 24; (with_reducible refine (ex2_and _).mono ?_); rintro e w1 ⟨rfl, hb⟩; obtain ⟨hc, hf⟩ := bcell hb; have hz1 : w.heap.size < w1.heap.size := by have := hb.size; simp at this; omega) | (go_at_call 27; (with_reducible refine (ex2_or _).mono ?_); rintro e w2 ⟨rfl, hb⟩; obtain ⟨hc, hf⟩ := bcell hb; have hz2 : w1.heap.size < w2.heap.size := (by have := hb.size; simp at this; omega); have hz2' : w.heap.size < w2.heap.size := by omega) | (go_at_call 19; (with_reducible refine (ex2_cmp _).mono ?_); rintro e w3 ⟨rfl, hb⟩; obtain ⟨hc, hf⟩ := bcell hb; have hz3 : w2.heap.size < w3.heap.size := (by have := hb.size; simp at this; omega); have hz3' : w.heap.size < w3.heap.size := (by omega); have hz3'' : w1.heap.size < w3.heap.size := by omega) | (go_at_call 30; (with_reducible refine (ex2_lit _ (hE.next (by repeat (first | exact Below.refl _ _ | refine Below.drew ?_ | refine below_drewN ?_ _ | refine Below.al ?_ _ | refine Below.next ?_ (by assumption))))).mono ?_); rintro e w4 ⟨rfl, hb⟩))
  go_ret
  exact ⟨rfl, (by repeat (first | exact Below.refl _ _ | refine Below.drew ?_ | refine below_drewN ?_ _ | refine Below.al ?_ _ | refine Below.next ?_ (by assumption)))⟩

end Go.Proofs.YtcloajmcfacfnaaDoor
