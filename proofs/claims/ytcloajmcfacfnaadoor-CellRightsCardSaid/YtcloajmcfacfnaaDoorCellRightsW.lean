/-
  CellRights: the walk: where the library's tables hold what its text lays, the law answers true; of what was there nothing has turned.
-/
import Derived.Test.YtcloajmcfacfnaaDoorDoorEnv
import Derived.Test.YtcloajmcfacfnaaDoorAwake2
import Derived.Test.YtcloajmcfacfnaaDoorCell2R
import Derived.Test.YtcloajmcfacfnaaDoorCellF
import Derived.Test.YtcloajmcfacfnaaDoorHeld
import Derived.Deep.RegionHeld3
import Derived.WalkKit
namespace Go.Proofs.YtcloajmcfacfnaaDoor.cellRights
open Go.ChangeShapes Go.WideShapes Go.ChangeAt Go.RowKit
set_option linter.unusedVariables false


set_option maxHeartbeats 2000000 in
theorem walk (a : Val) (oa : ValOk a) (w : World) (hE : Env w) :
    Calls Tryd.prog 4 #[.agg #[.int .u8 a.k, .int .i64 a.i, .string a.s, .bool a.b]] w fun e w' => e = .returned (.bool true) ∧ Below w.heap.size w w' := by
  have hi := bounds_i64 oa.i
  have hm : a.s.size ≤ 9223372036854775807 := by have := oa.s; unfold maxLen at this; exact this
  by_cases hL : a.s.size ≤ 100
  · have ga := rright_any a hm
    have gb := right_any a (by omega)
    generalize rightB a = x at *
    have GA := Lib.hid ga
    have GB := Lib.hid gb
    clear ga gb hi
    go_enter Tryd.func4, Tryd.ntmps4
    go_wp2_with (go_at_call 15; (with_reducible refine (awake2_any _ (hE.next (by repeat (first | exact Below.refl _ _ | refine Below.drew ?_ | refine below_drewN ?_ _ | refine Below.al ?_ _ | refine Below.next ?_ (by assumption))))).mono ?_); rintro e w1 ⟨rfl, hb1⟩; obtain ⟨hc1, hf1⟩ := bcell hb1; have z1_0 : w.heap.size < w1.heap.size := (by have := hb1.size; (try simp at this); omega))
    go_wp2
    go_region_held3 (fun w' => w.heap.size < w'.heap.size ∧ w'.cell? ⟨w.heap.size, 0, none⟩ = some (.int .u8 a.k) ∧ w'.cell? ⟨w.heap.size, 1, none⟩ = some (.int .i64 a.i) ∧ w'.cell? ⟨w.heap.size, 2, none⟩ = some (.string a.s) ∧ w'.cell? ⟨w.heap.size, 3, none⟩ = some (.bool a.b)) (first | assumption | simp [*, go_sem]) (first | (go_at_call 17; (with_reducible refine (GA.out _).mono ?_); rintro e w9 ⟨rfl, hb⟩; obtain ⟨hc, hf⟩ := bcell hb; have hS := held1 (a := a) (by assumption) hb) | (go_at_call 16; (with_reducible refine (GB.out _ (hE.next (by repeat (first | exact Below.refl _ _ | refine Below.drew ?_ | refine below_drewN ?_ _ | refine Below.al ?_ _ | refine Below.next ?_ (by assumption))))).mono ?_); rintro e w9 ⟨rfl, hb⟩; obtain ⟨hc, hf⟩ := bcell hb; have hS := held1 (a := a) (by assumption) hb))
    go_wp2
    go_ret
    exact ⟨by simp, (by repeat (first | exact Below.refl _ _ | refine Below.drew ?_ | refine below_drewN ?_ _ | refine Below.al ?_ _ | refine Below.next ?_ (by assumption)))⟩
  · have hs : (a.s.extract 0 100).size = 100 := by rw [ByteArray.size_extract]; omega
    have ga := rright_any ⟨a.k, a.i, a.s.extract 0 100, a.b⟩ (show (a.s.extract 0 100).size ≤ 9223372036854775807 by omega)
    have gb := right_any ⟨a.k, a.i, a.s.extract 0 100, a.b⟩ (show (a.s.extract 0 100).size ≤ 9223372036854775000 by omega)
    generalize rightB ⟨a.k, a.i, a.s.extract 0 100, a.b⟩ = x at *
    have hL2 : 100 < a.s.size := by omega
    have GA := Lib.hid ga
    have GB := Lib.hid gb
    clear ga gb hi hs hL
    go_enter Tryd.func4, Tryd.ntmps4
    go_wp2_with (go_at_call 15; (with_reducible refine (awake2_any _ (hE.next (by repeat (first | exact Below.refl _ _ | refine Below.drew ?_ | refine below_drewN ?_ _ | refine Below.al ?_ _ | refine Below.next ?_ (by assumption))))).mono ?_); rintro e w1 ⟨rfl, hb1⟩; obtain ⟨hc1, hf1⟩ := bcell hb1; have z1_0 : w.heap.size < w1.heap.size := (by have := hb1.size; (try simp at this); omega))
    go_wp2
    go_region_held3 (fun w' => w.heap.size < w'.heap.size ∧ w'.cell? ⟨w.heap.size, 0, none⟩ = some (.int .u8 a.k) ∧ w'.cell? ⟨w.heap.size, 1, none⟩ = some (.int .i64 a.i) ∧ w'.cell? ⟨w.heap.size, 2, none⟩ = some (.string (a.s.extract 0 100)) ∧ w'.cell? ⟨w.heap.size, 3, none⟩ = some (.bool a.b)) (first | assumption | simp [*, go_sem]) (first | (go_at_call 17; (with_reducible refine (GA.out _).mono ?_); rintro e w9 ⟨rfl, hb⟩; obtain ⟨hc, hf⟩ := bcell hb; have hS := held1 (a := ⟨a.k, a.i, a.s.extract 0 100, a.b⟩) (by assumption) hb) | (go_at_call 16; (with_reducible refine (GB.out _ (hE.next (by repeat (first | exact Below.refl _ _ | refine Below.drew ?_ | refine below_drewN ?_ _ | refine Below.setCell ?_ (by simp) _ | refine Below.al ?_ _ | refine Below.next ?_ (by assumption))))).mono ?_); rintro e w9 ⟨rfl, hb⟩; obtain ⟨hc, hf⟩ := bcell hb; have hS := held1 (a := ⟨a.k, a.i, a.s.extract 0 100, a.b⟩) (by assumption) hb))
    go_wp2
    go_ret
    exact ⟨by simp, (by repeat (first | exact Below.refl _ _ | refine Below.drew ?_ | refine below_drewN ?_ _ | refine Below.setCell ?_ (by simp) _ | refine Below.al ?_ _ | refine Below.next ?_ (by assumption)))⟩
end Go.Proofs.YtcloajmcfacfnaaDoor.cellRights
