/-
  CalcReads: the walk: where the library's tables hold what its text lays, the law answers true; of what was there nothing has turned.
-/
import Derived.Test.YtcloajmcfacfnaaDoorAwake1
import Derived.Test.YtcloajmcfacfnaaDoorReadRef
import Derived.Test.YtcloajmcfacfnaaDoorDec
import Derived.Test.YtcloajmcfacfnaaDoorPowEnv
import Derived.OpenShut
import Derived.WalkKit
namespace Go.Proofs.YtcloajmcfacfnaaDoor.calcReads
open Go.ChangeShapes Go.WideShapes Go.ChangeAt Go.RowKit
set_option linter.unusedVariables false


set_option maxHeartbeats 2000000 in
theorem walk (s : ByteArray) (os : s.size ≤ maxLen) (n : Int) (on : (Lit.int .i64 n).wf = true) (w : World) (hE : PowEnv w) :
    Calls Tryd.prog 3 #[.string s, .int .i64 n] w fun e w' => e = .returned (.bool true) ∧ Below w.heap.size w w' := by
  have hn := bounds_i64 on
  obtain ⟨n0, n1⟩ := hn
  have g1 := read_any s
  have g2 := rread_any s (by have := os; unfold maxLen at this; exact this)
  have g3 := fun w h => dec_any n n0 n1 w h
  have g4 := rdec_any n n0 n1
  generalize readv s.data.toList = v1 at *
  generalize reade s.data.toList = e1 at *
  by_cases hneg : n < 0
  · have h5 := read_any ⟨(Lib.itoa n).toArray⟩
    have hr := reads_neg hneg
    rw [show (⟨(Lib.itoa n).toArray⟩ : ByteArray).data.toList = Lib.itoa n by simp, hr.1, hr.2] at h5
    clear hr
    generalize Lib.itoa n = l at *
    have G1 := Lib.hid g1
    have G2 := Lib.hid g2
    have G3 := Lib.hid g3
    have G4 := Lib.hid g4
    clear g1 g2 g3 g4
    have HX := Lib.hid h5
    clear h5
    go_enter Tryd.func3, Tryd.ntmps3
    go_wp2_with (first | (go_at_call 10; (with_reducible refine (awake1_any _).mono ?_); rintro e w1 ⟨rfl, hb1⟩) | (go_at_call 11; (with_reducible refine (G1.out _).mono ?_); rintro e w2 ⟨rfl, hb2⟩) | (go_at_call 12; (with_reducible refine (G2.out _).mono ?_); rintro e w3 ⟨rfl, rfl⟩) | (go_at_call 13; (with_reducible refine (G3.out _ (hE.next (by repeat (first | exact Below.refl _ _ | refine Below.drew ?_ | refine below_drewN ?_ _ | refine Below.al ?_ _ | refine Below.next ?_ (by assumption)))).pow).mono ?_); rintro e w4 ⟨rfl, hb4⟩) | (go_at_call 11; (with_reducible refine (HX.out _).mono ?_); rintro e w5 ⟨rfl, hb5⟩) | (go_at_call 14; (with_reducible refine (G4.out _).mono ?_); rintro e w6 ⟨rfl, rfl⟩))
    go_ret
    exact ⟨by simp, (by repeat (first | exact Below.refl _ _ | refine Below.drew ?_ | refine below_drewN ?_ _ | refine Below.al ?_ _ | refine Below.next ?_ (by assumption)))⟩
  · have h5 := read_any ⟨(Lib.itoa n).toArray⟩
    have hr := reads_pos hneg n1
    rw [show (⟨(Lib.itoa n).toArray⟩ : ByteArray).data.toList = Lib.itoa n by simp, hr.1, hr.2] at h5
    clear hr
    have hpos : 0 ≤ n := by omega
    generalize Lib.itoa n = l at *
    have G1 := Lib.hid g1
    have G2 := Lib.hid g2
    have G3 := Lib.hid g3
    have G4 := Lib.hid g4
    clear g1 g2 g3 g4 hneg
    have HX := Lib.hid h5
    clear h5
    go_enter Tryd.func3, Tryd.ntmps3
    go_wp2_with (first | (go_at_call 10; (with_reducible refine (awake1_any _).mono ?_); rintro e w1 ⟨rfl, hb1⟩) | (go_at_call 11; (with_reducible refine (G1.out _).mono ?_); rintro e w2 ⟨rfl, hb2⟩) | (go_at_call 12; (with_reducible refine (G2.out _).mono ?_); rintro e w3 ⟨rfl, rfl⟩) | (go_at_call 13; (with_reducible refine (G3.out _ (hE.next (by repeat (first | exact Below.refl _ _ | refine Below.drew ?_ | refine below_drewN ?_ _ | refine Below.al ?_ _ | refine Below.next ?_ (by assumption)))).pow).mono ?_); rintro e w4 ⟨rfl, hb4⟩) | (go_at_call 11; (with_reducible refine (HX.out _).mono ?_); rintro e w5 ⟨rfl, hb5⟩) | (go_at_call 14; (with_reducible refine (G4.out _).mono ?_); rintro e w6 ⟨rfl, rfl⟩))
    go_ret
    exact ⟨by simp, (by repeat (first | exact Below.refl _ _ | refine Below.drew ?_ | refine below_drewN ?_ _ | refine Below.al ?_ _ | refine Below.next ?_ (by assumption)))⟩
end Go.Proofs.YtcloajmcfacfnaaDoor.calcReads
