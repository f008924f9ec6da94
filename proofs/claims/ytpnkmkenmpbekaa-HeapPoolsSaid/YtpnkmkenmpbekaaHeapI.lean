/-
  lapidarylaw07.awake: the document's example of a heap holds: true; of what was there nothing has turned.
-/
import Derived.Test.YtpnkmkenmpbekaaHeapH
import Derived.Test.YtpnkmkenmpbekaaPageS
namespace Go.Proofs.Ytpnkmkenmpbekaa
open Go.RowKit
set_option linter.unusedVariables false

section
variable {Ps : List Pg} {n i : Nat} {t : Ver} {P : Pg}
theorem hin_f (hok : t.ok) (hf : hfind Ps t.d.length = some i) (hP : Ps[i]? = some P) : hinE Ps n t = 0 ∧ hinX Ps n t = (i, P.low) ∧ hinS Ps n t = Ps.set i (insP P t) ∧ hinN Ps n t = n := by
  have hE : hinE Ps n t = 0 := by unfold hinE; rw [if_pos hok, hf]
  have hg : Ps.getD i Pg0 = P := by rw [List.getD_eq_getElem?_getD, hP]; rfl
  refine ⟨hE, ?_, ?_, ?_⟩
  · unfold hinX; rw [hE, if_pos rfl]; unfold hinAt; rw [hf]; show (i, (Ps.getD i Pg0).low) = _; rw [hg]
  · unfold hinS; rw [hE, if_pos rfl]; unfold hinP; rw [hf]; show Ps.set i (insP (Ps.getD i Pg0) t) = _; rw [hg]
  · unfold hinN; rw [hE, if_pos rfl]; unfold hinL; rw [hf]
theorem hin_n (hok : t.ok) (hf : hfind Ps t.d.length = none) : hinE Ps (n + 1) t = 0 ∧ hinX Ps (n + 1) t = (Ps.length, 0) ∧ hinS Ps (n + 1) t = Ps ++ [insP Pg0 t] ∧ hinN Ps (n + 1) t = n := by
  have hE : hinE Ps (n + 1) t = 0 := by unfold hinE; rw [if_pos hok, hf]; exact if_neg (by omega)
  refine ⟨hE, ?_, ?_, ?_⟩
  · unfold hinX; rw [hE, if_pos rfl]; unfold hinAt; rw [hf]
  · unfold hinS; rw [hE, if_pos rfl]; unfold hinP; rw [hf]
  · unfold hinN; rw [hE, if_pos rfl]; unfold hinL; rw [hf]; rfl
theorem hin_z (hok : t.ok) (hf : hfind Ps t.d.length = none) : hinE Ps 0 t = 12 ∧ hinX Ps 0 t = (0, 0) ∧ hinS Ps 0 t = Ps ∧ hinN Ps 0 t = 0 := by
  have hE : hinE Ps 0 t = 12 := by unfold hinE; rw [if_pos hok, hf]; rfl
  refine ⟨hE, ?_, ?_, ?_⟩
  · unfold hinX; rw [hE, if_neg (by decide)]
  · unfold hinS; rw [hE, if_neg (by decide)]
  · unfold hinN; rw [hE, if_neg (by decide)]
theorem hfind_one {m : Int} : hfind [P] m = if m ≤ P.room then some 0 else none := by
  unfold hfind
  by_cases h : m ≤ P.room
  · rw [if_pos h]; simp [List.findIdx?_cons, h]
  · rw [if_neg h]; simp [List.findIdx?_cons, h]
theorem room_ok (hok : t.ok) (h : insE P t = 0) : (t.d.length : Int) ≤ P.room := by
  unfold insE at h
  rw [if_pos hok] at h
  by_cases hr : P.room < (t.d.length : Int)
  · rw [if_pos hr] at h; cases h
  · omega
theorem room_full (hok : t.ok) (h : insE P t = 12) : P.room < (t.d.length : Int) := by
  unfold insE at h
  rw [if_pos hok] at h
  by_cases hr : P.room < (t.d.length : Int)
  · exact hr
  · rw [if_neg hr] at h; cases h
theorem free_some {s : Int} (h : freE P s = 0) : (getP P s).isSome = true := by
  unfold freE at h
  cases hg : (getP P s).isSome with
  | true => rfl
  | false => rw [hg] at h; cases h
end
theorem Hs.insz {w0 w : World} {h p n B : Nat} {F : Nat → Prop} {Ps : List Pg} (H : Hs w0 w h p F Ps n) (h256 : Ps.length + n ≤ 256) (r k : Nat) (A : Option Addr) (c : Nat) (hd : w.ownsRow B 5 1 (.slice A k c) k (bcells (zer k))) :
    Calls Try.prog 52 #[.pointer (some ⟨h, 0, none⟩), .agg #[.int .u64 (r : Int), .int .u64 1, .int .u64 0, .int .i64 (-1), .int .i64 (-1), .slice A k c]] w fun e w' => e = .returned (.tuple #[.agg #[.int .i64 ((hinX Ps n (vZ r k)).1 : Int), .int .i64 ((hinX Ps n (vZ r k)).2 : Int)], .int .i64 (hinE Ps n (vZ r k))]) ∧ ∃ F', Hs w0 w' h p F' (hinS Ps n (vZ r k)) (hinN Ps n (vZ r k)) ∧ Fr (fun k => F k ∨ k = p) w w' := by
  have := H.insert h256 (vZ r k) A c (B := B) (by rw [vZ_len]; exact hd)
  rw [vZ_len] at this
  exact this
/-- What the example's four calls leave. -/
theorem aw_facts : ∃ P1 P2 G P3 : Pg, (hinE [] 1 (vZ 1 200) = 0 ∧ hinX [] 1 (vZ 1 200) = (0, 0) ∧ hinS [] 1 (vZ 1 200) = [P1] ∧ hinN [] 1 (vZ 1 200) = 0) ∧
    (hinE [P1] 0 (vZ 1 200) = 0 ∧ hinX [P1] 0 (vZ 1 200) = (0, 1) ∧ hinS [P1] 0 (vZ 1 200) = [P2] ∧ hinN [P1] 0 (vZ 1 200) = 0) ∧
    (hinE [P2] 0 (vZ 1 200) = 12 ∧ hinX [P2] 0 (vZ 1 200) = (0, 0) ∧ hinS [P2] 0 (vZ 1 200) = [P2] ∧ hinN [P2] 0 (vZ 1 200) = 0) ∧
    ((getP P2 0).isSome = true ∧ freN P2 0 = G) ∧
    (hinE [G] 0 (vZ 1 200) = 0 ∧ hinX [G] 0 (vZ 1 200) = (0, 0) ∧ hinS [G] 0 (vZ 1 200) = [P3] ∧ hinN [G] 0 (vZ 1 200) = 0) := by
  have hok : (vZ 1 200).ok := vZ_ok (by decide) (by decide)
  have hsz : (vZ 1 200).sz = 230 := vZ_sz 1 200
  have f1 := (ful0 (vZ 1 200)).add
  have f2 := f1.add
  obtain ⟨q1, q2⟩ := f2.freed (q := 0) (by omega)
  rw [if_neg (by omega)] at q2
  have hz : (((0 : Nat) : Int)) = 0 := rfl
  rw [hz] at q1 q2
  have e1 := f1.insE_ok hok (by rw [hsz]; decide)
  have e2 := f2.insE_full hok (by rw [hsz]; decide)
  have e3 : insE (freN (insP (insP Pg0 (vZ 1 200)) (vZ 1 200)) 0) (vZ 1 200) = 0 := (f2.refill (q := 0) (by omega) hok (by rw [hsz]; decide)).2.1
  refine ⟨_, _, _, insP (freN (insP (insP Pg0 (vZ 1 200)) (vZ 1 200)) 0) (vZ 1 200), hin_n hok rfl, ?_, ?_, ⟨free_some q1, rfl⟩, ?_⟩
  · have := hin_f (n := 0) hok (hfind_one.trans (if_pos (room_ok hok e1))) rfl
    rw [f1.low] at this
    exact this
  · exact hin_z hok (hfind_one.trans (if_neg (by have := room_full hok e2; omega)))
  · have := hin_f (n := 0) hok (hfind_one.trans (if_pos (room_ok hok e3))) rfl
    rw [q2.low] at this
    exact this
set_option maxRecDepth 100000 in
set_option maxHeartbeats 2000000 in
theorem awake7_any (w : World) : Calls Try.prog 42 #[] w fun e w' => e = .returned (.bool true) ∧ Below w.heap.size w w' := by
  obtain ⟨P1, P2, G, P3, fx1, fx2, fx3, fx4, fx5⟩ := aw_facts
  have FX := Lib.hid (And.intro fx1 (And.intro fx2 (And.intro fx3 (And.intro fx4 fx5))))
  clear fx1 fx2 fx3 fx4 fx5
  go_enter Try.func42, Try.ntmps42
  go_wp2_with fail
  refine (newpool_any w 1 (by omega)).mono ?_
  rintro e W1 ⟨rfl, hp1, hb1⟩
  go_wp2_with fail
  refine (hs_new hp1 hb1 (Nat.le_refl _)).mono ?_
  rintro e W2 ⟨h, F0, rfl, J0, hbn⟩
  clear hp1 hb1 hbn
  go_wp2_with fail
  refine (wide_any _).mono ?_
  rintro e V1 ⟨d1, rfl, o1, hb1⟩
  have G1 := Hs.step J0 hb1
  go_wp2_with fail
  refine (G1.insz (by simp) 1 200 _ 200 o1).mono ?_
  rintro e U1 ⟨he1, F1, I1, f1⟩
  rw [FX.out.1.1, FX.out.1.2.1] at he1
  rw [FX.out.1.2.2.1, FX.out.1.2.2.2] at I1
  subst he1
  have J1 := I1.step ((Below.refl _ _).alloc (Nat.le_refl _) (.cells #[.int .i64 0, .int .i64 0] 41))
  have x1 := Bx.new U1 41 _ [.int .i64 0, .int .i64 0] rfl
  go_wp2_with fail
  refine (wide_any _).mono ?_
  rintro e V2 ⟨d2, rfl, o2, hb2⟩
  have G2 := Hs.step J1 hb2
  have x1 := Bx.below x1 hb2
  go_wp2_with fail
  refine (G2.insz (by simp) 1 200 _ 200 o2).mono ?_
  rintro e U2 ⟨he2, F2, I2, f2⟩
  rw [FX.out.2.1.1, FX.out.2.1.2.1] at he2
  rw [FX.out.2.1.2.2.1, FX.out.2.1.2.2.2] at I2
  subst he2
  have J2 := I2.step ((Below.refl _ _).alloc (Nat.le_refl _) (.cells #[.int .i64 0, .int .i64 1] 41))
  have x2 := Bx.new U2 41 _ [.int .i64 0, .int .i64 1] rfl
  have x1 := Hs.bx G2 f2 x1 (by decide) (by decide) (by decide) (by decide) (by decide) (by decide)
  have x1 := Bx.alloc x1 (.cells #[.int .i64 0, .int .i64 1] 41)
  go_wp2_with fail
  refine (wide_any _).mono ?_
  rintro e V3 ⟨d3, rfl, o3, hb3⟩
  have G3 := Hs.step J2 hb3
  have x1 := Bx.below x1 hb3
  go_wp2_with fail
  refine (G3.insz (by simp) 1 200 _ 200 o3).mono ?_
  rintro e U3 ⟨he3, F3, I3, f3⟩
  rw [FX.out.2.2.1.1, FX.out.2.2.1.2.1] at he3
  rw [FX.out.2.2.1.2.2.1, FX.out.2.2.1.2.2.2] at I3
  subst he3
  have J3 := I3.step ((Below.refl _ _).alloc (Nat.le_refl _) (.cells #[.int .i64 0, .int .i64 0] 41))
  have x3 := Bx.new U3 41 _ [.int .i64 0, .int .i64 0] rfl
  have x1 := Hs.bx G3 f3 x1 (by decide) (by decide) (by decide) (by decide) (by decide) (by decide)
  have x1 := Bx.alloc x1 (.cells #[.int .i64 0, .int .i64 0] 41)
  have k0 := x1.cell 0
  have k1 := x1.cell 1
  go_wp2_with fail
  refine (J3.free_yes (by simp) 0 0 P2 rfl FX.out.2.2.2.1.1).mono ?_
  rintro e W4 ⟨rfl, F4, J4, f4⟩
  rw [FX.out.2.2.2.1.2] at J4
  have J4 : Hs w W4 h w.heap.size F4 [G] 0 := J4
  have x1 := Hs.bx J3 f4 x1 (by decide) (by decide) (by decide) (by decide) (by decide) (by decide)
  clear k0 k1
  go_wp2_with fail
  refine (wide_any _).mono ?_
  rintro e V5 ⟨d5, rfl, o5, hb5⟩
  have G5 := Hs.step J4 hb5
  have x1 := Bx.below x1 hb5
  go_wp2_with fail
  refine (G5.insz (by simp) 1 200 _ 200 o5).mono ?_
  rintro e U5 ⟨he5, F5, I5, f5⟩
  rw [FX.out.2.2.2.2.1, FX.out.2.2.2.2.2.1] at he5
  rw [FX.out.2.2.2.2.2.2.1, FX.out.2.2.2.2.2.2.2] at I5
  subst he5
  have J5 := I5.step ((Below.refl _ _).alloc (Nat.le_refl _) (.cells #[.int .i64 0, .int .i64 0] 41))
  have x5 := Bx.new U5 41 _ [.int .i64 0, .int .i64 0] rfl
  have x1 := Hs.bx G5 f5 x1 (by decide) (by decide) (by decide) (by decide) (by decide) (by decide)
  have x1 := Bx.alloc x1 (.cells #[.int .i64 0, .int .i64 0] 41)
  have k0 := x1.cell 0
  have k1 := x1.cell 1
  have m0 := x5.cell 0
  have m1 := x5.cell 1
  have HL := Lib.hid J5.left
  have hbe := J5.below
  go_wp2_with (go_at_call 44; (with_reducible refine (HL.out).mono ?_); rintro e w3 ⟨rfl, hw1⟩; have hw := hw1.symm; subst hw)
  go_ret
  exact ⟨rfl, hbe⟩
end Go.Proofs.Ytpnkmkenmpbekaa
