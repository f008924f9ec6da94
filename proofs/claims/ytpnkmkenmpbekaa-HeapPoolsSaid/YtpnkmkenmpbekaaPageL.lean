/-
  Pages: Insert.
-/
import Derived.Test.YtpnkmkenmpbekaaPageK
import Derived.Deep.QuietTactic
import Derived.BigQuiet
namespace Go.Proofs.Ytpnkmkenmpbekaa
open Go.RowKit

/-- The slots behind an Insert; the page it is laid on; where. -/
def insM (f : Nat → UInt8) : Nat := max (nS f) (lowF f (nS f) + 1)
def insMoves (f : Nat → UInt8) (n : Nat) : Prop := (nB f : Int) - (4 + 4 * (insM f : Int)) < 30 + (n : Int)
instance (f : Nat → UInt8) (n : Nat) : Decidable (insMoves f n) := by unfold insMoves; infer_instance
def ins0 (f : Nat → UInt8) (n : Nat) : Nat → UInt8 := if insMoves f n then moveF f else f
def insA (f : Nat → UInt8) (n : Nat) : Nat := nB (ins0 f n) - (30 + n)
def insF (f : Nat → UInt8) (r x m : Nat) (p s : Int) (d : List UInt8) : Nat → UInt8 :=
  lay (spanF (lay (lay (ins0 f d.length) 2 (leb (insA f d.length) 2)) 0 (leb (insM f) 2)) (lowF f (nS f)) (insA f d.length) (30 + d.length)) (insA f d.length) (pk r x m p s d)
theorem nB_moveF {f : Nat → UInt8} (h : totF f (nS f) ≤ 512) : nB (moveF f) = 512 - totF f (nS f) := by
  show le (lay _ 2 (leb _ 2)) 2 2 = _
  rw [le_leb, Nat.mod_eq_of_lt (by omega)]
set_option maxRecDepth 100000 in
theorem pins_nil (w : World) (r x m c n : Nat) (p s : Int) (A : Option Addr) :
    Calls Try.prog 39 #[.pointer none, .agg #[.int .u64 (r : Int), .int .u64 (x : Int), .int .u64 (m : Int), .int .i64 p, .int .i64 s, .slice A n c]] w fun e w' => e = .returned (.tuple #[.int .i64 0, .int .i64 15]) ∧ Below w.heap.size w w' := by
  go_enter Try.func39, Try.ntmps39
  go_wp2
  go_ret2
  exact ⟨rfl, (Below.refl _ _).alloc (Nat.le_refl _) _⟩
set_option maxRecDepth 100000 in
theorem pins_form (w : World) (g : Nat) (r x m c n : Nat) (p s : Int) (A : Option Addr) (hv : vdB r x m p s n = false) :
    Calls Try.prog 39 #[.pointer (some ⟨g, 0, none⟩), .agg #[.int .u64 (r : Int), .int .u64 (x : Int), .int .u64 (m : Int), .int .i64 p, .int .i64 s, .slice A n c]] w fun e w' => e = .returned (.tuple #[.int .i64 0, .int .i64 3]) ∧ Below w.heap.size w w' := by
  have hva := fun W => valid_any W r x m p s A n c
  rw [hv] at hva
  have HV := Lib.hid hva
  clear hva hv
  go_enter Try.func39, Try.ntmps39
  go_wp2_with (go_at_call 82; (with_reducible refine (HV.out _).mono ?_); rintro e w1 ⟨rfl, hb⟩; have hb' := ((Below.refl w.heap.size w).alloc (Nat.le_refl _) _).trans (hb.mono (by simp)))
  go_ret2
  exact ⟨rfl, hb'⟩
set_option maxRecDepth 100000 in
theorem pins_full (w : World) (g : Nat) (f : Nat → UInt8) (r x m c n : Nat) (p s : Int) (A : Option Addr) (h : Pgm w g f) (hn : nS f ≤ 127) (hv : vdB r x m p s n = true) (hfull : roomF f < (n : Int)) :
    Calls Try.prog 39 #[.pointer (some ⟨g, 0, none⟩), .agg #[.int .u64 (r : Int), .int .u64 (x : Int), .int .u64 (m : Int), .int .i64 p, .int .i64 s, .slice A n c]] w fun e w' => e = .returned (.tuple #[.int .i64 0, .int .i64 12]) ∧ Below w.heap.size w w' := by
  have hva := fun W => valid_any W r x m p s A n c
  rw [hv] at hva
  have hro := fun W hp => proom_any W g f hp hn
  have hn2 : n ≤ 200 := (of_decide_eq_true hv).2.2.2.2
  have b0 := Bx.new w 44 _ [.int .u64 (r : Int), .int .u64 (x : Int), .int .u64 (m : Int), .int .i64 p, .int .i64 s, .slice A n c] rfl
  have h0 := h.alloc (.cells #[.int .u64 (r : Int), .int .u64 (x : Int), .int .u64 (m : Int), .int .i64 p, .int .i64 s, .slice A n c] 44)
  have HV := Lib.hid hva
  have HR := Lib.hid hro
  generalize roomF f = q at *
  clear hva hv hro h
  have hq : decide (q < (n : Int)) = true := decide_eq_true hfull
  go_enter Try.func39, Try.ntmps39
  go_wp2_with (go_at_call 82; (with_reducible refine (HV.out _).mono ?_); rintro e w1 ⟨rfl, hb⟩; have hb' := ((Below.refl w.heap.size w).alloc (Nat.le_refl _) _).trans (hb.mono (by simp)); have b1 := b0.kept (grown_of_below hb none) (by simp); have k5 := b1.cell 5; have h1 := Lib.hid (h0.below hb))
  go_quiet ((go_at_call 25; exact Calls.quiet_of_same (HR.out _ h1.out)))
  go_wp2
  go_ret2
  exact ⟨rfl, below_dN hb' _⟩
set_option maxRecDepth 100000 in
set_option maxHeartbeats 2000000 in
theorem pins_ok (w : World) (g : Nat) (f : Nat → UInt8) (r x m c : Nat) (p s : Int) (A : Option Addr) (d : List UInt8) (h : Pgm w g f) (hf : Mov f) (hv : vdB r x m p s d.length = true) (hroom : (d.length : Int) ≤ roomF f)
    (hd : Rd w 1 A d.length (bcells d)) (hA : ∀ ad : Addr, A = some ad → ad.block ≠ g) :
    Calls Try.prog 39 #[.pointer (some ⟨g, 0, none⟩), .agg #[.int .u64 (r : Int), .int .u64 (x : Int), .int .u64 (m : Int), .int .i64 p, .int .i64 s, .slice A d.length c]] w fun e w' => e = .returned (.tuple #[.int .i64 (lowF f (nS f) : Int), .int .i64 0]) ∧ Pgm w' g (insF f r x m p s d) ∧ w.grownBy w' (some g) := by
  have hva := fun W => valid_any W r x m p s A d.length c
  rw [hv] at hva
  have hn2 : d.length ≤ 200 := (of_decide_eq_true hv).2.2.2.2
  have hps : (-1 ≤ p ∧ p ≤ 65535) ∧ (-1 ≤ s ∧ s ≤ 65534) := by
    have := of_decide_eq_true (of_decide_eq_true hv).2.2.2.1
    omega
  have hn := hf.snd.slots
  have hlo := (lowF_low f (nS f)).le
  have hroI : (d.length : Int) ≤ 512 - (4 + 4 * (insM f : Int)) - 30 - (totF f (nS f) : Int) := by
    have e : roomF f = max (512 - (4 + 4 * (insM f : Int)) - 30 - (totF f (nS f) : Int)) (-1) := rfl
    rw [e] at hroom
    omega
  have hM : insM f = max (nS f) (lowF f (nS f) + 1) := rfl
  have hbgn := hf.begin
  -- the page that is laid on
  have hmv := fun W hp => move_any W g f hp hf
  have hnbm := nB_moveF hf.tot
  have hF : insF f r x m p s d = lay (spanF (lay (lay (ins0 f d.length) 2 (leb (insA f d.length) 2)) 0 (leb (insM f) 2)) (lowF f (nS f)) (insA f d.length) (30 + d.length)) (insA f d.length) (pk r x m p s d) := rfl
  have hA0 : insA f d.length = nB (ins0 f d.length) - (30 + d.length) := rfl
  have hbg := fun W hp => begin_any W g f hp
  have hbg2 := fun W hp => begin_any W g (moveF f) hp
  rw [hnbm] at hbg2
  have htot := hf.tot
  have hsl := fun W hp => slots_any W g f hp
  have hlw := fun W hp => lowest_any W g f hp hn
  have hro := fun W hp => proom_any W g f hp hn
  have hq : decide (roomF f < (d.length : Int)) = false := decide_eq_false (by omega)
  have b0 := Bx.new w 44 _ [.int .u64 (r : Int), .int .u64 (x : Int), .int .u64 (m : Int), .int .i64 p, .int .i64 s, .slice A d.length c] rfl
  have h0 := h.alloc (.cells #[.int .u64 (r : Int), .int .u64 (x : Int), .int .u64 (m : Int), .int .i64 p, .int .i64 s, .slice A d.length c] 44)
  have hd0 := hd.alloc (.cells #[.int .u64 (r : Int), .int .u64 (x : Int), .int .u64 (m : Int), .int .i64 p, .int .i64 s, .slice A d.length c] 44)
  have hgne : g ≠ w.heap.size := by have := h.lt; omega
  have HV := Lib.hid hva
  have HR := Lib.hid hro
  have HBG := Lib.hid hbg
  have HBG2 := Lib.hid hbg2
  have HSL := Lib.hid hsl
  have HLW := Lib.hid hlw
  have HMV := Lib.hid hmv
  have HF := Lib.hid hF
  have hi0 : ins0 f d.length = if insMoves f d.length then moveF f else f := rfl
  have hdec : insMoves f d.length ↔ (nB f : Int) - (4 + 4 * (insM f : Int)) < 30 + (d.length : Int) := Iff.rfl
  generalize roomF f = q at *
  generalize insM f = mm at *
  generalize insA f d.length = a at *
  generalize ins0 f d.length = f0 at *
  generalize lowF f (nS f) = l at *
  clear hva hv hro h hbg hbg2 hsl hlw hmv hF hf hd
  generalize nS f = n0 at *
  generalize totF f n0 = tt at *
  rw [hi0] at hA0 HF
  clear hi0
  have hmm : (l + 1 ≤ n0 ∧ mm = n0) ∨ (l = n0 ∧ mm = l + 1) := by omega
  clear hM
  rcases hmm with ⟨hl1, e⟩ | ⟨hl1, e⟩
  · subst e
    by_cases hmv : insMoves f d.length
    · rw [if_pos hmv] at hA0 HF
      rw [hdec] at hmv
      rw [hnbm] at hA0
      clear hdec hnbm
      generalize nB f = nb at *
      have ha1 : a + (30 + d.length) ≤ 512 - tt := by omega
      have ha2 : 512 - tt ≤ a + (30 + d.length) := by omega
      clear hA0
      go_enter Try.func39, Try.ntmps39
      go_wp2_with (go_at_call 82; (with_reducible refine (HV.out _).mono ?_); rintro e w1 ⟨rfl, hb⟩; have hb' := ((Below.refl w.heap.size w).alloc (Nat.le_refl _) _).trans (hb.mono (by simp)); have b1 := b0.kept (grown_of_below hb none) (by simp); have k5 := b1.cell 5; have h1 := Lib.hid (h0.below hb); have d1 := Lib.hid (hd0.below hb))
      go_quiet ((go_at_call 25; exact Calls.quiet_of_same (HR.out _ h1.out)))
      have h2 := Lib.hid (h1.out.drewN nq)
      have b2 : Bx (w1.drewN nq) w.heap.size 44 _ := b1
      have d2 := Lib.hid (d1.out.drewN nq)
      have e2 := Lib.hid (grown_of_below (below_dN hb' nq) (some g))
      clear h1 b1 d1 k5 hb' hb HV HR hq b0 h0 hd0
      generalize w1.drewN nq = w2 at *
      have k5 := b2.cell 5
      go_wp2_with (first
        | (go_at_call 73; (with_reducible refine (HLW.out _ h2.out).mono ?_); rintro e w1 ⟨rfl, hw1⟩; have hw := hw1.symm; subst hw)
        | (go_at_call 29; (with_reducible refine (HSL.out _ h2.out).mono ?_); rintro e w1 ⟨rfl, hw1⟩; have hw := hw1.symm; subst hw)
        | (go_at_call 83; (with_reducible refine (HBG.out _ h2.out).mono ?_); rintro e w1 ⟨rfl, hw1⟩; have hw := hw1.symm; subst hw)
        | (go_at_call 72; (with_reducible refine (slotsEnd_any _ _ (by omega) (by omega)).mono ?_); rintro e w1 ⟨rfl, hw1⟩; have hw := hw1.symm; subst hw))
      refine (HMV.out _ h2.out).mono ?_
      rintro e w3 ⟨rfl, h3, g3⟩
      have h2 := Lib.hid h3
      have b2 := b2.kept g3 (fun e => by injection e with e; exact hgne e)
      have d2 := Lib.hid (Rd.kept d2.out g3 hA)
      have e2 := Lib.hid (grown_tr e2.out g3)
      clear h3 k5
      go_wp2_with fail
      refine (HBG2.out _ h2.out).mono ?_
      rintro e w1 ⟨rfl, hw1⟩
      have hw := hw1.symm
      subst hw
      go_wp2_with fail
      refine (setBegin_any _ g _ _ a (by omega) (by omega) h2.out).mono ?_
      rintro e w4 ⟨rfl, h4, g4, _⟩
      have H4 := Lib.hid h4
      have b4 := b2.kept g4 (fun e => by injection e with e; exact hgne e)
      have d4 := Lib.hid (Rd.kept d2.out g4 hA)
      have e4 := Lib.hid (grown_tr e2.out g4)
      clear h4 b2 d2 e2
      go_wp2_with fail
      refine (setSlots_any _ g _ _ mm (by omega) (by omega) H4.out).mono ?_
      rintro e w5 ⟨rfl, h5, g5, _⟩
      have H5 := Lib.hid h5
      have b5 := b4.kept g5 (fun e => by injection e with e; exact hgne e)
      have d5 := Lib.hid (Rd.kept d4.out g5 hA)
      have e5 := Lib.hid (grown_tr e4.out g5)
      clear h5 b4 d4 e4
      go_wp2_with fail
      refine (setSpan_any _ g _ _ _ _ l a (30 + d.length) (by omega) (by omega) (by omega) (by omega) (by omega) (by omega) H5.out).mono ?_
      rintro e w6 ⟨rfl, h6, g6, _⟩
      have H6 := Lib.hid h6
      have b6 := b5.kept g6 (fun e => by injection e with e; exact hgne e)
      have d6 := Lib.hid (Rd.kept d5.out g6 hA)
      have e6 := Lib.hid (grown_tr e5.out g6)
      have q0 := b6.cell 0
      have q1 := b6.cell 1
      have q2 := b6.cell 2
      have q3 := b6.cell 3
      have q4 := b6.cell 4
      have q5 := b6.cell 5
      clear h6 b5 d5 e5
      go_wp2_with fail
      refine (write_any _ g _ a r x m c _ p s A d (by omega) H6.out (by omega) hps.1 hps.2 d6.out hA).mono ?_
      rintro e w7 ⟨rfl, h7, g7⟩
      have H7 := Lib.hid h7
      clear h7
      go_wp2_with fail
      go_ret2
      exact ⟨rfl, by rw [HF.out]; exact H7.out, grown_tr e6.out g7⟩
    · rw [if_neg hmv] at hA0 HF
      rw [hdec] at hmv
      clear hdec hnbm
      generalize nB f = nb at *
      have ha1 : a + (30 + d.length) ≤ nb := by omega
      have ha2 : nb ≤ a + (30 + d.length) := by omega
      clear hA0
      go_enter Try.func39, Try.ntmps39
      go_wp2_with (go_at_call 82; (with_reducible refine (HV.out _).mono ?_); rintro e w1 ⟨rfl, hb⟩; have hb' := ((Below.refl w.heap.size w).alloc (Nat.le_refl _) _).trans (hb.mono (by simp)); have b1 := b0.kept (grown_of_below hb none) (by simp); have k5 := b1.cell 5; have h1 := Lib.hid (h0.below hb); have d1 := Lib.hid (hd0.below hb))
      go_quiet ((go_at_call 25; exact Calls.quiet_of_same (HR.out _ h1.out)))
      have h2 := Lib.hid (h1.out.drewN nq)
      have b2 : Bx (w1.drewN nq) w.heap.size 44 _ := b1
      have d2 := Lib.hid (d1.out.drewN nq)
      have e2 := Lib.hid (grown_of_below (below_dN hb' nq) (some g))
      clear h1 b1 d1 k5 hb' hb HV HR hq b0 h0 hd0
      generalize w1.drewN nq = w2 at *
      have k5 := b2.cell 5
      go_wp2_with (first
        | (go_at_call 73; (with_reducible refine (HLW.out _ h2.out).mono ?_); rintro e w1 ⟨rfl, hw1⟩; have hw := hw1.symm; subst hw)
        | (go_at_call 29; (with_reducible refine (HSL.out _ h2.out).mono ?_); rintro e w1 ⟨rfl, hw1⟩; have hw := hw1.symm; subst hw)
        | (go_at_call 83; (with_reducible refine (HBG.out _ h2.out).mono ?_); rintro e w1 ⟨rfl, hw1⟩; have hw := hw1.symm; subst hw)
        | (go_at_call 72; (with_reducible refine (slotsEnd_any _ _ (by omega) (by omega)).mono ?_); rintro e w1 ⟨rfl, hw1⟩; have hw := hw1.symm; subst hw))
      refine (setBegin_any _ g _ _ a (by omega) (by omega) h2.out).mono ?_
      rintro e w4 ⟨rfl, h4, g4, _⟩
      have H4 := Lib.hid h4
      have b4 := b2.kept g4 (fun e => by injection e with e; exact hgne e)
      have d4 := Lib.hid (Rd.kept d2.out g4 hA)
      have e4 := Lib.hid (grown_tr e2.out g4)
      clear h4 b2 d2 e2
      go_wp2_with fail
      refine (setSlots_any _ g _ _ mm (by omega) (by omega) H4.out).mono ?_
      rintro e w5 ⟨rfl, h5, g5, _⟩
      have H5 := Lib.hid h5
      have b5 := b4.kept g5 (fun e => by injection e with e; exact hgne e)
      have d5 := Lib.hid (Rd.kept d4.out g5 hA)
      have e5 := Lib.hid (grown_tr e4.out g5)
      clear h5 b4 d4 e4
      go_wp2_with fail
      refine (setSpan_any _ g _ _ _ _ l a (30 + d.length) (by omega) (by omega) (by omega) (by omega) (by omega) (by omega) H5.out).mono ?_
      rintro e w6 ⟨rfl, h6, g6, _⟩
      have H6 := Lib.hid h6
      have b6 := b5.kept g6 (fun e => by injection e with e; exact hgne e)
      have d6 := Lib.hid (Rd.kept d5.out g6 hA)
      have e6 := Lib.hid (grown_tr e5.out g6)
      have q0 := b6.cell 0
      have q1 := b6.cell 1
      have q2 := b6.cell 2
      have q3 := b6.cell 3
      have q4 := b6.cell 4
      have q5 := b6.cell 5
      clear h6 b5 d5 e5
      go_wp2_with fail
      refine (write_any _ g _ a r x m c _ p s A d (by omega) H6.out (by omega) hps.1 hps.2 d6.out hA).mono ?_
      rintro e w7 ⟨rfl, h7, g7⟩
      have H7 := Lib.hid h7
      clear h7
      go_wp2_with fail
      go_ret2
      exact ⟨rfl, by rw [HF.out]; exact H7.out, grown_tr e6.out g7⟩
  · subst e
    subst hl1
    by_cases hmv : insMoves f d.length
    · rw [if_pos hmv] at hA0 HF
      rw [hdec] at hmv
      rw [hnbm] at hA0
      clear hdec hnbm
      generalize nB f = nb at *
      have ha1 : a + (30 + d.length) ≤ 512 - tt := by omega
      have ha2 : 512 - tt ≤ a + (30 + d.length) := by omega
      clear hA0
      go_enter Try.func39, Try.ntmps39
      go_wp2_with (go_at_call 82; (with_reducible refine (HV.out _).mono ?_); rintro e w1 ⟨rfl, hb⟩; have hb' := ((Below.refl w.heap.size w).alloc (Nat.le_refl _) _).trans (hb.mono (by simp)); have b1 := b0.kept (grown_of_below hb none) (by simp); have k5 := b1.cell 5; have h1 := Lib.hid (h0.below hb); have d1 := Lib.hid (hd0.below hb))
      go_quiet ((go_at_call 25; exact Calls.quiet_of_same (HR.out _ h1.out)))
      have h2 := Lib.hid (h1.out.drewN nq)
      have b2 : Bx (w1.drewN nq) w.heap.size 44 _ := b1
      have d2 := Lib.hid (d1.out.drewN nq)
      have e2 := Lib.hid (grown_of_below (below_dN hb' nq) (some g))
      clear h1 b1 d1 k5 hb' hb HV HR hq b0 h0 hd0
      generalize w1.drewN nq = w2 at *
      have k5 := b2.cell 5
      go_wp2_with (first
        | (go_at_call 73; (with_reducible refine (HLW.out _ h2.out).mono ?_); rintro e w1 ⟨rfl, hw1⟩; have hw := hw1.symm; subst hw)
        | (go_at_call 29; (with_reducible refine (HSL.out _ h2.out).mono ?_); rintro e w1 ⟨rfl, hw1⟩; have hw := hw1.symm; subst hw)
        | (go_at_call 83; (with_reducible refine (HBG.out _ h2.out).mono ?_); rintro e w1 ⟨rfl, hw1⟩; have hw := hw1.symm; subst hw)
        | (go_at_call 72; (with_reducible refine (slotsEnd_any _ _ (by omega) (by omega)).mono ?_); rintro e w1 ⟨rfl, hw1⟩; have hw := hw1.symm; subst hw))
      refine (HMV.out _ h2.out).mono ?_
      rintro e w3 ⟨rfl, h3, g3⟩
      have h2 := Lib.hid h3
      have b2 := b2.kept g3 (fun e => by injection e with e; exact hgne e)
      have d2 := Lib.hid (Rd.kept d2.out g3 hA)
      have e2 := Lib.hid (grown_tr e2.out g3)
      clear h3 k5
      go_wp2_with fail
      refine (HBG2.out _ h2.out).mono ?_
      rintro e w1 ⟨rfl, hw1⟩
      have hw := hw1.symm
      subst hw
      go_wp2_with fail
      refine (setBegin_any _ g _ _ a (by omega) (by omega) h2.out).mono ?_
      rintro e w4 ⟨rfl, h4, g4, _⟩
      have H4 := Lib.hid h4
      have b4 := b2.kept g4 (fun e => by injection e with e; exact hgne e)
      have d4 := Lib.hid (Rd.kept d2.out g4 hA)
      have e4 := Lib.hid (grown_tr e2.out g4)
      clear h4 b2 d2 e2
      go_wp2_with fail
      refine (setSlots_any _ g _ _ (l + 1) (by omega) (by omega) H4.out).mono ?_
      rintro e w5 ⟨rfl, h5, g5, _⟩
      have H5 := Lib.hid h5
      have b5 := b4.kept g5 (fun e => by injection e with e; exact hgne e)
      have d5 := Lib.hid (Rd.kept d4.out g5 hA)
      have e5 := Lib.hid (grown_tr e4.out g5)
      clear h5 b4 d4 e4
      go_wp2_with fail
      refine (setSpan_any _ g _ _ _ _ l a (30 + d.length) (by omega) (by omega) (by omega) (by omega) (by omega) (by omega) H5.out).mono ?_
      rintro e w6 ⟨rfl, h6, g6, _⟩
      have H6 := Lib.hid h6
      have b6 := b5.kept g6 (fun e => by injection e with e; exact hgne e)
      have d6 := Lib.hid (Rd.kept d5.out g6 hA)
      have e6 := Lib.hid (grown_tr e5.out g6)
      have q0 := b6.cell 0
      have q1 := b6.cell 1
      have q2 := b6.cell 2
      have q3 := b6.cell 3
      have q4 := b6.cell 4
      have q5 := b6.cell 5
      clear h6 b5 d5 e5
      go_wp2_with fail
      refine (write_any _ g _ a r x m c _ p s A d (by omega) H6.out (by omega) hps.1 hps.2 d6.out hA).mono ?_
      rintro e w7 ⟨rfl, h7, g7⟩
      have H7 := Lib.hid h7
      clear h7
      go_wp2_with fail
      go_ret2
      exact ⟨rfl, by rw [HF.out]; exact H7.out, grown_tr e6.out g7⟩
    · rw [if_neg hmv] at hA0 HF
      rw [hdec] at hmv
      clear hdec hnbm
      generalize nB f = nb at *
      have ha1 : a + (30 + d.length) ≤ nb := by omega
      have ha2 : nb ≤ a + (30 + d.length) := by omega
      clear hA0
      go_enter Try.func39, Try.ntmps39
      go_wp2_with (go_at_call 82; (with_reducible refine (HV.out _).mono ?_); rintro e w1 ⟨rfl, hb⟩; have hb' := ((Below.refl w.heap.size w).alloc (Nat.le_refl _) _).trans (hb.mono (by simp)); have b1 := b0.kept (grown_of_below hb none) (by simp); have k5 := b1.cell 5; have h1 := Lib.hid (h0.below hb); have d1 := Lib.hid (hd0.below hb))
      go_quiet ((go_at_call 25; exact Calls.quiet_of_same (HR.out _ h1.out)))
      have h2 := Lib.hid (h1.out.drewN nq)
      have b2 : Bx (w1.drewN nq) w.heap.size 44 _ := b1
      have d2 := Lib.hid (d1.out.drewN nq)
      have e2 := Lib.hid (grown_of_below (below_dN hb' nq) (some g))
      clear h1 b1 d1 k5 hb' hb HV HR hq b0 h0 hd0
      generalize w1.drewN nq = w2 at *
      have k5 := b2.cell 5
      go_wp2_with (first
        | (go_at_call 73; (with_reducible refine (HLW.out _ h2.out).mono ?_); rintro e w1 ⟨rfl, hw1⟩; have hw := hw1.symm; subst hw)
        | (go_at_call 29; (with_reducible refine (HSL.out _ h2.out).mono ?_); rintro e w1 ⟨rfl, hw1⟩; have hw := hw1.symm; subst hw)
        | (go_at_call 83; (with_reducible refine (HBG.out _ h2.out).mono ?_); rintro e w1 ⟨rfl, hw1⟩; have hw := hw1.symm; subst hw)
        | (go_at_call 72; (with_reducible refine (slotsEnd_any _ _ (by omega) (by omega)).mono ?_); rintro e w1 ⟨rfl, hw1⟩; have hw := hw1.symm; subst hw))
      refine (setBegin_any _ g _ _ a (by omega) (by omega) h2.out).mono ?_
      rintro e w4 ⟨rfl, h4, g4, _⟩
      have H4 := Lib.hid h4
      have b4 := b2.kept g4 (fun e => by injection e with e; exact hgne e)
      have d4 := Lib.hid (Rd.kept d2.out g4 hA)
      have e4 := Lib.hid (grown_tr e2.out g4)
      clear h4 b2 d2 e2
      go_wp2_with fail
      refine (setSlots_any _ g _ _ (l + 1) (by omega) (by omega) H4.out).mono ?_
      rintro e w5 ⟨rfl, h5, g5, _⟩
      have H5 := Lib.hid h5
      have b5 := b4.kept g5 (fun e => by injection e with e; exact hgne e)
      have d5 := Lib.hid (Rd.kept d4.out g5 hA)
      have e5 := Lib.hid (grown_tr e4.out g5)
      clear h5 b4 d4 e4
      go_wp2_with fail
      refine (setSpan_any _ g _ _ _ _ l a (30 + d.length) (by omega) (by omega) (by omega) (by omega) (by omega) (by omega) H5.out).mono ?_
      rintro e w6 ⟨rfl, h6, g6, _⟩
      have H6 := Lib.hid h6
      have b6 := b5.kept g6 (fun e => by injection e with e; exact hgne e)
      have d6 := Lib.hid (Rd.kept d5.out g6 hA)
      have e6 := Lib.hid (grown_tr e5.out g6)
      have q0 := b6.cell 0
      have q1 := b6.cell 1
      have q2 := b6.cell 2
      have q3 := b6.cell 3
      have q4 := b6.cell 4
      have q5 := b6.cell 5
      clear h6 b5 d5 e5
      go_wp2_with fail
      refine (write_any _ g _ a r x m c _ p s A d (by omega) H6.out (by omega) hps.1 hps.2 d6.out hA).mono ?_
      rintro e w7 ⟨rfl, h7, g7⟩
      have H7 := Lib.hid h7
      clear h7
      go_wp2_with fail
      go_ret2
      exact ⟨rfl, by rw [HF.out]; exact H7.out, grown_tr e6.out g7⟩
end Go.Proofs.Ytpnkmkenmpbekaa
