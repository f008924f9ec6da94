/-
  Pages: write, Stamp, read, Get.
-/
import Derived.Test.YtpnkmkenmpbekaaPageE
import Derived.Deep.RegionHeld3
namespace Go.Proofs.Ytpnkmkenmpbekaa
open Go.RowKit

theorem Rd.kept {w w' : World} {size n : Nat} {A : Option Addr} {xs : List Value} (h : Rd w size A n xs) {g : Nat} (hg : w.grownBy w' (some g)) (hA : ∀ ad : Addr, A = some ad → ad.block ≠ g) : Rd w' size A n xs :=
  ⟨h.1, fun j u hu => by
    obtain ⟨ad, e, hc⟩ := h.2 j u hu
    exact ⟨ad, e, hg.cell hc (fun e2 => hA ad e (by rw [badd] at e2; injection e2))⟩⟩
set_option maxRecDepth 100000 in
theorem write_any (w : World) (g : Nat) (f : Nat → UInt8) (a r x m c : Nat) (y p s : Int) (A : Option Addr) (d : List UInt8) (hy : y = (a : Int)) (h : Pgm w g f) (ha : a + 30 + d.length ≤ 512) (hp : -1 ≤ p ∧ p ≤ 65535) (hs : -1 ≤ s ∧ s ≤ 65534)
    (hd : Rd w 1 A d.length (bcells d)) (hA : ∀ ad : Addr, A = some ad → ad.block ≠ g) :
    Calls Try.prog 87 #[.pointer (some ⟨g, 0, none⟩), .int .i64 y, .agg #[.int .u64 (r : Int), .int .u64 (x : Int), .int .u64 (m : Int), .int .i64 p, .int .i64 s, .slice A d.length c]] w fun e w' => e = .returned (.tuple #[]) ∧ Pgm w' g (lay f a (pk r x m p s d)) ∧ w.grownBy w' (some g) := by
  subst hy
  have hlay : lay (lay (lay (lay f a (leb r 8)) (a + 8) (leb x 8)) (a + 16) (pkS m p s)) (a + 30) d = lay f a (pk r x m p s d) := by
    rw [lay_lay f a (leb r 8) _ (a + 8) (by rw [leb_length]), lay_lay f a _ _ (a + 16) (by rw [List.length_append, leb_length, leb_length]), lay_lay f a _ _ (a + 30) (by rw [List.length_append, List.length_append, leb_length, leb_length, pkS_length])]; rfl
  have hgne : g ≠ w.heap.size := by have := h.lt; omega
  have HL := Lib.hid hlay
  clear hlay
  go_enter Try.func87, Try.ntmps87
  go_wp2_with fail
  have b0 := Bx.new w 44 _ [.int .u64 (r : Int), .int .u64 (x : Int), .int .u64 (m : Int), .int .i64 p, .int .i64 s, .slice A d.length c] rfl
  have g0 := World.grownBy_alloc w (.cells #[.int .u64 (r : Int), .int .u64 (x : Int), .int .u64 (m : Int), .int .i64 p, .int .i64 s, .slice A d.length c] 44) (some g)
  have h0 := h.alloc (.cells #[.int .u64 (r : Int), .int .u64 (x : Int), .int .u64 (m : Int), .int .i64 p, .int .i64 s, .slice A d.length c] 44)
  have d0 := hd.kept g0 hA
  refine (setNumber_i _ g f _ _ _ a 8 r (by omega) rfl rfl h0 (by omega) (by omega)).mono ?_
  rintro e w1 ⟨rfl, h1, g1, _⟩
  have b1 := b0.kept g1 (fun e => by injection e with e; exact hgne e)
  have c1 := b1.cell 1
  have d1 := d0.kept g1 hA
  have G1 := grown_tr g0 g1
  have H1 := Lib.hid h1
  clear h1 h0 h d0
  go_wp2_with fail
  refine (setNumber_i _ g _ _ _ _ (a + 8) 8 x (by omega) rfl rfl H1.out (by omega) (by omega)).mono ?_
  rintro e w2 ⟨rfl, h2, g2, _⟩
  have b2 := b1.kept g2 (fun e => by injection e with e; exact hgne e)
  have c2 := b2.cell 2
  have c2' := b2.cell 3
  have c2'' := b2.cell 4
  have d2 := d1.kept g2 hA
  have G2 := grown_tr G1 g2
  have H2 := Lib.hid h2
  clear h2 d1
  go_wp2_with fail
  refine (stamp_any _ g _ a m _ p s (by omega) H2.out (by omega) hp hs).mono ?_
  rintro e w3 ⟨rfl, h3, g3⟩
  have b3 := b2.kept g3 (fun e => by injection e with e; exact hgne e)
  have c3 := b3.cell 5
  have d3 := d2.kept g3 hA
  have G3 := grown_tr G2 g3
  have H3 := Lib.hid h3
  have D3 := Lib.hid d3
  have hw1 : IntKind.i64.wrap ((a : Int) + 30) = (a : Int) + 30 := IntWalk.i64_in _ (by omega)
  have hsl := sl_from g (a + 30) ((a : Int) + 30) (by omega) (by omega)
  clear h3 d2 d3 hd
  go_wp2
  go_still_tail 8, (by kernel_rfl)
  refine wpList_copy_pg rfl (.tmp 30) (.tmp 32) rfl g (a + 30) _ d H3.out.drew _ _ _ _ A rfl rfl (Nat.min_eq_left (by omega)).symm D3.out (by omega) ?_
  intro w4 hp4 hg4 hz4
  go_wp2
  go_end0
  exact ⟨rfl, by rw [← HL.out]; exact hp4, grown_tr G3 (grown_tr (grown_drew _ _) hg4)⟩
/-- A page's slots lie where they may. -/
structure Snd (f : Nat → UInt8) : Prop where
  slots : nS f ≤ 127
  ver : ∀ k, k < nS f → fr f k = false → 30 ≤ nZ f k ∧ nA f k + nZ f k ≤ 512
theorem hasF_yes {f : Nat → UInt8} {x : Int} (h : hasF f x = true) : ∃ k : Nat, x = (k : Int) ∧ k < nS f ∧ fr f k = false := by
  unfold hasF at h
  simp only [Bool.and_eq_true, decide_eq_true_eq, Bool.not_eq_true'] at h
  exact ⟨x.toNat, by omega, by omega, h.2.2⟩
def stE (f : Nat → UInt8) (x : Int) (m : Nat) (p s : Int) : Int := if 1099511627776 < m ∨ vnB p s = false then 3 else if hasF f x = false then 15 else 0
theorem stampS_nil (w : World) (x : Int) (m : Nat) (p s : Int) :
    Calls Try.prog 40 #[.pointer none, .int .i64 x, .int .u64 (m : Int), .agg #[.int .i64 p, .int .i64 s]] w fun e w' => e = .returned (.int .i64 15) ∧ Below w.heap.size w w' := by
  go_enter Try.func40, Try.ntmps40
  go_wp2
  go_ret
  exact ⟨rfl, (Below.refl _ _).alloc (Nat.le_refl _) _⟩
set_option maxRecDepth 100000 in
theorem stampS_any (w : World) (g : Nat) (f : Nat → UInt8) (x : Int) (m : Nat) (p s : Int) (h : Pgm w g f) (hf : Snd f) :
    Calls Try.prog 40 #[.pointer (some ⟨g, 0, none⟩), .int .i64 x, .int .u64 (m : Int), .agg #[.int .i64 p, .int .i64 s]] w fun e w' => e = .returned (.int .i64 (stE f x m p s)) ∧ Pgm w' g (if stE f x m p s = 0 then lay f (nA f x.toNat + 16) (pkS m p s) else f) ∧ w.grownBy w' (some g) := by
  have h0 := h.alloc (.cells #[.int .i64 p, .int .i64 s] 41)
  have g0 := World.grownBy_alloc w (.cells #[.int .i64 p, .int .i64 s] 41) (some g)
  by_cases hm : 1099511627776 < m
  · rw [show stE f x m p s = 3 from if_pos (.inl hm)]
    have H0 := Lib.hid h0
    clear h h0
    go_enter Try.func40, Try.ntmps40
    go_wp2
    go_ret
    exact ⟨rfl, H0.out, g0⟩
  · cases hv : vnB p s with
    | false =>
      rw [show stE f x m p s = 3 from if_pos (.inr hv)]
      have hvn := validNext_any (w.alloc (.cells #[.int .i64 p, .int .i64 s] 41)) p s
      rw [hv] at hvn
      have HV := Lib.hid hvn
      have H0 := Lib.hid h0
      clear h h0 hvn hv
      go_enter Try.func40, Try.ntmps40
      go_wp2_with (go_at_call 88; (with_reducible refine (HV.out).mono ?_); rintro e w1 ⟨rfl, hb⟩; obtain ⟨hc, hf'⟩ := bcell hb)
      go_ret
      exact ⟨rfl, H0.out.below hb, grown_tr g0 (grown_of_below hb _)⟩
    | true =>
      have hvn := validNext_any (w.alloc (.cells #[.int .i64 p, .int .i64 s] 41)) p s
      rw [hv] at hvn
      have HV := Lib.hid hvn
      have H0 := Lib.hid h0
      have hps : (-1 ≤ p ∧ p ≤ 65535) ∧ (-1 ≤ s ∧ s ≤ 65534) := by
        have := of_decide_eq_true hv
        omega
      cases hh : hasF f x with
      | false =>
        have hE : stE f x m p s = 15 := by unfold stE; rw [if_neg (by rw [hv]; simp; omega), if_pos hh]
        rw [hE]
        have hha := fun w hp => has_any w g f x hp hf.slots
        rw [hh] at hha
        have HH := Lib.hid hha
        clear h h0 hvn hv hh hE hha
        go_enter Try.func40, Try.ntmps40
        go_wp2_with (first
          | (go_at_call 88; (with_reducible refine (HV.out).mono ?_); rintro e w1 ⟨rfl, hb⟩; obtain ⟨hc, hf'⟩ := bcell hb; have H1 := Lib.hid (H0.out.below hb); clear H0)
          | (go_at_call 77; (with_reducible refine (HH.out _ H1.out).mono ?_); rintro e w2 ⟨rfl, hw1⟩; have hw := hw1.symm; subst hw))
        go_ret
        exact ⟨rfl, H1.out, grown_tr g0 (grown_of_below hb _)⟩
      | true =>
        have hE : stE f x m p s = 0 := by unfold stE; rw [if_neg (by rw [hv]; simp; omega), if_neg (by rw [hh]; simp)]
        rw [hE, if_pos rfl]
        have hha := fun w hp => has_any w g f x hp hf.slots
        rw [hh] at hha
        have HH := Lib.hid hha
        obtain ⟨k, rfl, hk1, hk2⟩ := hasF_yes hh
        have hver := hf.ver k hk1 hk2
        have hsl := hf.slots
        have hspan := fun w hp => span_any w g f (k : Int) k rfl (by omega) hp
        have HSP := Lib.hid hspan
        rw [Int.toNat_natCast]
        have hst := fun w hp => stamp_any w g f (nA f k) m (nA f k : Int) p s rfl hp (by omega) hps.1 hps.2
        have HST := Lib.hid hst
        generalize nA f k = a at *
        clear h h0 hvn hv hh hE hha hspan hst hk2 hf
        have hgne : ∀ e : Nat, some g = some e → g = e := fun e h => by injection h
        have b0 := Bx.new w 41 _ [.int .i64 p, .int .i64 s] rfl
        have c0 := b0.cell 0
        have c1 := b0.cell 1
        go_enter Try.func40, Try.ntmps40
        go_wp2_with (first
          | (go_at_call 88; (with_reducible refine (HV.out).mono ?_); rintro e w1 ⟨rfl, hb⟩; obtain ⟨hc, hf'⟩ := bcell hb; have H1 := Lib.hid (H0.out.below hb); clear H0)
          | (go_at_call 77; (with_reducible refine (HH.out _ H1.out).mono ?_); rintro e w2 ⟨rfl, hw1⟩; have hw := hw1.symm; subst hw)
          | (go_at_call 74; (with_reducible refine (HSP.out _ H1.out).mono ?_); rintro e w2 ⟨rfl, hw1⟩; have hw := hw1.symm; subst hw)
          | (go_at_call 89; (with_reducible refine (HST.out _ H1.out).mono ?_); rintro e w2 ⟨rfl, h2, g2⟩; have H2 := Lib.hid h2; clear h2))
        go_ret
        exact ⟨rfl, H2.out, grown_tr g0 (grown_tr (grown_of_below hb _) g2)⟩
end Go.Proofs.Ytpnkmkenmpbekaa
