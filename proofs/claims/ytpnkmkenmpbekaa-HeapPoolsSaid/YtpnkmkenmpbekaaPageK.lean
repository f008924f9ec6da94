/-
  Pages: moveToEnd.
-/
import Derived.Test.YtpnkmkenmpbekaaPageJ
namespace Go.Proofs.Ytpnkmkenmpbekaa
open Go.RowKit

def spanF (f : Nat → UInt8) (k a n : Nat) : Nat → UInt8 := lay (lay f (4 + 4 * k) (leb a 2)) (6 + 4 * k) (leb n 2)
/-- A page behind so many slots' versions are moved. -/
def moveG (f : Nat → UInt8) : Nat → Nat → UInt8
  | 0 => lay f (nB f) (zer (512 - nB f))
  | k + 1 => if fr f k then moveG f k else spanF (lay (moveG f k) (512 - totF f (k + 1)) (btl f (nA f k) (nZ f k))) k (512 - totF f (k + 1)) (nZ f k)
def moveF (f : Nat → UInt8) : Nat → UInt8 := lay (moveG f (nS f)) 2 (leb (512 - totF f (nS f)) 2)
/-- What moving asks of a page. -/
structure Mov (f : Nat → UInt8) : Prop where
  snd : Snd f
  begin : nB f ≤ 512
  tot : totF f (nS f) ≤ 512
  slots : nS (moveG f 0) = nS f
  same : ∀ k, k < nS f → fr (moveG f k) k = fr f k ∧ nA (moveG f k) k = nA f k ∧ nZ (moveG f k) k = nZ f k
theorem totF_mono (f : Nat → UInt8) {k n : Nat} (h : k ≤ n) : totF f k ≤ totF f n := by
  induction n with
  | zero => have : k = 0 := by omega
            subst this; exact Nat.le_refl _
  | succ n ih =>
    by_cases e : k = n + 1
    · subst e; exact Nat.le_refl _
    · have := ih (by omega)
      have e2 : totF f (n + 1) = totF f n + nZ f n := rfl
      omega
theorem wpList_store_row {ops : Array Oper} {rest : List Oper} {o : Oper} {a : Act} {w : World} {Q : Exit → Act → World → Prop} (hgd : o.guard = none) (ty : TypeId) (x y : Operand) (ho : o.op = .store ty x y)
    (g : Nat) (cells : Array Value) (hx : a.eval x = .pointer (some ⟨g, 0, none⟩)) (hy : a.eval y = .agg cells)
    (t : TypeId) (old : Array Value) (hg : w.heap[g]? = some (.cells old t (0, 0))) (hi : (Try.prog.info? ty).map (·.size) = some cells.size)
    (hold : old.size = cells.size) (h1 : cells.all (·.oneCell') = true)
    (h : wpList Try.prog ops Q rest (a.put o.dst undef) (w.setRow g cells)) : wpList Try.prog ops Q (o :: rest) a w :=
  wpList_plain hgd fun _ hK => wp_store_row ty x y ho g cells hx hy t old hg hi hold h1 (hK _ _ h)
theorem info_arr : (Try.prog.info? 121).map (·.size) = some 512 := by kernel_rfl
theorem zc_arr : Try.zeroCells121 = (pcells fun _ => 0).toArray := by kernel_rfl
theorem pcells_all (f : Nat → UInt8) : (pcells f).toArray.all (·.oneCell') = true := by
  rw [List.all_toArray, List.all_eq_true]
  intro v hv
  obtain ⟨_, _, rfl⟩ := List.mem_map.1 hv
  rfl
/-- What a block of 512 bytes reads as. -/
theorem bx_brd {w : World} {b : Nat} {T : TypeId} {f : Nat → UInt8} (h : Bx w b T (pcells f)) {a n : Nat} (ha : a + n ≤ 512) : Brd w (adr b a) (btl f a n) := by
  refine ⟨by rw [bcells_length]; simp, fun j u hu => ?_⟩
  have hj : j < n := by have := (List.getElem?_eq_some_iff.1 hu).1; rw [bcells_length, btl_length] at this; exact this
  rw [adr_lt (show a < 512 by omega)]
  refine ⟨_, rfl, ?_⟩
  rw [Addr.add_lit, h.cell, pcells_get f (show a + j < 512 by omega), ← hu]
  unfold bcells
  rw [List.getElem?_map, btl_get f a hj]; rfl
set_option maxRecDepth 100000 in
set_option maxHeartbeats 1000000 in
theorem move_any (w : World) (g : Nat) (f : Nat → UInt8) (h : Pgm w g f) (hf : Mov f) :
    Calls Try.prog 84 #[.pointer (some ⟨g, 0, none⟩)] w fun e w' => e = .returned (.tuple #[]) ∧ Pgm w' g (moveF f) ∧ w.grownBy w' (some g) := by
  have hbe := hf.begin
  have hbg := fun W hp => begin_any W g f hp
  have hsz : (pcells f).toArray.size = 512 := by simp [pcells_length]
  have HBG := Lib.hid hbg
  have hgb : g < w.heap.size := h.lt
  have hall := pcells_all f
  have hB0 := heap_alloc_new w (.cells Try.zeroCells121 121)
  have hzz : Try.zeroCells121.size = (pcells f).toArray.size := by rw [zc_arr]; simp [pcells_length]
  have hia : (Try.prog.info? 121).map (·.size) = some (pcells f).toArray.size := by rw [hsz]; exact info_arr
  have b1 : Bx ((w.alloc (.cells Try.zeroCells121 121)).setRow w.heap.size (pcells f).toArray) w.heap.size 121 (pcells f) := setRow_heap _ _ _ _ _ _ hB0
  have g1 : w.grownBy ((w.alloc (.cells Try.zeroCells121 121)).setRow w.heap.size (pcells f).toArray) (some g) :=
    grown_of_below (below_setRow ((Below.refl _ _).alloc (Nat.le_refl _) _) (Nat.le_refl _) _) _
  have p1 := h.kept (grown_of_below (below_setRow ((Below.refl _ _).alloc (Nat.le_refl _) (.cells Try.zeroCells121 121)) (Nat.le_refl _) (pcells f).toArray) none) (by simp)
  have h' : w.heap[g]? = some (.cells (pcells f).toArray 123 (0, 0)) := h
  generalize (pcells f).toArray = R at *
  have HZZ := Lib.hid hzz
  have HIA := Lib.hid hia
  have HALL := Lib.hid hall
  have H' := Lib.hid h'
  have HB0 := Lib.hid hB0
  have B1 := Lib.hid b1
  have P1 := Lib.hid p1
  clear hzz hia hall h' hB0 b1 p1 h hsz hbg
  go_enter Try.func84, Try.ntmps84
  go_wp2_with (first
    | (with_reducible refine wpList_load_row rfl 121 (.tmp 9) rfl g rfl 123 _ (0, 0) _ H'.out Try.underlying121 rfl HIA.out ?_)
    | (with_reducible refine wpList_store_row rfl 121 (.tmp 2) (.tmp 10) rfl w.heap.size _ rfl rfl 121 _ HB0.out HIA.out HZZ.out HALL.out ?_))
  have hb1 := B1.out
  have hp1 := P1.out
  have hsz1 : w.heap.size < ((w.alloc (.cells Try.zeroCells121 121)).setRow w.heap.size R).heap.size := hb1.lt
  generalize (w.alloc (.cells Try.zeroCells121 121)).setRow w.heap.size R = W1 at g1 hb1 hp1 hsz1 ⊢
  clear HZZ HIA HALL H' HB0 B1 P1
  have hbg := HBG.out W1.drew hp1.drew
  have hsl := sl_from g (nB f) (nB f : Int) rfl hbe
  have hnb : nB f + (512 - nB f) ≤ 512 := by omega
  have hm0 : moveG f 0 = lay f (nB f) (zer (512 - nB f)) := rfl
  have HM0 := Lib.hid hm0
  clear hm0
  generalize nB f = nb at *
  refine wp_region_still_tail 6 (by kernel_rfl) (by kernel_rfl) ?_
  simp only [List.take_succ_cons, List.take_zero, List.drop_succ_cons, List.drop_zero]
  repeat (first | still_step | still_call hbg)
  refine wpStill_nil ?_
  refine wpList_clear_pg rfl (.tmp 16) rfl g nb (512 - nb) (512 - nb) f hp1.drew rfl hnb ?_
  intro w2 h2 g2 z2
  rw [← HM0.out] at h2
  have b2 := Bx.kept (w := W1.drew) hb1 g2 (fun e => by injection e with e; omega)
  have G2 := grown_tr g1 (grown_tr (grown_drew _ _) g2)
  have hs2 := slots_any w2 g _ h2
  rw [hf.slots] at hs2
  have hsame := hf.same
  have hver := hf.snd.ver
  have hn := hf.snd.slots
  have htot := hf.tot
  have htm := fun k (hk : k ≤ nS f) => totF_mono f hk
  have hmF : moveF f = lay (moveG f (nS f)) 2 (leb (512 - totF f (nS f)) 2) := rfl
  have HMF := Lib.hid hmF
  have HTM := Lib.hid htm
  have HVER := Lib.hid hver
  have HSAME := Lib.hid hsame
  have HS := Lib.hid hs2
  generalize nS f = n at *
  clear hp1 hb1 hbg hsl hnb HM0 HBG hf hs2 hsame hver htm hmF z2
  go_wp2_with (go_at_call 29; (with_reducible refine (HS.out).mono ?_); rintro e w1 ⟨rfl, hw1⟩; have hw := hw1.symm; subst hw)
  go_loopw [3, 19] (fun a s wr => ∃ k : Nat, k ≤ n ∧ s = .int .i64 (k : Int) ∧ a = .int .i64 (512 - (totF f k : Int)) ∧ Pgm wr g (moveG f k) ∧ Bx wr w.heap.size 121 (pcells f) ∧ w.grownBy wr (some g)) (fun _ s _ => n - (intOf s).toNat)
  case atStart => exact ⟨0, Nat.zero_le _, rfl, by simp [totF], h2, b2, G2⟩
  case round =>
    obtain ⟨k, hk, rfl, rfl, hp, hb, hg⟩ := hrel
    clear h2 b2 G2 g2
    have htk := HTM.out k hk
    by_cases hlt : k < n
    · obtain ⟨s1, s2, s3⟩ := HSAME.out k hlt
      have hfrk := free_any wr g _ (k : Int) k rfl (by omega) hp
      rw [s1] at hfrk
      have hstep : moveG f (k + 1) = if fr f k then moveG f k else spanF (lay (moveG f k) (512 - totF f (k + 1)) (btl f (nA f k) (nZ f k))) k (512 - totF f (k + 1)) (nZ f k) := rfl
      by_cases hx : fr f k = true
      · have htt : totF f (k + 1) = totF f k := by
          show totF f k + nZ f k = _
          have := (of_decide_eq_true hx).2
          omega
        rw [if_pos hx] at hstep
        rw [hx] at hfrk
        have HF := Lib.hid hfrk
        have HST := Lib.hid hstep
        have HTT := Lib.hid htt
        clear hfrk hstep htt hx s1 s2 s3
        go_wp2_with (go_at_call 75; (with_reducible refine (HF.out).mono ?_); rintro e w1 ⟨rfl, hw1⟩; have hw := hw1.symm; subst hw)
        go_roundw
        case rel => exact ⟨k + 1, by omega, by go_num, by rw [HTT.out], by rw [HST.out]; exact hp, hb, hg⟩
        case measure => simp [intOf]; omega
      · have hx' : fr f k = false := by simpa using hx
        obtain ⟨v1, v2⟩ := HVER.out k hlt hx'
        have htt : totF f (k + 1) = totF f k + nZ f k := rfl
        have htk1 := HTM.out (k + 1) (by omega)
        rw [if_neg hx] at hstep
        rw [hx'] at hfrk
        have hspan := span_any wr g _ (k : Int) k rfl (by omega) hp
        rw [s2, s3] at hspan
        have hbr := bx_brd hb (a := nA f k) (n := nZ f k) (by omega)
        have hbl := btl_length f (nA f k) (nZ f k)
        obtain ⟨c, hc⟩ : ∃ c : Nat, c = 512 - totF f (k + 1) := ⟨_, rfl⟩
        rw [← hc] at hstep
        have hcI : (512 : Int) - (totF f k : Int) - (nZ f k : Int) = (c : Int) := by omega
        have hcz : c + nZ f k ≤ 512 := by omega
        have hcT : (512 : Int) - (totF f (k + 1) : Int) = (c : Int) := by omega
        have hzz := nZ_lt f k
        have HF := Lib.hid hfrk
        have HST := Lib.hid hstep
        have HSP := Lib.hid hspan
        have HCT := Lib.hid hcT
        have HCI := Lib.hid hcI
        have HBR := Lib.hid hbr
        have HBL := Lib.hid hbl
        have hsl1 := sl_from g c (512 - (totF f k : Int) - (nZ f k : Int)) hcI (by omega)
        generalize totF f k = t0 at *
        generalize btl f (nA f k) (nZ f k) = l at *
        generalize nA f k = a at *
        generalize nZ f k = z at *
        have hsl2 := sl_both w.heap.size a (a + z) (a : Int) ((a : Int) + (z : Int)) rfl (by omega) (by omega) (by omega)
        rw [show a + z - a = z by omega] at hsl2
        have hw1 : IntKind.i64.wrap ((a : Int) + (z : Int)) = (a : Int) + (z : Int) := IntWalk.i64_in _ (by omega)
        have hP := Lib.hid hp
        clear hfrk hstep hspan hcT hcI hbr hbl hx hx' s1 s2 s3 htt hc hp
        go_wp2_with (first
          | (go_at_call 75; (with_reducible refine (HF.out).mono ?_); rintro e w1 ⟨rfl, hw1⟩; have hw := hw1.symm; subst hw)
          | (go_at_call 74; (with_reducible refine (HSP.out).mono ?_); rintro e w1 ⟨rfl, hw1⟩; have hw := hw1.symm; subst hw))
        refine wp_region_still_tail 10 (by kernel_rfl) (by kernel_rfl) ?_
        simp only [List.take_succ_cons, List.take_zero, List.drop_succ_cons, List.drop_zero]
        repeat still_step
        refine wpStill_nil ?_
        refine wpList_copy_pg rfl (.tmp 38) (.tmp 43) rfl g c _ l hP.out.drew (512 - c) (512 - c) z (512 - a) (adr w.heap.size a) rfl rfl (by rw [HBL.out]; exact (Nat.min_eq_left (by omega)).symm) HBR.out (by rw [HBL.out]; exact hcz) ?_
        intro w4 h4 g4 z4
        have hss := setSpan_any w4 g _ (k : Int) (512 - (t0 : Int) - (z : Int)) (z : Int) k c z rfl HCI.out rfl (by omega) (by omega) hzz h4
        have b4 := Bx.kept (w := wr.drew) hb g4 (fun e => by injection e with e; omega)
        have HSS := Lib.hid hss
        clear hss h4 z4
        go_wp2_with (go_at_call 86; (with_reducible refine (HSS.out).mono ?_); rintro e w5 ⟨rfl, h5, g5, z5⟩; have H5 := Lib.hid h5; clear h5 z5)
        go_roundw
        case rel => exact ⟨k + 1, by omega, by go_num, by rw [HCT.out, HCI.out], by rw [HST.out]; exact H5.out, b4.kept g5 (fun e => by injection e with e; omega), grown_tr hg (grown_tr (grown_drew _ _) (grown_tr g4 g5))⟩
        case measure => simp [intOf]; omega
    · obtain rfl : k = n := by omega
      have hsb := setBegin_any wr g _ (512 - (totF f k : Int)) (512 - totF f k) (by omega) (by omega) hp
      rw [← HMF.out] at hsb
      have HSB := Lib.hid hsb
      clear hsb hp
      go_wp2_with (go_at_call 64; (with_reducible refine (HSB.out).mono ?_); rintro e w5 ⟨rfl, h5, g5, z5⟩; have H5 := Lib.hid h5; clear h5 z5)
      go_end0
      exact ⟨rfl, H5.out, grown_tr hg g5⟩
end Go.Proofs.Ytpnkmkenmpbekaa
