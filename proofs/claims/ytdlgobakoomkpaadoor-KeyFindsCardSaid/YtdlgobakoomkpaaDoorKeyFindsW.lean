/-
  KeyFinds: the walk: where the library's tables hold what its text lays, the law answers true; of what was there nothing has turned.
-/
import Derived.Test.YtdlgobakoomkpaaDoorKeyD
import Derived.Test.YtdlgobakoomkpaaDoorDoorC
import Derived.Test.YtdlgobakoomkpaaDoorCell2A
import Derived.Deep.RegionHeld3
import Derived.Deep.QuietTactic
import Derived.BigQuiet
namespace Go.Proofs.YtdlgobakoomkpaaDoor.keyFinds
open Go.RowKit

/-- Which rows stand from a value's bytes on, up to what is behind these. -/
theorem finds {v : Val} (rv : rightB v = true) (iv : In63 v) {l : List Val} (hl : l.all rightB = true) (ol : ∀ x ∈ l, ValOk x) :
    (!lltB (encs l) (enc v) && lltB (encs l) (behind (enc v))) = true ↔ ∃ t, l = v :: t := by
  rw [← enc_pre rv iv l (right_of hl) (in_take ol), ← behind_in (enc_not_ff v)]
  unfold lltB
  rw [Bool.and_eq_true, Bool.not_eq_true', decide_eq_false_iff_not, decide_eq_true_iff]
theorem same_eqv {a b : Val} (ra : rightB a = true) (rb : rightB b = true) (h : rsame a b = true) : a = b := same_is ra rb (by rw [← same_eq ra rb]; exact h)
theorem same_refl {a : Val} (ra : rightB a = true) : rsame a a = true := by
  have := irrefl ra
  rw [← less_eq ra ra] at this
  unfold rsame
  rw [this]
  rfl
theorem encs_one (v : Val) : encs [v] = enc v := by simp [encs]
theorem vrd_one {w : World} {A : Option Addr} {v : Val} (h : Rd w 4 A 1 (vcells [v])) : Vrd w A [v] := h

set_option maxHeartbeats 2000000 in
theorem walk_n (v : Val) (ov : ValOk v) (A : Option Addr) (c : Nat) (rs : List Lrow) (w : World) (hE : Env w) (hv : rightB v = false) :
    Calls Tryd.prog 8 #[.agg #[.int .u8 v.k, .int .i64 v.i, .string v.s, .bool v.b], .slice A rs.length c] w fun e w' => e = .returned (.bool true) ∧ Below w.heap.size w w' := by
  have hall : [v].all rightB = false := by simp [hv]
  have gr := rright_any v (by have := ov.s; unfold maxLen at this; exact this)
  rw [hv] at gr
  have GR := Lib.hid gr
  clear gr
  have x0 : Below w.heap.size w (w.alloc (.cells #[.int .u8 v.k, .int .i64 v.i, .string v.s, .bool v.b] 43)) := (Below.refl _ _).alloc (Nat.le_refl _) _
  go_enter Tryd.func8, Tryd.ntmps8
  go_wp2_with fail
  refine (awake3_any _ (hE.next x0)).mono ?_
  rintro e w1 ⟨rfl, hb1⟩
  obtain ⟨hc1, hf1⟩ := bcell hb1
  have x1 := x0.next hb1
  have z1 : w.heap.size < w1.heap.size := by have := hb1.size; simp at this; omega
  go_wp2_with fail
  refine (kbytes_no _ 1 [v] hall _ (by simp) (vrd_one (rd_lit rfl rfl rfl)) (by intro x hx; simp at hx; subst hx; exact ov) (hE.next (x1.alloc x1.size _))).mono ?_
  rintro e w2 ⟨v2, rfl, ho2, hb2⟩
  obtain ⟨hc2, hf2⟩ := bcell hb2
  clear ho2
  go_wp2_with fail
  refine (GR.out _).mono ?_
  rintro e w3 ⟨rfl, hb3⟩
  have x3 := (x1.alloc x1.size (.cells (vcells [v]).toArray 43)).next hb2 |>.next hb3
  go_wp2
  go_ret
  exact ⟨rfl, x3⟩
theorem dN {B : Nat} {a w : World} (h : Below B a w) (n : Nat) : Below B a (w.drewN n) := ⟨h.os, h.tape, h.output, h.size, h.block⟩
theorem front6 {w : World} {A : Option Addr} {l : List Val} (h : Vrd w A l) : Vrd w A (l.take 6) := by
  by_cases hl : 6 ≤ l.length
  · exact h.front hl
  · rw [List.take_of_length_le (by omega)]; exact h
theorem boxed {W W' : World} {b : Nat} {v : Val} (h : W.cell? ⟨b, 0, none⟩ = some (.int .u8 v.k) ∧ W.cell? ⟨b, 1, none⟩ = some (.int .i64 v.i) ∧ W.cell? ⟨b, 2, none⟩ = some (.string v.s) ∧ W.cell? ⟨b, 3, none⟩ = some (.bool v.b)) (hb : Below W.heap.size W W') :
    W'.cell? ⟨b, 0, none⟩ = some (.int .u8 v.k) ∧ W'.cell? ⟨b, 1, none⟩ = some (.int .i64 v.i) ∧ W'.cell? ⟨b, 2, none⟩ = some (.string v.s) ∧ W'.cell? ⟨b, 3, none⟩ = some (.bool v.b) := by
  obtain ⟨c0, c1, c2, c3⟩ := h
  have hl := World.block_lt_of_cell? W _ c0
  exact ⟨(hb.cell (p := ⟨b, 0, none⟩) hl).trans c0, (hb.cell (p := ⟨b, 1, none⟩) hl).trans c1, (hb.cell (p := ⟨b, 2, none⟩) hl).trans c2, (hb.cell (p := ⟨b, 3, none⟩) hl).trans c3⟩
theorem carry8 {W w9 : World} {p0 p1 p2 p3 p4 p5 p6 p7 : Addr} {u0 u1 u2 u3 u4 u5 u6 u7 : Value} (h : W.cell? p0 = some u0 ∧ W.cell? p1 = some u1 ∧ W.cell? p2 = some u2 ∧ W.cell? p3 = some u3 ∧ W.cell? p4 = some u4 ∧ W.cell? p5 = some u5 ∧ W.cell? p6 = some u6 ∧ W.cell? p7 = some u7) (hb : Below W.heap.size W w9) : w9.cell? p0 = some u0 ∧ w9.cell? p1 = some u1 ∧ w9.cell? p2 = some u2 ∧ w9.cell? p3 = some u3 ∧ w9.cell? p4 = some u4 ∧ w9.cell? p5 = some u5 ∧ w9.cell? p6 = some u6 ∧ w9.cell? p7 = some u7 := by
  obtain ⟨c0, c1, c2, c3, c4, c5, c6, c7⟩ := h
  exact ⟨(hb.cell (World.block_lt_of_cell? W _ c0)).trans c0, (hb.cell (World.block_lt_of_cell? W _ c1)).trans c1, (hb.cell (World.block_lt_of_cell? W _ c2)).trans c2, (hb.cell (World.block_lt_of_cell? W _ c3)).trans c3, (hb.cell (World.block_lt_of_cell? W _ c4)).trans c4, (hb.cell (World.block_lt_of_cell? W _ c5)).trans c5, (hb.cell (World.block_lt_of_cell? W _ c6)).trans c6, (hb.cell (World.block_lt_of_cell? W _ c7)).trans c7⟩
set_option maxHeartbeats 4000000 in
theorem walk_y (v : Val) (ov : ValOk v) (A : Option Addr) (c : Nat) (rs : List Lrow) (w : World) (hE : Env w) (hv : rightB v = true) (rr : Rrd w A rs) :
    Calls Tryd.prog 8 #[.agg #[.int .u8 v.k, .int .i64 v.i, .string v.s, .bool v.b], .slice A rs.length c] w fun e w' => e = .returned (.bool true) ∧ Below w.heap.size w w' := by
  have hall : [v].all rightB = true := by simp [hv]
  have x0 : Below w.heap.size w (w.alloc (.cells #[.int .u8 v.k, .int .i64 v.i, .string v.s, .bool v.b] 43)) := (Below.refl _ _).alloc (Nat.le_refl _) _
  go_enter Tryd.func8, Tryd.ntmps8
  go_wp2_with fail
  refine (awake3_any _ (hE.next x0)).mono ?_
  rintro e w1 ⟨rfl, hb1⟩
  obtain ⟨hc1, hf1⟩ := bcell hb1
  have x1 := x0.next hb1
  have z1 : w.heap.size < w1.heap.size := by have := hb1.size; simp at this; omega
  have b0 : w1.cell? ⟨w.heap.size, 0, none⟩ = some (.int .u8 v.k) ∧ w1.cell? ⟨w.heap.size, 1, none⟩ = some (.int .i64 v.i) ∧ w1.cell? ⟨w.heap.size, 2, none⟩ = some (.string v.s) ∧ w1.cell? ⟨w.heap.size, 3, none⟩ = some (.bool v.b) := by
    refine ⟨?_, ?_, ?_, ?_⟩ <;> rw [hc1 _ _ (by simp)] <;> simp [go_sem]
  go_wp2_with fail
  refine (kbytes_yes _ 1 [v] hall _ (by simp) (vrd_one (rd_lit rfl rfl rfl)) (by intro x hx; simp at hx; subst hx; exact ov) (hE.next (x1.alloc x1.size _))).mono ?_
  rintro e w2 ⟨v2, rfl, ho2, hb2⟩
  rw [encs_one] at ho2
  obtain ⟨B2, d2, rfl, hn2, hd2, hB2⟩ := byt_slice ho2
  have x2 := (x1.alloc x1.size (.cells (vcells [v]).toArray 43)).next hb2
  have y2 : Below w1.heap.size w1 w2 := ((Below.refl _ _).alloc (Nat.le_refl _) _).next hb2
  have lv := enc_len hv
  clear ho2 hc1 hf1
  go_wp2_with fail
  refine (kbehind_any B2 d2 (enc v) _ hB2 hn2 (by omega)).mono ?_
  rintro e w3 ⟨v3, rfl, ho3, hb3⟩
  obtain ⟨B3, d3, rfl, hn3, hd3, hB3⟩ := byt_slice ho3
  have x3 := x2.next hb3
  have y3 := y2.next hb3
  have hB2 := hB2.below hb3
  have rr := rr.below x3
  have b0 := boxed b0 y3
  clear ho3 x0 x1 x2 y2 y3
  go_wp2
  go_loopw [30] (fun i wr => ∃ k : Nat, k ≤ rs.length ∧ i = .int .i64 k ∧ Below w.heap.size w wr ∧ Below w3.heap.size w3 wr) (fun i _ => rs.length - (intOf i).toNat)
  case atStart => exact ⟨0, Nat.zero_le _, rfl, x3, Below.refl _ _⟩
  case round =>
    obtain ⟨k, hk, rfl, hbw, hb3w⟩ := hrel
    by_cases hlt : k < rs.length
    · obtain ⟨ad, rfl, hcell, h1, h2, h3, h4⟩ := (rr.below hb3w) k hlt
      have hB2 := hB2.below hb3w
      have hB3 := hB3.below hb3w
      have b0 := boxed b0 hb3w
      generalize rs[k] = r at *
      obtain ⟨A', c', l⟩ := r
      simp only [] at hcell h1 h2 h3 h4
      by_cases h20 : 20 ≤ k
      · clear b0 hB2 hB3 h3 h4
        go_wp2
        go_ret
        exact ⟨rfl, hbw⟩
      · have e6 : (l.take 6).length = min l.length 6 := by rw [List.length_take, Nat.min_comm]
        have f6 : min (l.length : Int) 6 = ((l.take 6).length : Int) := by omega
        have hl6 : Vrd wr A' (l.take 6) := front6 h3
        have ol6 := ok_take h4 6
        have n6 : (l.take 6).length ≤ 6 := by omega
        have m6 : (l.take 6).length ≤ l.length := by omega
        cases hall6 : (l.take 6).all rightB with
        | false =>
          generalize l.take 6 = l6 at *
          clear e6 b0 hB2 hB3 h3 h4
          go_wp2_with fail
          refine (kbytes_no A' c' l6 hall6 wr (by omega) hl6 ol6 (hE.next hbw)).mono ?_
          rintro e w5 ⟨v5, rfl, ho5, hb5⟩
          clear ho5
          go_wp2
          go_roundw
          case rel => exact ⟨k + 1, by omega, by go_num, (by repeat (first | exact hbw | refine Below.drew ?_ | refine dN ?_ _ | refine Below.al ?_ _ | refine Below.next ?_ (by assumption))), (by repeat (first | exact hb3w | refine Below.drew ?_ | refine dN ?_ _ | refine Below.al ?_ _ | refine Below.next ?_ (by assumption)))⟩
          case measure => simp [intOf]; omega
        | true =>
          have FI := finds hv (in63 ov) hall6 ol6
          cases l with
          | nil =>
            simp only [List.take_nil] at hall6 hl6 ol6 FI
            have hF : (!lltB (encs []) (enc v) && lltB (encs []) (behind (enc v))) = false := by
              cases h : (!lltB (encs []) (enc v) && lltB (encs []) (behind (enc v))) with
              | false => rfl
              | true => obtain ⟨t, ht⟩ := FI.1 h; cases ht
            clear e6 f6 n6 m6 FI h3 h4 b0
            cases ha : lltB (encs []) (enc v) with
            | true =>
              have k1 := fun w5 (h5 : Below wr.heap.size wr w5) B5 d5 (g5 : Brd w5 B5 (encs [])) => kless_any B5 B2 d5 d2 _ _ w5 g5 (hB2.below h5)
              have k2 := fun w5 (h5 : Below wr.heap.size wr w5) B5 d5 (g5 : Brd w5 B5 (encs [])) => kless_any B5 B3 d5 d3 _ _ w5 g5 (hB3.below h5)
              rw [ha] at k1
              have KK1 := Lib.hid k1
              have KK2 := Lib.hid k2
              clear k1 k2 hF  ha
              go_wp2_with fail
              refine (kbytes_yes A' c' [] hall6 wr (by simp) hl6 ol6 (hE.next hbw)).mono ?_
              rintro e w5 ⟨v5, rfl, ho5, hb5⟩
              obtain ⟨B5, d5, rfl, hn5, hd5, hB5⟩ := byt_slice ho5
              have K1 := Lib.hid (KK1.out w5 hb5 B5 d5 hB5)
              have K2 := Lib.hid (KK2.out w5 hb5 B5 d5 hB5)
              clear KK1 KK2 ho5
              go_wp2_with (first | (go_at_call 26; (with_reducible refine (K1.out).mono ?_); rintro e w6 ⟨rfl, hw6⟩; have hw := hw6.symm; subst hw))
              go_quiet (fail)
              go_wp2
              go_roundw
              case rel => exact ⟨k + 1, by omega, by go_num, (by repeat (first | exact hbw | refine Below.drew ?_ | refine dN ?_ _ | refine Below.al ?_ _ | refine Below.next ?_ (by assumption))), (by repeat (first | exact hb3w | refine Below.drew ?_ | refine dN ?_ _ | refine Below.al ?_ _ | refine Below.next ?_ (by assumption)))⟩
              case measure => simp [intOf]; omega
            | false =>
              cases hb : lltB (encs []) (behind (enc v)) with
              | true =>
                rw [ha, hb] at hF
                cases hF
              | false =>
                have k1 := fun w5 (h5 : Below wr.heap.size wr w5) B5 d5 (g5 : Brd w5 B5 (encs [])) => kless_any B5 B2 d5 d2 _ _ w5 g5 (hB2.below h5)
                have k2 := fun w5 (h5 : Below wr.heap.size wr w5) B5 d5 (g5 : Brd w5 B5 (encs [])) => kless_any B5 B3 d5 d3 _ _ w5 g5 (hB3.below h5)
                rw [ha] at k1
                rw [hb] at k2
                have KK1 := Lib.hid k1
                have KK2 := Lib.hid k2
                clear k1 k2 hF hb ha
                go_wp2_with fail
                refine (kbytes_yes A' c' [] hall6 wr (by simp) hl6 ol6 (hE.next hbw)).mono ?_
                rintro e w5 ⟨v5, rfl, ho5, hb5⟩
                obtain ⟨B5, d5, rfl, hn5, hd5, hB5⟩ := byt_slice ho5
                have K1 := Lib.hid (KK1.out w5 hb5 B5 d5 hB5)
                have K2 := Lib.hid (KK2.out w5 hb5 B5 d5 hB5)
                clear KK1 KK2 ho5
                go_wp2_with (first | (go_at_call 26; (with_reducible refine (K1.out).mono ?_); rintro e w6 ⟨rfl, hw6⟩; have hw := hw6.symm; subst hw) | (go_at_call 26; (with_reducible refine (K2.out).mono ?_); rintro e w6 ⟨rfl, hw6⟩; have hw := hw6.symm; subst hw))
                go_quiet (fail)
                go_wp2
                go_roundw
                case rel => exact ⟨k + 1, by omega, by go_num, (by repeat (first | exact hbw | refine Below.drew ?_ | refine dN ?_ _ | refine Below.al ?_ _ | refine Below.next ?_ (by assumption))), (by repeat (first | exact hb3w | refine Below.drew ?_ | refine dN ?_ _ | refine Below.al ?_ _ | refine Below.next ?_ (by assumption)))⟩
                case measure => simp [intOf]; omega
          | cons x t0 =>
            obtain ⟨ad1, rfl, d0, d1, g2, g3, _⟩ := h3.at_ (k := 0) (by simp)
            have d0 : wr.cell? ad1 = some (.int .u8 x.k) := d0
            have d1 : wr.cell? ⟨ad1.block, ad1.off + 1, none⟩ = some (.int .i64 x.i) := d1
            have g2 : wr.cell? ⟨ad1.block, ad1.off + 2, none⟩ = some (.string x.s) := g2
            have g3 : wr.cell? ⟨ad1.block, ad1.off + 3, none⟩ = some (.bool x.b) := g3
            have rx : rightB x = true := right_of hall6 x (by simp)
            obtain ⟨l6, hl⟩ : ∃ l6, l6 = (x :: t0).take 6 := ⟨_, rfl⟩
            rw [← hl] at hall6 hl6 ol6 FI e6 f6 n6 m6
            obtain ⟨m, hm⟩ : ∃ m, m = (x :: t0).length := ⟨_, rfl⟩
            rw [← hm] at hcell h1 e6 f6 m6
            have hm0 : 0 < m := by rw [hm]; simp
            have hm1 : (0 : Int) < (m : Int) := by omega
            have ix : ∀ W, (Instr.indexAt 22 (.slice (some ad1) m c') (.int .i64 0)).run Tryd.prog W = .ok (.pointer (some ad1)) W := fun W => idx_val ad1 m c' 0 hm0 W
            have HL := Lib.hid hl
            clear hm h3 h4 hl
            by_cases hkk : x.k = v.k
            · have hk0 : (x.k == v.k) = true := by simpa using hkk
              have gs := rsame_any x v
              cases hs : rsame x v with
              | true =>
                have hxv := same_eqv rx hv hs
                have hF : (!lltB (encs l6) (enc v) && lltB (encs l6) (behind (enc v))) = true := FI.2 ⟨t0.take 5, by rw [HL.out, hxv]; rfl⟩
                rw [hs] at gs
                have GS := Lib.hid gs
                clear gs FI HL e6 hkk hs hxv rx
                cases ha : lltB (encs l6) (enc v) with
                | true =>
                  rw [ha] at hF
                  cases hF
                | false =>
                  cases hb : lltB (encs l6) (behind (enc v)) with
                  | true =>
                    have k1 := fun w5 (h5 : Below wr.heap.size wr w5) B5 d5 (g5 : Brd w5 B5 (encs l6)) => kless_any B5 B2 d5 d2 _ _ w5 g5 (hB2.below h5)
                    have k2 := fun w5 (h5 : Below wr.heap.size wr w5) B5 d5 (g5 : Brd w5 B5 (encs l6)) => kless_any B5 B3 d5 d3 _ _ w5 g5 (hB3.below h5)
                    rw [ha] at k1
                    rw [hb] at k2
                    have KK1 := Lib.hid k1
                    have KK2 := Lib.hid k2
                    clear k1 k2 hF hb ha
                    go_wp2_with fail
                    refine (kbytes_yes (some ad1) c' l6 hall6 wr (by omega) hl6 ol6 (hE.next hbw)).mono ?_
                    rintro e w5 ⟨v5, rfl, ho5, hb5⟩
                    obtain ⟨B5, d5, rfl, hn5, hd5, hB5⟩ := byt_slice ho5
                    have K1 := Lib.hid (KK1.out w5 hb5 B5 d5 hB5)
                    have K2 := Lib.hid (KK2.out w5 hb5 B5 d5 hB5)
                    obtain ⟨e0, e1, e2, e3, e4, e5, e6, e7⟩ := carry8 ⟨d0, d1, g2, g3, b0.1, b0.2.1, b0.2.2.1, b0.2.2.2⟩ hb5
                    clear KK1 KK2 ho5
                    go_wp2_with (first | (go_at_call 26; (with_reducible refine (K1.out).mono ?_); rintro e w6 ⟨rfl, hw6⟩; have hw := hw6.symm; subst hw) | (go_at_call 26; (with_reducible refine (K2.out).mono ?_); rintro e w6 ⟨rfl, hw6⟩; have hw := hw6.symm; subst hw))
                    go_region_held3 (fun w' => w'.cell? ad1 = some (.int .u8 x.k) ∧ w'.cell? ⟨ad1.block, ad1.off + 1, none⟩ = some (.int .i64 x.i) ∧ w'.cell? ⟨ad1.block, ad1.off + 2, none⟩ = some (.string x.s) ∧ w'.cell? ⟨ad1.block, ad1.off + 3, none⟩ = some (.bool x.b) ∧ w'.cell? ⟨w.heap.size, 0, none⟩ = some (.int .u8 v.k) ∧ w'.cell? ⟨w.heap.size, 1, none⟩ = some (.int .i64 v.i) ∧ w'.cell? ⟨w.heap.size, 2, none⟩ = some (.string v.s) ∧ w'.cell? ⟨w.heap.size, 3, none⟩ = some (.bool v.b)) (first | assumption | simp [*, go_sem]) ((go_at_call 24; (with_reducible refine (GS.out _).mono ?_); rintro e w9 ⟨rfl, hb9⟩; have hS := carry8 (by assumption) hb9))
                    go_wp2
                    go_roundw
                    case rel => exact ⟨k + 1, by omega, by go_num, (by repeat (first | exact hbw | refine Below.drew ?_ | refine dN ?_ _ | refine Below.al ?_ _ | refine Below.next ?_ (by assumption))), (by repeat (first | exact hb3w | refine Below.drew ?_ | refine dN ?_ _ | refine Below.al ?_ _ | refine Below.next ?_ (by assumption)))⟩
                    case measure => simp [intOf]; omega
                  | false =>
                    rw [ha, hb] at hF
                    cases hF
              | false =>
                have hF : (!lltB (encs l6) (enc v) && lltB (encs l6) (behind (enc v))) = false := by
                  cases h : (!lltB (encs l6) (enc v) && lltB (encs l6) (behind (enc v))) with
                  | false => rfl
                  | true => obtain ⟨t, ht⟩ := FI.1 h; rw [HL.out] at ht; injection ht with h1 _; rw [h1, same_refl hv] at hs; cases hs
                rw [hs] at gs
                have GS := Lib.hid gs
                clear gs FI HL e6 hkk hs rx
                cases ha : lltB (encs l6) (enc v) with
                | true =>
                  have k1 := fun w5 (h5 : Below wr.heap.size wr w5) B5 d5 (g5 : Brd w5 B5 (encs l6)) => kless_any B5 B2 d5 d2 _ _ w5 g5 (hB2.below h5)
                  have k2 := fun w5 (h5 : Below wr.heap.size wr w5) B5 d5 (g5 : Brd w5 B5 (encs l6)) => kless_any B5 B3 d5 d3 _ _ w5 g5 (hB3.below h5)
                  rw [ha] at k1
                  have KK1 := Lib.hid k1
                  have KK2 := Lib.hid k2
                  clear k1 k2 hF  ha
                  go_wp2_with fail
                  refine (kbytes_yes (some ad1) c' l6 hall6 wr (by omega) hl6 ol6 (hE.next hbw)).mono ?_
                  rintro e w5 ⟨v5, rfl, ho5, hb5⟩
                  obtain ⟨B5, d5, rfl, hn5, hd5, hB5⟩ := byt_slice ho5
                  have K1 := Lib.hid (KK1.out w5 hb5 B5 d5 hB5)
                  have K2 := Lib.hid (KK2.out w5 hb5 B5 d5 hB5)
                  obtain ⟨e0, e1, e2, e3, e4, e5, e6, e7⟩ := carry8 ⟨d0, d1, g2, g3, b0.1, b0.2.1, b0.2.2.1, b0.2.2.2⟩ hb5
                  clear KK1 KK2 ho5
                  go_wp2_with (first | (go_at_call 26; (with_reducible refine (K1.out).mono ?_); rintro e w6 ⟨rfl, hw6⟩; have hw := hw6.symm; subst hw))
                  go_region_held3 (fun w' => w'.cell? ad1 = some (.int .u8 x.k) ∧ w'.cell? ⟨ad1.block, ad1.off + 1, none⟩ = some (.int .i64 x.i) ∧ w'.cell? ⟨ad1.block, ad1.off + 2, none⟩ = some (.string x.s) ∧ w'.cell? ⟨ad1.block, ad1.off + 3, none⟩ = some (.bool x.b) ∧ w'.cell? ⟨w.heap.size, 0, none⟩ = some (.int .u8 v.k) ∧ w'.cell? ⟨w.heap.size, 1, none⟩ = some (.int .i64 v.i) ∧ w'.cell? ⟨w.heap.size, 2, none⟩ = some (.string v.s) ∧ w'.cell? ⟨w.heap.size, 3, none⟩ = some (.bool v.b)) (first | assumption | simp [*, go_sem]) ((go_at_call 24; (with_reducible refine (GS.out _).mono ?_); rintro e w9 ⟨rfl, hb9⟩; have hS := carry8 (by assumption) hb9))
                  go_wp2
                  go_roundw
                  case rel => exact ⟨k + 1, by omega, by go_num, (by repeat (first | exact hbw | refine Below.drew ?_ | refine dN ?_ _ | refine Below.al ?_ _ | refine Below.next ?_ (by assumption))), (by repeat (first | exact hb3w | refine Below.drew ?_ | refine dN ?_ _ | refine Below.al ?_ _ | refine Below.next ?_ (by assumption)))⟩
                  case measure => simp [intOf]; omega
                | false =>
                  cases hb : lltB (encs l6) (behind (enc v)) with
                  | true =>
                    rw [ha, hb] at hF
                    cases hF
                  | false =>
                    have k1 := fun w5 (h5 : Below wr.heap.size wr w5) B5 d5 (g5 : Brd w5 B5 (encs l6)) => kless_any B5 B2 d5 d2 _ _ w5 g5 (hB2.below h5)
                    have k2 := fun w5 (h5 : Below wr.heap.size wr w5) B5 d5 (g5 : Brd w5 B5 (encs l6)) => kless_any B5 B3 d5 d3 _ _ w5 g5 (hB3.below h5)
                    rw [ha] at k1
                    rw [hb] at k2
                    have KK1 := Lib.hid k1
                    have KK2 := Lib.hid k2
                    clear k1 k2 hF hb ha
                    go_wp2_with fail
                    refine (kbytes_yes (some ad1) c' l6 hall6 wr (by omega) hl6 ol6 (hE.next hbw)).mono ?_
                    rintro e w5 ⟨v5, rfl, ho5, hb5⟩
                    obtain ⟨B5, d5, rfl, hn5, hd5, hB5⟩ := byt_slice ho5
                    have K1 := Lib.hid (KK1.out w5 hb5 B5 d5 hB5)
                    have K2 := Lib.hid (KK2.out w5 hb5 B5 d5 hB5)
                    obtain ⟨e0, e1, e2, e3, e4, e5, e6, e7⟩ := carry8 ⟨d0, d1, g2, g3, b0.1, b0.2.1, b0.2.2.1, b0.2.2.2⟩ hb5
                    clear KK1 KK2 ho5
                    go_wp2_with (first | (go_at_call 26; (with_reducible refine (K1.out).mono ?_); rintro e w6 ⟨rfl, hw6⟩; have hw := hw6.symm; subst hw) | (go_at_call 26; (with_reducible refine (K2.out).mono ?_); rintro e w6 ⟨rfl, hw6⟩; have hw := hw6.symm; subst hw))
                    go_region_held3 (fun w' => w'.cell? ad1 = some (.int .u8 x.k) ∧ w'.cell? ⟨ad1.block, ad1.off + 1, none⟩ = some (.int .i64 x.i) ∧ w'.cell? ⟨ad1.block, ad1.off + 2, none⟩ = some (.string x.s) ∧ w'.cell? ⟨ad1.block, ad1.off + 3, none⟩ = some (.bool x.b) ∧ w'.cell? ⟨w.heap.size, 0, none⟩ = some (.int .u8 v.k) ∧ w'.cell? ⟨w.heap.size, 1, none⟩ = some (.int .i64 v.i) ∧ w'.cell? ⟨w.heap.size, 2, none⟩ = some (.string v.s) ∧ w'.cell? ⟨w.heap.size, 3, none⟩ = some (.bool v.b)) (first | assumption | simp [*, go_sem]) ((go_at_call 24; (with_reducible refine (GS.out _).mono ?_); rintro e w9 ⟨rfl, hb9⟩; have hS := carry8 (by assumption) hb9))
                    go_wp2
                    go_roundw
                    case rel => exact ⟨k + 1, by omega, by go_num, (by repeat (first | exact hbw | refine Below.drew ?_ | refine dN ?_ _ | refine Below.al ?_ _ | refine Below.next ?_ (by assumption))), (by repeat (first | exact hb3w | refine Below.drew ?_ | refine dN ?_ _ | refine Below.al ?_ _ | refine Below.next ?_ (by assumption)))⟩
                    case measure => simp [intOf]; omega
            · have hk0 : (x.k == v.k) = false := by simpa using hkk
              have hF : (!lltB (encs l6) (enc v) && lltB (encs l6) (behind (enc v))) = false := by
                cases h : (!lltB (encs l6) (enc v) && lltB (encs l6) (behind (enc v))) with
                | false => rfl
                | true => obtain ⟨t, ht⟩ := FI.1 h; rw [HL.out] at ht; injection ht with h1 _; exact absurd (by rw [h1]) hkk
              clear FI HL e6 hkk rx
              cases ha : lltB (encs l6) (enc v) with
              | true =>
                have k1 := fun w5 (h5 : Below wr.heap.size wr w5) B5 d5 (g5 : Brd w5 B5 (encs l6)) => kless_any B5 B2 d5 d2 _ _ w5 g5 (hB2.below h5)
                have k2 := fun w5 (h5 : Below wr.heap.size wr w5) B5 d5 (g5 : Brd w5 B5 (encs l6)) => kless_any B5 B3 d5 d3 _ _ w5 g5 (hB3.below h5)
                rw [ha] at k1
                have KK1 := Lib.hid k1
                have KK2 := Lib.hid k2
                clear k1 k2 hF  ha
                go_wp2_with fail
                refine (kbytes_yes (some ad1) c' l6 hall6 wr (by omega) hl6 ol6 (hE.next hbw)).mono ?_
                rintro e w5 ⟨v5, rfl, ho5, hb5⟩
                obtain ⟨B5, d5, rfl, hn5, hd5, hB5⟩ := byt_slice ho5
                have K1 := Lib.hid (KK1.out w5 hb5 B5 d5 hB5)
                have K2 := Lib.hid (KK2.out w5 hb5 B5 d5 hB5)
                obtain ⟨e0, e1, e2, e3, e4, e5, e6, e7⟩ := carry8 ⟨d0, d1, g2, g3, b0.1, b0.2.1, b0.2.2.1, b0.2.2.2⟩ hb5
                clear KK1 KK2 ho5
                go_wp2_with (first | (go_at_call 26; (with_reducible refine (K1.out).mono ?_); rintro e w6 ⟨rfl, hw6⟩; have hw := hw6.symm; subst hw))
                go_quiet (fail)
                go_wp2
                go_roundw
                case rel => exact ⟨k + 1, by omega, by go_num, (by repeat (first | exact hbw | refine Below.drew ?_ | refine dN ?_ _ | refine Below.al ?_ _ | refine Below.next ?_ (by assumption))), (by repeat (first | exact hb3w | refine Below.drew ?_ | refine dN ?_ _ | refine Below.al ?_ _ | refine Below.next ?_ (by assumption)))⟩
                case measure => simp [intOf]; omega
              | false =>
                cases hb : lltB (encs l6) (behind (enc v)) with
                | true =>
                  rw [ha, hb] at hF
                  cases hF
                | false =>
                  have k1 := fun w5 (h5 : Below wr.heap.size wr w5) B5 d5 (g5 : Brd w5 B5 (encs l6)) => kless_any B5 B2 d5 d2 _ _ w5 g5 (hB2.below h5)
                  have k2 := fun w5 (h5 : Below wr.heap.size wr w5) B5 d5 (g5 : Brd w5 B5 (encs l6)) => kless_any B5 B3 d5 d3 _ _ w5 g5 (hB3.below h5)
                  rw [ha] at k1
                  rw [hb] at k2
                  have KK1 := Lib.hid k1
                  have KK2 := Lib.hid k2
                  clear k1 k2 hF hb ha
                  go_wp2_with fail
                  refine (kbytes_yes (some ad1) c' l6 hall6 wr (by omega) hl6 ol6 (hE.next hbw)).mono ?_
                  rintro e w5 ⟨v5, rfl, ho5, hb5⟩
                  obtain ⟨B5, d5, rfl, hn5, hd5, hB5⟩ := byt_slice ho5
                  have K1 := Lib.hid (KK1.out w5 hb5 B5 d5 hB5)
                  have K2 := Lib.hid (KK2.out w5 hb5 B5 d5 hB5)
                  obtain ⟨e0, e1, e2, e3, e4, e5, e6, e7⟩ := carry8 ⟨d0, d1, g2, g3, b0.1, b0.2.1, b0.2.2.1, b0.2.2.2⟩ hb5
                  clear KK1 KK2 ho5
                  go_wp2_with (first | (go_at_call 26; (with_reducible refine (K1.out).mono ?_); rintro e w6 ⟨rfl, hw6⟩; have hw := hw6.symm; subst hw) | (go_at_call 26; (with_reducible refine (K2.out).mono ?_); rintro e w6 ⟨rfl, hw6⟩; have hw := hw6.symm; subst hw))
                  go_quiet (fail)
                  go_wp2
                  go_roundw
                  case rel => exact ⟨k + 1, by omega, by go_num, (by repeat (first | exact hbw | refine Below.drew ?_ | refine dN ?_ _ | refine Below.al ?_ _ | refine Below.next ?_ (by assumption))), (by repeat (first | exact hb3w | refine Below.drew ?_ | refine dN ?_ _ | refine Below.al ?_ _ | refine Below.next ?_ (by assumption)))⟩
                  case measure => simp [intOf]; omega
    · clear rr hB2 hB3 b0
      go_wp2
      go_ret
      exact ⟨rfl, hbw⟩
theorem walk (v : Val) (ov : ValOk v) (A : Option Addr) (c : Nat) (rs : List Lrow) (w : World) (hE : Env w) (rr : Rrd w A rs) :
    Calls Tryd.prog 8 #[.agg #[.int .u8 v.k, .int .i64 v.i, .string v.s, .bool v.b], .slice A rs.length c] w fun e w' => e = .returned (.bool true) ∧ Below w.heap.size w w' := by
  cases hv : rightB v with
  | false => exact walk_n v ov A c rs w hE hv
  | true => exact walk_y v ov A c rs w hE hv rr
end Go.Proofs.YtdlgobakoomkpaaDoor.keyFinds
