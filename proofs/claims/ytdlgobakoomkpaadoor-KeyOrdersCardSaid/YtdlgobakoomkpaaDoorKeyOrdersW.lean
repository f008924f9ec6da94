/-
  KeyOrders: the walk: where the library's tables hold what its text lays, the law answers true; of what was there nothing has turned.
-/
import Derived.Test.YtdlgobakoomkpaaDoorKeyD
import Derived.Test.YtdlgobakoomkpaaDoorCell2A
import Derived.WalkLawsBesides
import Derived.Deep.RegionHeld3
import Derived.Deep.QuietTactic
import Derived.BigQuiet
namespace Go.Proofs.YtdlgobakoomkpaaDoor.keyOrders
open Go.RowKit

theorem same_eqv {a b : Val} (ra : rightB a = true) (rb : rightB b = true) (h : rsame a b = true) : a = b := same_is ra rb (by rw [← same_eq ra rb]; exact h)
theorem same_refl {a : Val} (ra : rightB a = true) : rsame a a = true := by
  have := irrefl ra
  rw [← less_eq ra ra] at this
  unfold rsame
  rw [this]
  rfl
theorem carry8 {W w9 : World} {p0 p1 p2 p3 p4 p5 p6 p7 : Addr} {u0 u1 u2 u3 u4 u5 u6 u7 : Value} (h : W.cell? p0 = some u0 ∧ W.cell? p1 = some u1 ∧ W.cell? p2 = some u2 ∧ W.cell? p3 = some u3 ∧ W.cell? p4 = some u4 ∧ W.cell? p5 = some u5 ∧ W.cell? p6 = some u6 ∧ W.cell? p7 = some u7) (hb : Below W.heap.size W w9) : w9.cell? p0 = some u0 ∧ w9.cell? p1 = some u1 ∧ w9.cell? p2 = some u2 ∧ w9.cell? p3 = some u3 ∧ w9.cell? p4 = some u4 ∧ w9.cell? p5 = some u5 ∧ w9.cell? p6 = some u6 ∧ w9.cell? p7 = some u7 := by
  obtain ⟨c0, c1, c2, c3, c4, c5, c6, c7⟩ := h
  exact ⟨(hb.cell (World.block_lt_of_cell? W _ c0)).trans c0, (hb.cell (World.block_lt_of_cell? W _ c1)).trans c1, (hb.cell (World.block_lt_of_cell? W _ c2)).trans c2, (hb.cell (World.block_lt_of_cell? W _ c3)).trans c3, (hb.cell (World.block_lt_of_cell? W _ c4)).trans c4, (hb.cell (World.block_lt_of_cell? W _ c5)).trans c5, (hb.cell (World.block_lt_of_cell? W _ c6)).trans c6, (hb.cell (World.block_lt_of_cell? W _ c7)).trans c7⟩
/-- What the first place that parts says of the bytes. -/
theorem first_parts {la lb : List Val} (hA : la.all rightB = true) (hB : lb.all rightB = true) (o0 : ∀ x ∈ la, ValOk x) (o1 : ∀ x ∈ lb, ValOk x) {k : Nat} (ha : k < la.length) (hb : k < lb.length)
    (ht : la.take k = lb.take k) (hne : rsame la[k] lb[k] = false) : lltB (encs la) (encs lb) = rless la[k] lb[k] ∧ lltB (encs lb) (encs la) = !rless la[k] lb[k] := by
  have ra := right_of hA _ (List.getElem_mem ha)
  have rb := right_of hB _ (List.getElem_mem hb)
  have ia := in63 (o0 _ (List.getElem_mem ha))
  have ib := in63 (o1 _ (List.getElem_mem hb))
  have hn : la[k] ≠ lb[k] := fun e => by rw [e, same_refl rb] at hne; cases hne
  have ea : la = la.take k ++ la[k] :: la.drop (k + 1) := by conv => lhs; rw [← List.take_append_drop k la, List.drop_eq_getElem_cons ha]
  have eb : lb = la.take k ++ lb[k] :: lb.drop (k + 1) := by conv => lhs; rw [← List.take_append_drop k lb, List.drop_eq_getElem_cons hb, ← ht]
  have hp : Parts (encs la) (encs lb) (rless la[k] lb[k] = true) := by
    have := encs_parts (c := la.take k) (s := la.drop (k + 1)) (t := lb.drop (k + 1)) ra rb ia ib hn
    rw [← ea, ← eb] at this
    exact this
  have h1 := hp.lt [] []
  have h2 := hp.swap.lt [] []
  simp only [List.append_nil] at h1 h2
  unfold lltB
  constructor
  · rw [Bool.eq_iff_iff, decide_eq_true_iff]; exact h1
  · rw [Bool.eq_iff_iff, decide_eq_true_iff, h2]; simp

set_option maxHeartbeats 2000000 in
theorem walk_yy (A0 A1 : Option Addr) (c0 c1 n : Nat) (l0 l1 : List Val) (w : World) (hE : Env w) (hn : n = min (min l0.length l1.length) 8) (r0 : Vrd w A0 (l0.take n)) (r1 : Vrd w A1 (l1.take n))
    (n0 : l0.length ≤ c0) (n1 : l1.length ≤ c1) (m0 : c0 ≤ 9223372036854775807) (m1 : c1 ≤ 9223372036854775807) (o0 : ∀ x ∈ l0.take n, ValOk x) (o1 : ∀ x ∈ l1.take n, ValOk x)
    (hA : (l0.take n).all rightB = true) (hB : (l1.take n).all rightB = true) :
    Calls Tryd.prog 5 #[.slice A0 l0.length c0, .slice A1 l1.length c1] w fun e w' => e = .returned (.bool true) ∧ Below w.heap.size w w' := by
  have e0 : (l0.take n).length = n := by rw [List.length_take]; omega
  have e1 : (l1.take n).length = n := by rw [List.length_take]; omega
  have g8 : n ≤ 8 := by omega
  have g0 : n ≤ l0.length := by omega
  have g1 : n ≤ l1.length := by omega
  generalize l0.take n = la at *
  generalize l1.take n = lb at *
  have G0 := Lib.hid e0
  have G1 := Lib.hid e1
  have hm3 : ∀ (ts : Array TypeId) (t : TypeId) (w : World), (Builtin.min_ ts t #[.int .i64 (l0.length : Int), .int .i64 (l1.length : Int), .int .i64 8]).run Tryd.prog w = .ok (.int .i64 (n : Int)) w := fun ts t w => by
    rw [run_min_int3]
    congr 2
    split <;> split at * <;> omega
  clear hn
  have b0 := fun w h1 h2 => kbytes_yes A0 c0 la hA w (by omega) h1 o0 h2
  have b1 := fun w h1 h2 => kbytes_yes A1 c1 lb hB w (by omega) h1 o1 h2
  rw [e0] at b0
  rw [e1] at b1
  have B0 := Lib.hid b0
  have B1 := Lib.hid b1
  clear b0 b1 e0 e1
  go_enter Tryd.func5, Tryd.ntmps5
  go_wp2_with fail
  refine (awake3_any _ hE).mono ?_
  rintro e w1 ⟨rfl, hb1⟩
  have y0 := r0.below hb1
  have y1 := r1.below hb1
  go_wp2_with fail
  refine (B0.out _ y0 (hE.next hb1)).mono ?_
  rintro e w2 ⟨v2, rfl, ho2, hb2⟩
  obtain ⟨B2, d2, rfl, hn2, hd2, hB2⟩ := byt_slice ho2
  have x2 := hb1.next hb2
  have y1 := y1.below hb2
  have y0 := y0.below hb2
  go_wp2_with fail
  refine (B1.out _ y1 (hE.next x2)).mono ?_
  rintro e w3 ⟨v3, rfl, ho3, hb3⟩
  obtain ⟨B3, d3, rfl, hn3, hd3, hB3⟩ := byt_slice ho3
  have x3 := x2.next hb3
  have y1 := y1.below hb3
  have y0 := y0.below hb3
  have hB2 := hB2.below hb3
  clear ho2 ho3 B0 B1
  go_wp2
  go_loopw [44] (fun i wr => ∃ k : Nat, k ≤ n ∧ i = .int .i64 k ∧ la.take k = lb.take k ∧ Below w.heap.size w wr ∧ Below w3.heap.size w3 wr) (fun i _ => n - (intOf i).toNat)
  case atStart => exact ⟨0, Nat.zero_le _, rfl, rfl, x3, Below.refl _ _⟩
  case round =>
    obtain ⟨k, hk, rfl, htk, hbw, hb3w⟩ := hrel
    have hB2 := hB2.below hb3w
    have hB3 := hB3.below hb3w
    by_cases hlt : k < n
    · have ka : k < la.length := by rw [G0.out]; exact hlt
      have kb : k < lb.length := by rw [G1.out]; exact hlt
      obtain ⟨ad0, rfl, q0, q1, q2, q3, _⟩ := (y0.below hb3w).at_ ka
      obtain ⟨ad1, rfl, q4, q5, q6, q7, _⟩ := (y1.below hb3w).at_ kb
      have FP := Lib.hid (first_parts hA hB o0 o1 ka kb htk)
      have SE := Lib.hid (same_eqv (right_of hA _ (List.getElem_mem ka)) (right_of hB _ (List.getElem_mem kb)))
      have T0 := Lib.hid (take_val ka)
      have T1 := Lib.hid (take_val kb)
      have HT := Lib.hid htk
      clear htk
      generalize la[k] = a at *
      generalize lb[k] = b at *
      have gs := rsame_any a b
      have gl := rless_any a b
      have i4 : k < l0.length := by omega
      have i5 : k < l1.length := by omega
      have ix0 := idx_val ad0 l0.length c0 k i4
      have ix1 := idx_val ad1 l1.length c1 k i5
      have CC : wr.cell? (ad0.add (k * 4)) = some (.int .u8 a.k) ∧ wr.cell? ⟨(ad0.add (k * 4)).block, (ad0.add (k * 4)).off + 1, none⟩ = some (.int .i64 a.i) ∧ wr.cell? ⟨(ad0.add (k * 4)).block, (ad0.add (k * 4)).off + 2, none⟩ = some (.string a.s) ∧ wr.cell? ⟨(ad0.add (k * 4)).block, (ad0.add (k * 4)).off + 3, none⟩ = some (.bool a.b) ∧ wr.cell? (ad1.add (k * 4)) = some (.int .u8 b.k) ∧ wr.cell? ⟨(ad1.add (k * 4)).block, (ad1.add (k * 4)).off + 1, none⟩ = some (.int .i64 b.i) ∧ wr.cell? ⟨(ad1.add (k * 4)).block, (ad1.add (k * 4)).off + 2, none⟩ = some (.string b.s) ∧ wr.cell? ⟨(ad1.add (k * 4)).block, (ad1.add (k * 4)).off + 3, none⟩ = some (.bool b.b) := ⟨q0, q1, q2, q3, q4, q5, q6, q7⟩
      cases hs : rsame a b with
      | true =>
        rw [hs] at gs
        have GS := Lib.hid gs
        have he := SE.out hs
        have HE := Lib.hid he
        clear gs gl hs FP SE he hB2 hB3 y0 y1
        go_wp2
        go_region_held3 (fun w' => w'.cell? (ad0.add (k * 4)) = some (.int .u8 a.k) ∧ w'.cell? ⟨(ad0.add (k * 4)).block, (ad0.add (k * 4)).off + 1, none⟩ = some (.int .i64 a.i) ∧ w'.cell? ⟨(ad0.add (k * 4)).block, (ad0.add (k * 4)).off + 2, none⟩ = some (.string a.s) ∧ w'.cell? ⟨(ad0.add (k * 4)).block, (ad0.add (k * 4)).off + 3, none⟩ = some (.bool a.b) ∧ w'.cell? (ad1.add (k * 4)) = some (.int .u8 b.k) ∧ w'.cell? ⟨(ad1.add (k * 4)).block, (ad1.add (k * 4)).off + 1, none⟩ = some (.int .i64 b.i) ∧ w'.cell? ⟨(ad1.add (k * 4)).block, (ad1.add (k * 4)).off + 2, none⟩ = some (.string b.s) ∧ w'.cell? ⟨(ad1.add (k * 4)).block, (ad1.add (k * 4)).off + 3, none⟩ = some (.bool b.b)) (first | assumption | simp [*, go_sem]) ((go_at_call 24; (with_reducible refine (GS.out _).mono ?_); rintro e w9 ⟨rfl, hb9⟩; have hS := carry8 (by assumption) hb9))
        go_wp2
        go_roundw
        case rel => exact ⟨k + 1, by omega, by go_num, by rw [T0.out, T1.out, HT.out, HE.out], by repeat (first | exact hbw | refine Below.drew ?_ | refine below_drewN ?_ _ | refine Below.next ?_ (by assumption)), by repeat (first | exact hb3w | refine Below.drew ?_ | refine below_drewN ?_ _ | refine Below.next ?_ (by assumption))⟩
        case measure => simp [intOf]; omega
      | false =>
        rw [hs] at gs
        have GS := Lib.hid gs
        obtain ⟨f1, f2⟩ := FP.out hs
        generalize rless a b = y at *
        have GL := Lib.hid gl
        have k1 := fun (W : World) (h : Below wr.heap.size wr W) => kless_any B2 B3 d2 d3 _ _ W (hB2.below h) (hB3.below h)
        have k2 := fun (W : World) (h : Below wr.heap.size wr W) => kless_any B3 B2 d3 d2 _ _ W (hB3.below h) (hB2.below h)
        rw [f1] at k1
        rw [f2] at k2
        have K1 := Lib.hid k1
        have K2 := Lib.hid k2
        clear gs gl hs FP SE hB2 hB3 y0 y1 k1 k2 f1 f2 HT T0 T1
        go_wp2
        go_region_held3 (fun w' => w'.cell? (ad0.add (k * 4)) = some (.int .u8 a.k) ∧ w'.cell? ⟨(ad0.add (k * 4)).block, (ad0.add (k * 4)).off + 1, none⟩ = some (.int .i64 a.i) ∧ w'.cell? ⟨(ad0.add (k * 4)).block, (ad0.add (k * 4)).off + 2, none⟩ = some (.string a.s) ∧ w'.cell? ⟨(ad0.add (k * 4)).block, (ad0.add (k * 4)).off + 3, none⟩ = some (.bool a.b) ∧ w'.cell? (ad1.add (k * 4)) = some (.int .u8 b.k) ∧ w'.cell? ⟨(ad1.add (k * 4)).block, (ad1.add (k * 4)).off + 1, none⟩ = some (.int .i64 b.i) ∧ w'.cell? ⟨(ad1.add (k * 4)).block, (ad1.add (k * 4)).off + 2, none⟩ = some (.string b.s) ∧ w'.cell? ⟨(ad1.add (k * 4)).block, (ad1.add (k * 4)).off + 3, none⟩ = some (.bool b.b)) (first | assumption | simp [*, go_sem]) ((go_at_call 24; (with_reducible refine (GS.out _).mono ?_); rintro e w9 ⟨rfl, hb9⟩; have hS := carry8 (by assumption) hb9))
        go_wp2
        go_region_held3 (fun w' => w'.cell? (ad0.add (k * 4)) = some (.int .u8 a.k) ∧ w'.cell? ⟨(ad0.add (k * 4)).block, (ad0.add (k * 4)).off + 1, none⟩ = some (.int .i64 a.i) ∧ w'.cell? ⟨(ad0.add (k * 4)).block, (ad0.add (k * 4)).off + 2, none⟩ = some (.string a.s) ∧ w'.cell? ⟨(ad0.add (k * 4)).block, (ad0.add (k * 4)).off + 3, none⟩ = some (.bool a.b) ∧ w'.cell? (ad1.add (k * 4)) = some (.int .u8 b.k) ∧ w'.cell? ⟨(ad1.add (k * 4)).block, (ad1.add (k * 4)).off + 1, none⟩ = some (.int .i64 b.i) ∧ w'.cell? ⟨(ad1.add (k * 4)).block, (ad1.add (k * 4)).off + 2, none⟩ = some (.string b.s) ∧ w'.cell? ⟨(ad1.add (k * 4)).block, (ad1.add (k * 4)).off + 3, none⟩ = some (.bool b.b)) (first | assumption | simp [*, go_sem]) ((go_at_call 25; (with_reducible refine (GL.out _).mono ?_); rintro e w10 ⟨rfl, hb10⟩; have hS := carry8 (by assumption) hb10))
        go_wp2_with (first | (go_at_call 26; (with_reducible refine (K1.out _ (by repeat (first | exact Below.refl _ _ | refine Below.drew ?_ | refine below_drewN ?_ _ | refine Below.next ?_ (by assumption)))).mono ?_); rintro e w11 ⟨rfl, hw11⟩; have hw := hw11.symm; subst hw) | (go_at_call 26; (with_reducible refine (K2.out _ (by repeat (first | exact Below.refl _ _ | refine Below.drew ?_ | refine below_drewN ?_ _ | refine Below.next ?_ (by assumption)))).mono ?_); rintro e w12 ⟨rfl, hw12⟩; have hw := hw12.symm; subst hw))
        go_ret
        exact ⟨by simp, hbw.trans ((show Below wr.heap.size wr _ by repeat (first | exact Below.refl _ _ | refine Below.drew ?_ | refine below_drewN ?_ _ | refine Below.next ?_ (by assumption))).mono hbw.size)⟩
    · obtain rfl : k = n := by omega
      have he : la = lb := by
        have := htk
        rw [List.take_of_length_le (by rw [G0.out]; omega), List.take_of_length_le (by rw [G1.out]; omega)] at this
        exact this
      subst he
      have s1 := fun (W : World) (h : Below wr.heap.size wr W) => same3_any B2 B3 d2 d3 _ _ W (hB2.below h) (hB3.below h)
      have s2 := fun (W : World) (h : Below wr.heap.size wr W) => kless_any B2 B3 d2 d3 _ _ W (hB2.below h) (hB3.below h)
      rw [show leqB (encs la) (encs la) = true by simp [leqB]] at s1
      rw [show lltB (encs la) (encs la) = false from decide_eq_false (lt_irr _)] at s2
      have S1 := Lib.hid s1
      have S2 := Lib.hid s2
      clear s1 s2 hB2 hB3 y0 y1 htk
      go_wp2_with (first | (go_at_call 18; (with_reducible refine (S1.out _ (Below.refl _ _)).mono ?_); rintro e w11 ⟨rfl, hw11⟩; have hw := hw11.symm; subst hw) | (go_at_call 26; (with_reducible refine (S2.out _ (Below.refl _ _)).mono ?_); rintro e w12 ⟨rfl, hw12⟩; have hw := hw12.symm; subst hw))
      go_ret
      exact ⟨rfl, hbw⟩

set_option maxHeartbeats 1000000 in
theorem walk_yn (A0 A1 : Option Addr) (c0 c1 n : Nat) (l0 l1 : List Val) (w : World) (hE : Env w) (hn : n = min (min l0.length l1.length) 8) (r0 : Vrd w A0 (l0.take n)) (r1 : Vrd w A1 (l1.take n))
    (n0 : l0.length ≤ c0) (n1 : l1.length ≤ c1) (m0 : c0 ≤ 9223372036854775807) (m1 : c1 ≤ 9223372036854775807) (o0 : ∀ x ∈ l0.take n, ValOk x) (o1 : ∀ x ∈ l1.take n, ValOk x)
    (hA : (l0.take n).all rightB = true) (hB : (l1.take n).all rightB = false) :
    Calls Tryd.prog 5 #[.slice A0 l0.length c0, .slice A1 l1.length c1] w fun e w' => e = .returned (.bool true) ∧ Below w.heap.size w w' := by
  have e0 : (l0.take n).length = n := by rw [List.length_take]; omega
  have e1 : (l1.take n).length = n := by rw [List.length_take]; omega
  have g0 : n ≤ l0.length := by omega
  have g1 : n ≤ l1.length := by omega
  generalize l0.take n = la at *
  generalize l1.take n = lb at *
  have hm3 : ∀ (ts : Array TypeId) (t : TypeId) (w : World), (Builtin.min_ ts t #[.int .i64 (l0.length : Int), .int .i64 (l1.length : Int), .int .i64 8]).run Tryd.prog w = .ok (.int .i64 (n : Int)) w := fun ts t w => by
    rw [run_min_int3]
    congr 2
    split <;> split at * <;> omega
  have b0 := fun w h1 h2 => kbytes_yes A0 c0 la hA w (by omega) h1 o0 h2
  have b1 := fun w h1 h2 => kbytes_no A1 c1 lb hB w (by omega) h1 o1 h2
  clear hn
  rw [e0] at b0
  rw [e1] at b1
  have B0 := Lib.hid b0
  have B1 := Lib.hid b1
  clear b0 b1 e0 e1
  go_enter Tryd.func5, Tryd.ntmps5
  go_wp2_with fail
  refine (awake3_any _ hE).mono ?_
  rintro e w1 ⟨rfl, hb1⟩
  have y0 := r0.below hb1
  have y1 := r1.below hb1
  go_wp2_with fail
  refine (B0.out _ y0 (hE.next hb1)).mono ?_
  rintro e w2 ⟨v2, rfl, ho2, hb2⟩
  have x2 := hb1.next hb2
  have y1 := y1.below hb2
  clear ho2
  go_wp2_with fail
  refine (B1.out _ y1 (hE.next x2)).mono ?_
  rintro e w3 ⟨v3, rfl, ho3, hb3⟩
  have x3 := x2.next hb3
  clear ho3 B0 B1
  go_wp2
  go_ret
  exact ⟨rfl, x3⟩
set_option maxHeartbeats 1000000 in
theorem walk_ny (A0 A1 : Option Addr) (c0 c1 n : Nat) (l0 l1 : List Val) (w : World) (hE : Env w) (hn : n = min (min l0.length l1.length) 8) (r0 : Vrd w A0 (l0.take n)) (r1 : Vrd w A1 (l1.take n))
    (n0 : l0.length ≤ c0) (n1 : l1.length ≤ c1) (m0 : c0 ≤ 9223372036854775807) (m1 : c1 ≤ 9223372036854775807) (o0 : ∀ x ∈ l0.take n, ValOk x) (o1 : ∀ x ∈ l1.take n, ValOk x)
    (hA : (l0.take n).all rightB = false) (hB : (l1.take n).all rightB = true) :
    Calls Tryd.prog 5 #[.slice A0 l0.length c0, .slice A1 l1.length c1] w fun e w' => e = .returned (.bool true) ∧ Below w.heap.size w w' := by
  have e0 : (l0.take n).length = n := by rw [List.length_take]; omega
  have e1 : (l1.take n).length = n := by rw [List.length_take]; omega
  have g0 : n ≤ l0.length := by omega
  have g1 : n ≤ l1.length := by omega
  generalize l0.take n = la at *
  generalize l1.take n = lb at *
  have hm3 : ∀ (ts : Array TypeId) (t : TypeId) (w : World), (Builtin.min_ ts t #[.int .i64 (l0.length : Int), .int .i64 (l1.length : Int), .int .i64 8]).run Tryd.prog w = .ok (.int .i64 (n : Int)) w := fun ts t w => by
    rw [run_min_int3]
    congr 2
    split <;> split at * <;> omega
  have b0 := fun w h1 h2 => kbytes_no A0 c0 la hA w (by omega) h1 o0 h2
  have b1 := fun w h1 h2 => kbytes_yes A1 c1 lb hB w (by omega) h1 o1 h2
  clear hn
  rw [e0] at b0
  rw [e1] at b1
  have B0 := Lib.hid b0
  have B1 := Lib.hid b1
  clear b0 b1 e0 e1
  go_enter Tryd.func5, Tryd.ntmps5
  go_wp2_with fail
  refine (awake3_any _ hE).mono ?_
  rintro e w1 ⟨rfl, hb1⟩
  have y0 := r0.below hb1
  have y1 := r1.below hb1
  go_wp2_with fail
  refine (B0.out _ y0 (hE.next hb1)).mono ?_
  rintro e w2 ⟨v2, rfl, ho2, hb2⟩
  have x2 := hb1.next hb2
  have y1 := y1.below hb2
  clear ho2
  go_wp2_with fail
  refine (B1.out _ y1 (hE.next x2)).mono ?_
  rintro e w3 ⟨v3, rfl, ho3, hb3⟩
  have x3 := x2.next hb3
  clear ho3 B0 B1
  go_wp2
  go_ret
  exact ⟨rfl, x3⟩
set_option maxHeartbeats 1000000 in
theorem walk_nn (A0 A1 : Option Addr) (c0 c1 n : Nat) (l0 l1 : List Val) (w : World) (hE : Env w) (hn : n = min (min l0.length l1.length) 8) (r0 : Vrd w A0 (l0.take n)) (r1 : Vrd w A1 (l1.take n))
    (n0 : l0.length ≤ c0) (n1 : l1.length ≤ c1) (m0 : c0 ≤ 9223372036854775807) (m1 : c1 ≤ 9223372036854775807) (o0 : ∀ x ∈ l0.take n, ValOk x) (o1 : ∀ x ∈ l1.take n, ValOk x)
    (hA : (l0.take n).all rightB = false) (hB : (l1.take n).all rightB = false) :
    Calls Tryd.prog 5 #[.slice A0 l0.length c0, .slice A1 l1.length c1] w fun e w' => e = .returned (.bool true) ∧ Below w.heap.size w w' := by
  have e0 : (l0.take n).length = n := by rw [List.length_take]; omega
  have e1 : (l1.take n).length = n := by rw [List.length_take]; omega
  have g0 : n ≤ l0.length := by omega
  have g1 : n ≤ l1.length := by omega
  generalize l0.take n = la at *
  generalize l1.take n = lb at *
  have hm3 : ∀ (ts : Array TypeId) (t : TypeId) (w : World), (Builtin.min_ ts t #[.int .i64 (l0.length : Int), .int .i64 (l1.length : Int), .int .i64 8]).run Tryd.prog w = .ok (.int .i64 (n : Int)) w := fun ts t w => by
    rw [run_min_int3]
    congr 2
    split <;> split at * <;> omega
  have b0 := fun w h1 h2 => kbytes_no A0 c0 la hA w (by omega) h1 o0 h2
  have b1 := fun w h1 h2 => kbytes_no A1 c1 lb hB w (by omega) h1 o1 h2
  clear hn
  rw [e0] at b0
  rw [e1] at b1
  have B0 := Lib.hid b0
  have B1 := Lib.hid b1
  clear b0 b1 e0 e1
  go_enter Tryd.func5, Tryd.ntmps5
  go_wp2_with fail
  refine (awake3_any _ hE).mono ?_
  rintro e w1 ⟨rfl, hb1⟩
  have y0 := r0.below hb1
  have y1 := r1.below hb1
  go_wp2_with fail
  refine (B0.out _ y0 (hE.next hb1)).mono ?_
  rintro e w2 ⟨v2, rfl, ho2, hb2⟩
  have x2 := hb1.next hb2
  have y1 := y1.below hb2
  clear ho2
  go_wp2_with fail
  refine (B1.out _ y1 (hE.next x2)).mono ?_
  rintro e w3 ⟨v3, rfl, ho3, hb3⟩
  have x3 := x2.next hb3
  clear ho3 B0 B1
  go_wp2
  go_ret
  exact ⟨rfl, x3⟩
theorem front_n {w : World} {A : Option Addr} {l : List Val} (h : Vrd w A l) {n : Nat} (hn : n ≤ l.length) : Vrd w A (l.take n) := h.front hn
theorem walk (A0 A1 : Option Addr) (c0 c1 : Nat) (l0 l1 : List Val) (w : World) (hE : Env w) (r0 : Vrd w A0 l0) (r1 : Vrd w A1 l1)
    (n0 : l0.length ≤ c0) (n1 : l1.length ≤ c1) (m0 : c0 ≤ 9223372036854775807) (m1 : c1 ≤ 9223372036854775807) (o0 : ∀ x ∈ l0, ValOk x) (o1 : ∀ x ∈ l1, ValOk x) :
    Calls Tryd.prog 5 #[.slice A0 l0.length c0, .slice A1 l1.length c1] w fun e w' => e = .returned (.bool true) ∧ Below w.heap.size w w' := by
  obtain ⟨n, hn⟩ : ∃ n, n = min (min l0.length l1.length) 8 := ⟨_, rfl⟩
  have q0 : Vrd w A0 (l0.take n) := front_n r0 (by omega)
  have q1 : Vrd w A1 (l1.take n) := front_n r1 (by omega)
  have p0 := ok_take o0 n
  have p1 := ok_take o1 n
  cases hA : (l0.take n).all rightB <;> cases hB : (l1.take n).all rightB
  · exact walk_nn A0 A1 c0 c1 n l0 l1 w hE hn q0 q1 n0 n1 m0 m1 p0 p1 hA hB
  · exact walk_ny A0 A1 c0 c1 n l0 l1 w hE hn q0 q1 n0 n1 m0 m1 p0 p1 hA hB
  · exact walk_yn A0 A1 c0 c1 n l0 l1 w hE hn q0 q1 n0 n1 m0 m1 p0 p1 hA hB
  · exact walk_yy A0 A1 c0 c1 n l0 l1 w hE hn q0 q1 n0 n1 m0 m1 p0 p1 hA hB
end Go.Proofs.YtdlgobakoomkpaaDoor.keyOrders
