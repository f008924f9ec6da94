/-
  SnapPlays: the walk: the law answers true; of what was there nothing has turned.
-/
import Derived.Test.YtjkjomooklhdbaaSnapK
import Derived.Test.YtjkjomooklhdbaaSnapF
import Derived.Test.YtjkjomooklhdbaaPlayB
import Derived.Test.YtjkjomooklhdbaaRef10D
import Derived.Test.YtjkjomooklhdbaaOpen10
import Derived.Deep.DeepCutAuto
import Derived.Deep.RegionHeld3
namespace Go.Proofs.Ytjkjomooklhdbaa.snapPlays
open Go.RowKit
set_option linter.unusedVariables false

theorem hor_any (w : World) (g f N b : Nat) (S : List Nat) (F : Nat → Prop) (L : List Sn) (A : Option Addr) (c : Nat) (hl : LG w g f S F) (hN : N = L.length) (ho : w.ownsRow b 76 4 (.slice A N c) L.length (L.flatMap Sn.e)) :
    Calls Try.prog 29 #[.pointer (some ⟨g, 0, none⟩), .slice A N c] w fun e w' => e = .returned (.int .u64 ((hzn (f + S.length) L : Nat) : Int)) ∧ Below w.heap.size w w' := by
  obtain ⟨A', c', hv, hc, hm, hr⟩ := own_form ho
  injection hv with e1 e2 e3
  subst e1 e3 hN
  cases L with
  | nil => exact hor_nil w g f S F A c hl
  | cons s r => exact hor_cons w _ s r A c hr hc (by unfold maxLen at hm; omega)
theorem pr_under : Try.prog.underlying 67 = some (.array (Try.prog.arrayLen 67) (Try.prog.elem 67)) := by kernel_rfl
theorem pr_len : Try.prog.arrayLen 67 = 2 := by kernel_rfl
theorem pr_elem : Try.prog.elem 67 = 22 := by kernel_rfl
theorem elem_at_a (ad : Addr) (W : World) : (Instr.indexAt 67 (.pointer (some ad)) (.int .i64 0)).run Try.prog W = .ok (.pointer (some ad)) W := by
  rw [run_indexAt_array (h := pr_under), if_pos (by rw [pr_len]; omega), pr_elem, show (sizeOf 22).run Try.prog W = .ok 1 W by kernel_rfl]
  simp [Result.andThen, Addr.add]
theorem elem_at_b (b : Nat) (W : World) : (Instr.indexAt 67 (.pointer (some ⟨b, 0, none⟩)) (.int .i64 1)).run Try.prog W = .ok (.pointer (some ⟨b, 1, none⟩)) W := by
  rw [run_indexAt_array (h := pr_under), if_pos (by rw [pr_len]; omega), pr_elem, show (sizeOf 22).run Try.prog W = .ok 1 W by kernel_rfl]
  simp [Result.andThen, Addr.add]
theorem inc_len {n : Nat} : ∀ (l : List Nat) (a : Nat), l.Pairwise (· < ·) → (∀ x ∈ l, a ≤ x ∧ x < n) → l.length ≤ n - a
  | [], a, _, _ => Nat.zero_le _
  | x :: l, a, h, hx => by
    rw [List.pairwise_cons] at h
    have h0 := hx x (List.mem_cons_self ..)
    have := inc_len l (x + 1) h.2 fun y hy => ⟨h.1 y hy, (hx y (List.mem_cons_of_mem _ hy)).2⟩
    rw [List.length_cons]
    omega
set_option maxRecDepth 100000 in
set_option maxHeartbeats 8000000 in
theorem walk (A : Option Addr) (cc : Nat) (l : List Op10) (Ap : Option Addr) (cp : Nat) (lp : List Pr) (w : World) (r0 : Rd w 2 A l.length (l.flatMap Op10.e)) (n0 : l.length ≤ cc) (m0 : cc ≤ 9223372036854775807) (r2 : Rd w 2 Ap lp.length (lp.flatMap Pr.e)) (n2 : lp.length ≤ cp) (m2 : cp ≤ 9223372036854775807) :
    Calls Try.prog 7 #[.slice A l.length cc, .slice Ap lp.length cp] w fun e w' => e = .returned (.bool true) ∧ Below w.heap.size w w' := by
  go_enter Try.func7, Try.ntmps7
  go_wp2_with fail
  refine (awake10_any w).mono ?_
  rintro e w1 ⟨rfl, hb1⟩
  have hp := play_any A cc l 40 w1 (by omega) (r0.below hb1) n0 m0
  rw [show ((40 : Nat) : Int) = 40 from rfl] at hp
  have HP := Lib.hid hp
  have R2 := Lib.hid (r2.below hb1)
  clear hp r0 r2
  go_wp2_with fail
  refine (HP.out).mono ?_
  rintro e w2 ⟨p, g, r, S, H, A1, A2, c1, c2, L, rfl, hPy, hSl, hLl, hown⟩
  obtain ⟨F, G, hl, hr, hH⟩ := hPy.bo.two
  have hm2 : Below w1.heap.size w1 w2 := hPy.bo.mine.below
  have hb2 : Below w.heap.size w w2 := hb1.trans (hm2.mono hb1.size)
  have hLN : ∃ N, N = L.length := ⟨_, rfl⟩
  obtain ⟨N, hN⟩ := hLN
  have hbox := hPy.box
  have hrs := hPy.rs
  have hrt := hPy.rt
  have hrows := hPy.rows
  have hinv := hPy.inv
  rw [← hN] at hbox
  have hN40 : N ≤ 40 := by omega
  have hrl : ∀ q ∈ L, q.R.length ≤ 1000 := fun q hq => by
    have h1 := hinv q hq
    have := inc_len q.R 0 h1.sorted fun x hx => ⟨Nat.zero_le _, h1.lt x hx⟩
    have := h1.le
    omega
  have HLG := Lib.hid hl
  have HRG := Lib.hid hr
  have HBX := Lib.hid hbox
  have HRS := Lib.hid (show w2.ownsRow w1.heap.size 76 4 (.slice A1 N c1) L.length (L.flatMap Pn.e) by rw [hN]; exact hrs)
  have HRT := Lib.hid (show w2.ownsRow w1.heap.size 80 3 (.slice A2 N c2) L.length (L.flatMap Pn.f) by rw [hN]; exact hrt)
  have HROW := Lib.hid hrows
  have HINV := Lib.hid hinv
  have HRL := Lib.hid hrl
  have HN := Lib.hid hN
  obtain ⟨hz, hhz⟩ : ∃ hz, hz = hzn (1 + S.length) (L.map Pn.s) := ⟨_, rfl⟩
  have HOR : ∀ w', Below w2.heap.size w2 w' → Calls Try.prog 29 #[.pointer (some ⟨g, 0, none⟩), .slice A1 N c1] w' fun e w'' => e = .returned (.int .u64 (hz : Int)) ∧ Below w'.heap.size w' w'' := fun w' hb => by
    have := hor_any w' g 1 N _ S F (L.map Pn.s) A1 c1 (hl.below hb) (by rw [List.length_map]; exact hN) (by rw [List.length_map, List.flatMap_map]; exact own_below HRS.out hb)
    rw [← hhz] at this
    exact this
  have RHO : ∀ w', Below w2.heap.size w2 w' → Calls Try.prog 30 #[.pointer (some ⟨r, 0, none⟩), .slice A2 N c2] w' fun e w'' => e = .returned (.int .u64 (hz : Int)) ∧ Below w'.heap.size w' w'' := fun w' hb => by
    have := rhor_any w' r 1 N _ S G L A2 c2 (hr.below hb) hN (by omega) (own_below HRT.out hb) (fun q hq => own_below (hrows q hq).2.1 hb) (fun q hq => ⟨(hinv q hq).sorted, (hinv q hq).lt, hrl q hq⟩)
    rw [← hhz] at this
    exact this
  have HP4 : ∀ w', Below w2.heap.size w2 w' → w'.cell? ⟨p, 0, none⟩ = some (.pointer (some ⟨g, 0, none⟩)) ∧ w'.cell? ⟨p, 1, none⟩ = some (.pointer (some ⟨r, 0, none⟩)) ∧ w'.cell? ⟨p, 2, none⟩ = some (.slice A1 N c1) ∧ w'.cell? ⟨p, 3, none⟩ = some (.slice A2 N c2) := fun w' hb => ⟨(hbox.below hb).cell 0, (hbox.below hb).cell 1, (hbox.below hb).cell 2, (hbox.below hb).cell 3⟩
  replace HOR := Lib.hid HOR
  replace RHO := Lib.hid RHO
  replace HP4 := Lib.hid HP4
  clear hPy hown hLl hN hbox hrs hrt hrows hinv hrl hl hr hH hhz HP
  have xd : Below w2.heap.size w2 w2.drew := below_n w2 1
  go_upto_region 6 with fail
  go_region_held3 (fun w' => w'.cell? ⟨p, 0, none⟩ = some (.pointer (some ⟨g, 0, none⟩)) ∧ w'.cell? ⟨p, 1, none⟩ = some (.pointer (some ⟨r, 0, none⟩)) ∧ w'.cell? ⟨p, 2, none⟩ = some (.slice A1 N c1) ∧ w'.cell? ⟨p, 3, none⟩ = some (.slice A2 N c2)) (first | (with_reducible assumption) | (with_reducible exact HP4.out _ xd) | (with_reducible exact HP4.out _ x3))
    (first
    | (go_at_call 29; (with_reducible refine (HOR.out _ xd).mono ?_); rintro e w3 ⟨rfl, hb3⟩; have x3 := xd.next hb3))
  have x3d : Below w2.heap.size w2 w3.drew := x3.next (below_n w3 1)
  have hS3 := HP4.out _ x3d
  go_upto_region 7 with fail
  go_region_held3 (fun w' => w'.cell? ⟨p, 0, none⟩ = some (.pointer (some ⟨g, 0, none⟩)) ∧ w'.cell? ⟨p, 1, none⟩ = some (.pointer (some ⟨r, 0, none⟩)) ∧ w'.cell? ⟨p, 2, none⟩ = some (.slice A1 N c1) ∧ w'.cell? ⟨p, 3, none⟩ = some (.slice A2 N c2)) (first | (with_reducible assumption) | (with_reducible exact HP4.out _ x3d) | (with_reducible exact HP4.out _ x4))
    (first
    | (go_at_call 30; (with_reducible refine (RHO.out _ x3d).mono ?_); rintro e w4 ⟨rfl, hb4⟩; have x4 := x3d.next hb4))
  clear hS3
  go_wp2_with fail
  go_loopw [44] (fun iv wr => ∃ (i : Nat), i ≤ lp.length ∧ i ≤ 20 ∧ iv = .int .i64 (i : Int) ∧ Below w2.heap.size w2 wr) (fun iv _ => lp.length - (intOf iv).toNat)
  case atStart => exact ⟨0, Nat.zero_le _, by omega, rfl, x4⟩
  case round =>
    obtain ⟨i, hi, hi20, rfl, x5⟩ := hrel
    have hlp : lp.length ≤ 9223372036854775807 := by omega
    by_cases hend : i < lp.length ∧ i < 20
    · obtain ⟨hlt, h20⟩ := hend
      obtain ⟨ad2, rfl, p0, p1⟩ := pr_at (R2.out.below (hm2.next x5)) hlt
      have ix2 := idx_pr ad2 lp.length cp i hlt
      have hp1 := lp[i].h1
      have hp2 := lp[i].h2
      generalize lp[i].a = ya at *
      generalize lp[i].b = yb at *
      obtain ⟨m4, hm4⟩ : ∃ m4, m4 = i % 4 := ⟨_, rfl⟩
      have e4 : ((i : Int)).tmod 4 = (m4 : Int) := by rw [hm4, Int.tmod_eq_emod_of_nonneg (by omega)]; omega
      have h20' : ¬ (20 : Int) ≤ (i : Int) := by omega
      clear hm4
      have xB : Below wr.heap.size wr (wr.alloc (.cells #[.int .u64 (ya : Int), .int .u64 (yb : Int)] 67)) := (Below.refl _ _).al _
      have bB := Bx.new wr 67 #[.int .u64 (ya : Int), .int .u64 (yb : Int)] [.int .u64 (ya : Int), .int .u64 (yb : Int)] rfl
      go_upto_region 13 with fail
      have xVB : Below w2.heap.size w2 (wr.alloc (.cells #[.int .u64 (ya : Int), .int .u64 (yb : Int)] 67)) := x5.next xB
      have hb9 : w2.heap.size ≤ wr.heap.size := x5.size
      clear p0 p1 xB
      generalize wr.alloc (.cells #[.int .u64 (ya : Int), .int .u64 (yb : Int)] 67) = VB at *
      generalize wr.heap.size = b9 at *
      have ixa := elem_at_a ⟨b9, 0, none⟩
      have ixb := elem_at_b b9
      have j0 : VB.cell? ⟨b9, 0, none⟩ = some (.int .u64 (ya : Int)) := bB.cell 0
      have j1 : VB.cell? ⟨b9, 1, none⟩ = some (.int .u64 (yb : Int)) := bB.cell 1
      have f0 := bB.frozen 0
      have f1 := bB.frozen 1
      go_upto_if 53 with fail
      go_cut [9] (fun s9 wx => s9 = .pointer (some ⟨b9, 0, none⟩) ∧ ∃ ta tb : Nat, ta < 18446744073709551616 ∧ tb < 18446744073709551616 ∧ Bx wx b9 67 [.int .u64 (ta : Int), .int .u64 (tb : Int)] ∧ Below w2.heap.size w2 wx)
      case first =>
        by_cases hm3 : m4 = 3
        · have hmb : ((m4 : Int) != 3) = false := by rw [hm3]; rfl
          clear hm3
          go_wp2_with fail
          go_meet
          exact ⟨rfl, ya, yb, hp1, hp2, bB, xVB⟩
        · have hmb : ((m4 : Int) != 3) = true := by simp; omega
          obtain ⟨ta, ha⟩ : ∃ ta, ta = ya % 40 := ⟨_, rfl⟩
          obtain ⟨tb, hb⟩ : ∃ tb, tb = yb % 40 := ⟨_, rfl⟩
          have ea : ((ya : Int)).tmod 40 = (ta : Int) := by rw [ha, Int.tmod_eq_emod_of_nonneg (by omega)]; omega
          have eb : ((yb : Int)).tmod 40 = (tb : Int) := by rw [hb, Int.tmod_eq_emod_of_nonneg (by omega)]; omega
          have hta : ta < 18446744073709551616 := by omega
          have htb : tb < 18446744073709551616 := by omega
          clear hm3 ha hb
          go_wp2_with fail
          go_meet
          exact ⟨rfl, ta, tb, hta, htb, (bB.set 0 (.int .u64 (ta : Int))).set 1 (.int .u64 (tb : Int)), (xVB.setCell hb9 _).setCell hb9 _⟩
      case rest =>
        obtain ⟨rfl, ta, tb, hta, htb, b9x, x6⟩ := hcut
        clear bB xVB j0 j1 f0 f1 hp1 hp2 x5
        generalize wc = w5 at *
        have j0 : w5.cell? ⟨b9, 0, none⟩ = some (.int .u64 (ta : Int)) := b9x.cell 0
        have j1 : w5.cell? ⟨b9, 1, none⟩ = some (.int .u64 (tb : Int)) := b9x.cell 1
        have hT := tuple_any w5 ta tb
        unfold tpv at hT
        have HT := Lib.hid hT
        clear hT
        go_wp2_with fail
        refine (HT.out).mono ?_
        rintro e w6 ⟨rfl, hb6⟩
        have x7 := (x6.next hb6).al (.cells #[.int .u64 0, .int .u64 (ta : Int), .int .u64 (tb : Int), .int .i64 0, .int .i64 0, .slice none 0 0] 71)
        have b9y := (b9x.below hb6).alloc (.cells #[.int .u64 0, .int .u64 (ta : Int), .int .u64 (tb : Int), .int .i64 0, .int .i64 0, .slice none 0 0] 71)
        have b10x := Bx.new w6 71 #[.int .u64 0, .int .u64 (ta : Int), .int .u64 (tb : Int), .int .i64 0, .int .i64 0, .slice none 0 0] [.int .u64 0, .int .u64 (ta : Int), .int .u64 (tb : Int), .int .i64 0, .int .i64 0, .slice none 0 0] rfl
        clear HT j0 j1 b9x x6 hb6
        go_upto_region 16 with fail
        generalize w6.alloc (.cells #[.int .u64 0, .int .u64 (ta : Int), .int .u64 (tb : Int), .int .i64 0, .int .i64 0, .slice none 0 0] 71) = V at *
        generalize w6.heap.size = b10 at *
        have HDE : ∀ (w' : World) (hh : Nat), Below V.heap.size V w' → Calls Try.prog 32 #[.pointer (some ⟨g, 0, none⟩), .agg #[.int .u64 0, .int .u64 (ta : Int), .int .u64 (tb : Int), .int .i64 0, .int .i64 0, .slice none 0 0], .int .u64 (hh : Int)] w' fun e w'' => e = .returned (.bool (deadB 1 S ta tb hh)) ∧ Below w'.heap.size w' w'' := fun w' hh hb => dead_any w' g 1 ta tb hh S F (HLG.out.below (x7.next hb))
        have RDE : ∀ (w' : World) (hh : Nat), Below V.heap.size V w' → Calls Try.prog 33 #[.pointer (some ⟨r, 0, none⟩), .agg #[.int .u64 0, .int .u64 (ta : Int), .int .u64 (tb : Int), .int .i64 0, .int .i64 0, .slice none 0 0], .int .u64 (hh : Int)] w' fun e w'' => e = .returned (.bool (deadB 1 S ta tb hh)) ∧ Below w'.heap.size w' w'' := fun w' hh hb => rdead_any w' r 1 ta tb hh S G (by omega) (HRG.out.below (x7.next hb)) hta htb
        have HS6 : ∀ w', Below V.heap.size V w' → (w'.cell? ⟨p, 0, none⟩ = some (.pointer (some ⟨g, 0, none⟩)) ∧ w'.cell? ⟨p, 1, none⟩ = some (.pointer (some ⟨r, 0, none⟩)) ∧ w'.cell? ⟨b10, 0, none⟩ = some (.int .u64 0) ∧ w'.cell? ⟨b10, 1, none⟩ = some (.int .u64 (ta : Int)) ∧ w'.cell? ⟨b10, 2, none⟩ = some (.int .u64 (tb : Int)) ∧ w'.cell? ⟨b10, 3, none⟩ = some (.int .i64 0) ∧ w'.cell? ⟨b10, 4, none⟩ = some (.int .i64 0) ∧ w'.cell? ⟨b10, 5, none⟩ = some (.slice none 0 0) ∧ w'.cell? ⟨b9, 1, none⟩ = some (.int .u64 (tb : Int))) := fun w' hb => by
          obtain ⟨h1, h2, h3, h4⟩ := HP4.out _ (x7.next hb)
          exact ⟨h1, h2, (b10x.below hb).cell 0, (b10x.below hb).cell 1, (b10x.below hb).cell 2, (b10x.below hb).cell 3, (b10x.below hb).cell 4, (b10x.below hb).cell 5, (b9y.below hb).cell 1⟩
        replace HDE := Lib.hid HDE
        replace RDE := Lib.hid RDE
        replace HS6 := Lib.hid HS6
        have y0 : Below V.heap.size V V.drew := below_n V 1
        obtain ⟨d1, hd1⟩ : ∃ d1, d1 = deadB 1 S ta tb hz := ⟨_, rfl⟩
        obtain ⟨d2, hd2⟩ : ∃ d2, d2 = deadB 1 S ta tb tb := ⟨_, rfl⟩
        have HDE1 := fun w' hb => HDE.out w' hz hb
        have HDE2 := fun w' hb => HDE.out w' tb hb
        have RDE1 := fun w' hb => RDE.out w' hz hb
        have RDE2 := fun w' hb => RDE.out w' tb hb
        rw [← hd1] at HDE1 RDE1
        rw [← hd2] at HDE2 RDE2
        replace HDE1 := Lib.hid HDE1
        replace HDE2 := Lib.hid HDE2
        replace RDE1 := Lib.hid RDE1
        replace RDE2 := Lib.hid RDE2
        clear hd1 hd2 HDE RDE
        go_region_held3 (fun w' => w'.cell? ⟨p, 0, none⟩ = some (.pointer (some ⟨g, 0, none⟩)) ∧ w'.cell? ⟨p, 1, none⟩ = some (.pointer (some ⟨r, 0, none⟩)) ∧ w'.cell? ⟨b10, 0, none⟩ = some (.int .u64 0) ∧ w'.cell? ⟨b10, 1, none⟩ = some (.int .u64 (ta : Int)) ∧ w'.cell? ⟨b10, 2, none⟩ = some (.int .u64 (tb : Int)) ∧ w'.cell? ⟨b10, 3, none⟩ = some (.int .i64 0) ∧ w'.cell? ⟨b10, 4, none⟩ = some (.int .i64 0) ∧ w'.cell? ⟨b10, 5, none⟩ = some (.slice none 0 0) ∧ w'.cell? ⟨b9, 1, none⟩ = some (.int .u64 (tb : Int))) (first | (with_reducible assumption) | (with_reducible exact HS6.out _ y0) | (with_reducible exact HS6.out _ y1) | (with_reducible exact HS6.out _ y2) | (with_reducible exact HS6.out _ y3) | (with_reducible exact HS6.out _ y4))
          (first
          | (go_at_call 32; (with_reducible refine (HDE1.out _ y0).mono ?_); rintro e v1 ⟨rfl, hv1⟩; have y1 := y0.next hv1)
          | (go_at_call 33; (with_reducible refine (RDE1.out _ y1).mono ?_); rintro e v2 ⟨rfl, hv2⟩; have y2 := y1.next hv2)
          | (go_at_call 32; (with_reducible refine (HDE2.out _ y2).mono ?_); rintro e v3 ⟨rfl, hv3⟩; have y3 := y2.next hv3)
          | (go_at_call 33; (with_reducible refine (RDE2.out _ y3).mono ?_); rintro e v4 ⟨rfl, hv4⟩; have y4 := y3.next hv4))
        have z4 := x7.next y4
        have hP4 := HP4.out _ z4
        have b9v := b9y.below y4
        have b10v := b10x.below y4
        clear HDE1 HDE2 RDE1 RDE2 HS6 b9y b10x x7 y0 y1 y2 y3 y4 hv1 hv2 hv3 hv4
        go_upto_region 18 with fail
        generalize v4 = V4 at *
        go_wp2_with fail
        go_loopw [105] (fun kv wr => ∃ (k : Nat), k ≤ N ∧ kv = .int .i64 (k : Int) ∧ Below V4.heap.size V4 wr) (fun kv _ => N - (intOf kv).toNat)
        case atStart => exact ⟨0, Nat.zero_le _, rfl, Below.refl _ _⟩
        case round =>
          obtain ⟨k, hk, rfl, xw⟩ := hrel
          clear hP4
          by_cases hkN : k < N
          · have hkL : k < L.length := by rw [← HN.out]; exact hkN
            have z5 := z4.next xw
            obtain ⟨A', c', hv, _, _, hrd⟩ := own_form (own_below HRS.out z5)
            injection hv with e1 e2 e3
            subst e1 e3
            obtain ⟨ad, e1, q0, q1, q2, q3⟩ := pn_at hrd hkL
            obtain ⟨A', c', hv, _, _, hrd2⟩ := own_form (own_below HRT.out z5)
            injection hv with e4 e5 e6
            subst e4 e6
            obtain ⟨ad3, e4, t0, t1, t2⟩ := rs_at hrd2 hkL
            subst e1 e4
            have ixs := idx_sn ad N c1 k hkN
            have ixt := idx_rs ad3 N c2 k hkN
            have hqm : L[k] ∈ L := List.getElem_mem hkL
            have hr1 := own_below (HROW.out L[k] hqm).1 z5
            have hr2 := own_below (HROW.out L[k] hqm).2.1 z5
            have hRl := HRL.out L[k] hqm
            generalize L[k] = q at *
            obtain ⟨own, xmin, xmax, R, As, cs, A5, k5, h0, h1, h2, h3, h4, h5, h6, h7⟩ : ∃ own xmin xmax R As cs A5 k5, own = q.own ∧ xmin = least q.R q.xmax ∧ xmax = q.xmax ∧ R = q.R ∧ As = q.A ∧ cs = q.c ∧ A5 = q.A2 ∧ k5 = q.c2 := ⟨_, _, _, _, _, _, _, _, rfl, rfl, rfl, rfl, rfl, rfl, rfl, rfl⟩
            rw [← h0] at q0 t0
            rw [← h1] at q1
            rw [← h2] at q2 t1
            rw [← h3] at q3 t2 hr1 hr2 hRl
            rw [← h4, ← h5] at q3 hr1
            rw [← h6, ← h7] at t2 hr2
            clear hrd hrd2 e2 e5 h0 h1 h2 h3 h4 h5 h6 h7
            have x8 : Below wr.heap.size wr (wr.alloc (.cells #[.int .u64 (own : Int), .int .u64 (xmin : Int), .int .u64 (xmax : Int), .slice As R.length cs] 76)) := (Below.refl _ _).al _
            have b12x := Bx.new wr 76 #[.int .u64 (own : Int), .int .u64 (xmin : Int), .int .u64 (xmax : Int), .slice As R.length cs] [.int .u64 (own : Int), .int .u64 (xmin : Int), .int .u64 (xmax : Int), .slice As R.length cs] rfl
            have hr1' := own_below hr1 x8
            have hr2' := own_below hr2 x8
            have hlt0 := World.block_lt_of_cell? _ _ t0
            have t0' := (x8.cell hlt0).trans t0
            have t1' := (x8.cell (p := ⟨(ad3.add (k * 3)).block, (ad3.add (k * 3)).off + 1, none⟩) hlt0).trans t1
            have t2' := (x8.cell (p := ⟨(ad3.add (k * 3)).block, (ad3.add (k * 3)).off + 2, none⟩) hlt0).trans t2
            have z6 := z5.next x8
            have b9w := (b9v.below xw).below x8
            have b10w := (b10v.below xw).below x8
            have xw8 := xw.next x8
            go_upto_region 21 with fail
            simp only [List.append_eq, List.cons_append, List.nil_append]
            clear q0 q1 q2 q3 t0 t1 t2 hr1 hr2 z5 x8 hlt0 ixs
            generalize wr.alloc (.cells #[.int .u64 (own : Int), .int .u64 (xmin : Int), .int .u64 (xmax : Int), .slice As R.length cs] 76) = W at *
            generalize wr.heap.size = b12 at *
            have hlt0 := World.block_lt_of_cell? _ _ t0'
            have HS7 : ∀ w', Below W.heap.size W w' → (w'.cell? ⟨p, 0, none⟩ = some (.pointer (some ⟨g, 0, none⟩)) ∧ w'.cell? ⟨p, 1, none⟩ = some (.pointer (some ⟨r, 0, none⟩)) ∧ w'.cell? ⟨p, 3, none⟩ = some (.slice (some ad3) N c2) ∧ w'.cell? ⟨b12, 0, none⟩ = some (.int .u64 (own : Int)) ∧ w'.cell? ⟨b12, 1, none⟩ = some (.int .u64 (xmin : Int)) ∧ w'.cell? ⟨b12, 2, none⟩ = some (.int .u64 (xmax : Int)) ∧ w'.cell? ⟨b12, 3, none⟩ = some (.slice As R.length cs) ∧ w'.cell? ⟨b9, 0, none⟩ = some (.int .u64 (ta : Int)) ∧ w'.cell? ⟨b10, 0, none⟩ = some (.int .u64 0) ∧ w'.cell? ⟨b10, 1, none⟩ = some (.int .u64 (ta : Int)) ∧ w'.cell? ⟨b10, 2, none⟩ = some (.int .u64 (tb : Int)) ∧ w'.cell? ⟨b10, 3, none⟩ = some (.int .i64 0) ∧ w'.cell? ⟨b10, 4, none⟩ = some (.int .i64 0) ∧ w'.cell? ⟨b10, 5, none⟩ = some (.slice none 0 0) ∧ w'.cell? (ad3.add (k * 3)) = some (.int .u64 (own : Int)) ∧ w'.cell? ⟨(ad3.add (k * 3)).block, (ad3.add (k * 3)).off + 1, none⟩ = some (.int .u64 (xmax : Int)) ∧ w'.cell? ⟨(ad3.add (k * 3)).block, (ad3.add (k * 3)).off + 2, none⟩ = some (.slice A5 R.length k5)) := fun w' hb => by
              obtain ⟨h1, h2, h3, h4⟩ := HP4.out _ (z6.next hb)
              exact ⟨h1, h2, h4, (b12x.below hb).cell 0, (b12x.below hb).cell 1, (b12x.below hb).cell 2, (b12x.below hb).cell 3, (b9w.below hb).cell 0, (b10w.below hb).cell 0, (b10w.below hb).cell 1, (b10w.below hb).cell 2, (b10w.below hb).cell 3, (b10w.below hb).cell 4, (b10w.below hb).cell 5, (hb.cell hlt0).trans t0', (hb.cell (p := ⟨(ad3.add (k * 3)).block, (ad3.add (k * 3)).off + 1, none⟩) hlt0).trans t1', (hb.cell (p := ⟨(ad3.add (k * 3)).block, (ad3.add (k * 3)).off + 2, none⟩) hlt0).trans t2'⟩
            obtain ⟨s1, hs1⟩ : ∃ s1, s1 = seesB 1 S own xmax R ta := ⟨_, rfl⟩
            obtain ⟨s2, hs2⟩ : ∃ s2, s2 = visB 1 S own xmax R ta tb := ⟨_, rfl⟩
            obtain ⟨s3, hs3⟩ : ∃ s3, s3 = freeV 1 S own xmax R ta tb := ⟨_, rfl⟩
            have C1 : ∀ w', Below W.heap.size W w' → Calls Try.prog 34 #[.pointer (some ⟨g, 0, none⟩), .agg #[.int .u64 (own : Int), .int .u64 (xmin : Int), .int .u64 (xmax : Int), .slice As R.length cs], .int .u64 (ta : Int)] w' fun e w'' => e = .returned (.bool s1) ∧ Below w'.heap.size w' w'' := fun w' hb => by rw [hs1]; exact sees_any w' g 1 own xmin xmax ta _ S R F _ (HLG.out.below (z6.next hb)) (own_below hr1' hb) (by omega)
            have C2 : ∀ w', Below W.heap.size W w' → Calls Try.prog 35 #[.pointer (some ⟨r, 0, none⟩), .agg #[.int .u64 (own : Int), .int .u64 (xmax : Int), .slice A5 R.length k5], .int .u64 (ta : Int)] w' fun e w'' => e = .returned (.bool s1) ∧ Below w'.heap.size w' w'' := fun w' hb => by rw [hs1]; exact rsees_any w' r 1 own xmax ta _ S R G _ (HRG.out.below (z6.next hb)) (own_below hr2' hb) (by omega) hta
            have C3 : ∀ w', Below W.heap.size W w' → Calls Try.prog 36 #[.pointer (some ⟨g, 0, none⟩), .agg #[.int .u64 (own : Int), .int .u64 (xmin : Int), .int .u64 (xmax : Int), .slice As R.length cs], .agg #[.int .u64 0, .int .u64 (ta : Int), .int .u64 (tb : Int), .int .i64 0, .int .i64 0, .slice none 0 0]] w' fun e w'' => e = .returned (.bool s2) ∧ Below w'.heap.size w' w'' := fun w' hb => by rw [hs2]; exact vis_any w' g 1 own xmin xmax ta tb _ S R F _ (HLG.out.below (z6.next hb)) (own_below hr1' hb) (by omega)
            have C4 : ∀ w', Below W.heap.size W w' → Calls Try.prog 37 #[.pointer (some ⟨r, 0, none⟩), .agg #[.int .u64 (own : Int), .int .u64 (xmax : Int), .slice A5 R.length k5], .agg #[.int .u64 0, .int .u64 (ta : Int), .int .u64 (tb : Int), .int .i64 0, .int .i64 0, .slice none 0 0]] w' fun e w'' => e = .returned (.bool s2) ∧ Below w'.heap.size w' w'' := fun w' hb => by rw [hs2]; exact rvis_any w' r 1 own xmax ta tb _ S R G _ (HRG.out.below (z6.next hb)) (own_below hr2' hb) (by omega) hta htb
            have C5 : ∀ w', Below W.heap.size W w' → Calls Try.prog 38 #[.pointer (some ⟨g, 0, none⟩), .agg #[.int .u64 (own : Int), .int .u64 (xmin : Int), .int .u64 (xmax : Int), .slice As R.length cs], .agg #[.int .u64 0, .int .u64 (ta : Int), .int .u64 (tb : Int), .int .i64 0, .int .i64 0, .slice none 0 0]] w' fun e w'' => e = .returned (.int .i64 s3) ∧ Below w'.heap.size w' w'' := fun w' hb => by rw [hs3]; exact free_any w' g 1 own xmin xmax ta tb _ S R F _ (HLG.out.below (z6.next hb)) (own_below hr1' hb) (by omega)
            have C6 : ∀ w', Below W.heap.size W w' → Calls Try.prog 39 #[.pointer (some ⟨r, 0, none⟩), .agg #[.int .u64 (own : Int), .int .u64 (xmax : Int), .slice A5 R.length k5], .agg #[.int .u64 0, .int .u64 (ta : Int), .int .u64 (tb : Int), .int .i64 0, .int .i64 0, .slice none 0 0]] w' fun e w'' => e = .returned (.int .i64 s3) ∧ Below w'.heap.size w' w'' := fun w' hb => by rw [hs3]; exact rfree_any w' r 1 own xmax ta tb _ S R G _ (HRG.out.below (z6.next hb)) (own_below hr2' hb) (by omega) hta htb
            replace HS7 := Lib.hid HS7
            replace C1 := Lib.hid C1
            replace C2 := Lib.hid C2
            replace C3 := Lib.hid C3
            replace C4 := Lib.hid C4
            replace C5 := Lib.hid C5
            replace C6 := Lib.hid C6
            have y0 : Below W.heap.size W W.drew := below_n W 1
            clear hs1 hs2 hs3 b12x b9w b10w t0' t1' t2' hr1' hr2' z6 hlt0
            go_region_held3 (fun w' => w'.cell? ⟨p, 0, none⟩ = some (.pointer (some ⟨g, 0, none⟩)) ∧ w'.cell? ⟨p, 1, none⟩ = some (.pointer (some ⟨r, 0, none⟩)) ∧ w'.cell? ⟨p, 3, none⟩ = some (.slice (some ad3) N c2) ∧ w'.cell? ⟨b12, 0, none⟩ = some (.int .u64 (own : Int)) ∧ w'.cell? ⟨b12, 1, none⟩ = some (.int .u64 (xmin : Int)) ∧ w'.cell? ⟨b12, 2, none⟩ = some (.int .u64 (xmax : Int)) ∧ w'.cell? ⟨b12, 3, none⟩ = some (.slice As R.length cs) ∧ w'.cell? ⟨b9, 0, none⟩ = some (.int .u64 (ta : Int)) ∧ w'.cell? ⟨b10, 0, none⟩ = some (.int .u64 0) ∧ w'.cell? ⟨b10, 1, none⟩ = some (.int .u64 (ta : Int)) ∧ w'.cell? ⟨b10, 2, none⟩ = some (.int .u64 (tb : Int)) ∧ w'.cell? ⟨b10, 3, none⟩ = some (.int .i64 0) ∧ w'.cell? ⟨b10, 4, none⟩ = some (.int .i64 0) ∧ w'.cell? ⟨b10, 5, none⟩ = some (.slice none 0 0) ∧ w'.cell? (ad3.add (k * 3)) = some (.int .u64 (own : Int)) ∧ w'.cell? ⟨(ad3.add (k * 3)).block, (ad3.add (k * 3)).off + 1, none⟩ = some (.int .u64 (xmax : Int)) ∧ w'.cell? ⟨(ad3.add (k * 3)).block, (ad3.add (k * 3)).off + 2, none⟩ = some (.slice A5 R.length k5)) (first | (with_reducible assumption) | (with_reducible exact HS7.out _ y0) | (with_reducible exact HS7.out _ y1) | (with_reducible exact HS7.out _ y2) | (with_reducible exact HS7.out _ y3) | (with_reducible exact HS7.out _ y4) | (with_reducible exact HS7.out _ y5) | (with_reducible exact HS7.out _ y6))
              (first
              | (go_at_call 34; (with_reducible refine (C1.out _ y0).mono ?_); rintro e v1 ⟨rfl, hv1⟩; have y1 := y0.next hv1)
              | (go_at_call 35; (with_reducible refine (C2.out _ y1).mono ?_); rintro e v2 ⟨rfl, hv2⟩; have y2 := y1.next hv2)
              | (go_at_call 36; (with_reducible refine (C3.out _ y2).mono ?_); rintro e v3 ⟨rfl, hv3⟩; have y3 := y2.next hv3)
              | (go_at_call 37; (with_reducible refine (C4.out _ y3).mono ?_); rintro e v4 ⟨rfl, hv4⟩; have y4 := y3.next hv4)
              | (go_at_call 38; (with_reducible refine (C5.out _ y4).mono ?_); rintro e v5 ⟨rfl, hv5⟩; have y5 := y4.next hv5)
              | (go_at_call 39; (with_reducible refine (C6.out _ y5).mono ?_); rintro e v6 ⟨rfl, hv6⟩; have y6 := y5.next hv6))
            have x9 := xw8.next y6
            clear HS7 C1 C2 C3 C4 C5 C6 y0 y1 y2 y3 y4 y5 y6 hv1 hv2 hv3 hv4 hv5 hv6 xw8
            go_wp2_with fail
            go_roundw
            case rel => exact ⟨k + 1, by omega, by go_num, x9⟩
            case measure => simp [intOf]; omega
          · obtain rfl : k = N := by omega
            have z9 := z4.next xw
            go_wp2_with fail
            go_roundw
            case rel => exact ⟨i + 1, by omega, by omega, by go_num, z9⟩
            case measure => simp [intOf]; omega
    · rcases (show i = lp.length ∨ (i < lp.length ∧ i = 20) by omega) with hil | ⟨hlt2, hil⟩
      · subst hil
        have hbel := hb2.trans (x5.mono hb2.size)
        clear x5
        go_wp2_with fail
        go_ret
        exact ⟨rfl, hbel⟩
      · obtain ⟨ad2, rfl, p0, p1⟩ := pr_at (R2.out.below (hm2.next x5)) hlt2
        have ix2 := idx_pr ad2 lp.length cp i hlt2
        generalize lp[i].a = ya at *
        generalize lp[i].b = yb at *
        have h20 : (20 : Int) ≤ (i : Int) := by omega
        have hbel := hb2.trans ((x5.al (.cells #[.int .u64 (ya : Int), .int .u64 (yb : Int)] 67)).mono hb2.size)
        clear x5 hil hi20
        go_wp2_with fail
        go_ret
        exact ⟨rfl, hbel⟩
end Go.Proofs.Ytjkjomooklhdbaa.snapPlays
