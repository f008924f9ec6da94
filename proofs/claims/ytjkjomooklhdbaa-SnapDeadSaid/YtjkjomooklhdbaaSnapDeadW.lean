/-
  SnapDead: the walk: the law answers true; of what was there nothing has turned.
-/
import Derived.Test.YtjkjomooklhdbaaSnapL
import Derived.Test.YtjkjomooklhdbaaSnapF
import Derived.Test.YtjkjomooklhdbaaPlayB
import Derived.Test.YtjkjomooklhdbaaOpen10
import Derived.Deep.DeepCutAuto
import Derived.Deep.RegionHeld3
import Derived.Deep.AppendLies
namespace Go.Proofs.Ytjkjomooklhdbaa.snapDead
open Go.RowKit
set_option linter.unusedVariables false

theorem hor_any (w : World) (g f N b : Nat) (S : List Nat) (F : Nat → Prop) (L : List Sn) (A : Option Addr) (c : Nat) (hl : LG w g f S F) (hN : N = L.length) (ho : w.ownsRow b 76 4 (.slice A N c) L.length (L.flatMap Sn.e)) :
    Calls Try.prog 29 #[.pointer (some ⟨g, 0, none⟩), .slice A N c] w fun e w' => e = .returned (.int .u64 ((hzn (f + S.length) L : Nat) : Int)) ∧ Below w.heap.size w w' := by
  obtain ⟨A', c', hv, hc, hm, hr⟩ := own_form ho
  injection hv with e1 e2 e3
  subst e1 e3 hN
  cases L with
  | nil => exact hor_nil w g f S F A c hl
  | cons s r => exact hor_cons w _ s r A c hr hc (by unfold maxLen at hm; omega)
theorem pr_under : Try.prog.underlying 67 = some (.array (Try.prog.arrayLen 67) (Try.prog.elem 67)) := by kernel_rfl
theorem pr_len : Try.prog.arrayLen 67 = 2 := by kernel_rfl
theorem pr_elem : Try.prog.elem 67 = 22 := by kernel_rfl
theorem elem_at_a (ad : Addr) (W : World) : (Instr.indexAt 67 (.pointer (some ad)) (.int .i64 0)).run Try.prog W = .ok (.pointer (some ad)) W := by
  rw [run_indexAt_array (h := pr_under), if_pos (by rw [pr_len]; omega), pr_elem, show (sizeOf 22).run Try.prog W = .ok 1 W by kernel_rfl]
  simp [Result.andThen, Addr.add]
theorem elem_at_b (b : Nat) (W : World) : (Instr.indexAt 67 (.pointer (some ⟨b, 0, none⟩)) (.int .i64 1)).run Try.prog W = .ok (.pointer (some ⟨b, 1, none⟩)) W := by
  rw [run_indexAt_array (h := pr_under), if_pos (by rw [pr_len]; omega), pr_elem, show (sizeOf 22).run Try.prog W = .ok 1 W by kernel_rfl]
  simp [Result.andThen, Addr.add]
set_option maxRecDepth 100000 in
set_option maxHeartbeats 8000000 in
theorem walk (A : Option Addr) (cc : Nat) (l : List Op10) (Ab : Option Addr) (cb : Nat) (lb : List Op10) (Ap : Option Addr) (cp : Nat) (lp : List Pr) (w : World) (r0 : Rd w 2 A l.length (l.flatMap Op10.e)) (n0 : l.length ≤ cc) (m0 : cc ≤ 9223372036854775807) (r1 : Rd w 2 Ab lb.length (lb.flatMap Op10.e)) (n1 : lb.length ≤ cb) (m1 : cb ≤ 9223372036854775807) (r2 : Rd w 2 Ap lp.length (lp.flatMap Pr.e)) (n2 : lp.length ≤ cp) (m2 : cp ≤ 9223372036854775807) :
    Calls Try.prog 9 #[.slice A l.length cc, .slice Ab lb.length cb, .slice Ap lp.length cp] w fun e w' => e = .returned (.bool true) ∧ Below w.heap.size w w' := by
  obtain ⟨i4, hi4, hz40, hz41, hz42⟩ := info_parts4 info_sn
  obtain ⟨i6, hi6, hz60, hz61, hz62⟩ := info_parts4 info_tp
  have one4s := one4
  go_enter Try.func9, Try.ntmps9
  go_wp2_with fail
  refine (awake10_any w).mono ?_
  rintro e w1 ⟨rfl, hb1⟩
  have hp := play_any A cc l 30 w1 (by omega) (r0.below hb1) n0 m0
  rw [show ((30 : Nat) : Int) = 30 from rfl] at hp
  have HP := Lib.hid hp
  have R1 := Lib.hid (r1.below hb1)
  have R2 := Lib.hid (r2.below hb1)
  clear hp r0 r1 r2
  go_wp2_with fail
  refine (HP.out).mono ?_
  rintro e w2 ⟨p, g, r, S, H, A1, A2, c1, c2, L, rfl, hPy, hSl, hLl, hown⟩
  obtain ⟨F, K0⟩ := hPy.kp
  have hsy0 : ∀ q ∈ L, Sinv S q := hPy.inv
  clear HP hPy hown
  have hp2 : w2.cell? ⟨p, 2, none⟩ = some (.slice A1 L.length c1) := K0.box.cell 2
  have hLN : ∃ N, N = L.length := ⟨_, rfl⟩
  obtain ⟨N, hN⟩ := hLN
  rw [← hN] at hp2 K0
  have HN := Lib.hid hN
  have hN30 : N ≤ 30 := by omega
  clear hN hLl
  have D0 : Dv w1 w2 w2 p g r S F (.slice A1 N c1) (.slice A2 N c2) L (.slice none 0 0) [] (.slice none 0 0) [] := ⟨K0, World.ownsRow_nil _ _ _ _, fun q hq => (by cases hq), fun k hk => (K0.rs.lt k hk).2, K0.mine.size, Nat.le_refl _, World.ownsRow_nil _ _ _ _⟩
  clear K0
  go_wp2
  go_loopw [9, 39] (fun lv iv wr => ∃ (i N9 c9 : Nat) (A9 : Option Addr) (live : List Pn), i ≤ N ∧ N9 = live.length ∧ N9 ≤ i ∧ (∀ q ∈ live, q ∈ L) ∧ iv = .int .i64 (i : Int) ∧ lv = .slice A9 N9 c9 ∧ Dv w1 w2 wr p g r S F (.slice A1 N c1) (.slice A2 N c2) L (.slice A9 N9 c9) live (.slice none 0 0) []) (fun _ iv _ => N - (intOf iv).toNat)
  case atStart => exact ⟨0, 0, 0, none, [], Nat.zero_le _, rfl, Nat.le_refl _, fun q hq => (by cases hq), rfl, rfl, D0⟩
  case round =>
    obtain ⟨i, N9, c9, A9, live, hi, hN9, hNi, hliv, rfl, rfl, D1⟩ := hrel
    clear D0 hp2
    by_cases hlt : i < N
    · have hiL : i < L.length := by rw [← HN.out]; exact hlt
      obtain ⟨A', c', hv, _, _, hr⟩ := own_form D1.kp.rs
      injection hv with e1 e2 e3
      subst e1 e3
      obtain ⟨ad, rfl, q0, q1, q2, q3⟩ := pn_at hr hiL
      have ix := idx_sn ad N c1 i hlt
      have hqm : L[i] ∈ L := List.getElem_mem hiL
      generalize L[i] = q at *
      have hrow := (D1.kp.rows q hqm).1
      have hrF := (D1.kp.rows q hqm).2
      obtain ⟨own, xmin, xmax, R, As, cs, h0, h1, h2, h3, h4, h5⟩ : ∃ own xmin xmax R As cs, own = q.own ∧ xmin = least q.R q.xmax ∧ xmax = q.xmax ∧ R = q.R ∧ As = q.A ∧ cs = q.c := ⟨_, _, _, _, _, _, rfl, rfl, rfl, rfl, rfl, rfl⟩
      have HQE := Lib.hid (show q.e = [.int .u64 (own : Int), .int .u64 (xmin : Int), .int .u64 (xmax : Int), .slice As R.length cs] by rw [h0, h1, h2, h3, h4, h5]; rfl)
      rw [← h0] at q0
      rw [← h1] at q1
      rw [← h2] at q2
      rw [← h3, ← h4, ← h5] at q3
      have HN9 := Lib.hid hN9
      have hliv' : ∀ q' ∈ live ++ [q], q' ∈ L := fun q' hq' => (List.mem_append.1 hq').elim (hliv q') fun h => by rw [List.mem_singleton] at h; rw [h]; exact hqm
      clear hr e2 h0 h1 h2 h3 h4 h5 hN9
      have xV : Below wr.heap.size wr (wr.alloc (.cells #[.int .u64 (own : Int), .int .u64 (xmin : Int), .int .u64 (xmax : Int), .slice As R.length cs] 76)) := (Below.refl _ _).al _
      have DV := D1.below xV
      have bV := Bx.new wr 76 #[.int .u64 (own : Int), .int .u64 (xmin : Int), .int .u64 (xmax : Int), .slice As R.length cs] [.int .u64 (own : Int), .int .u64 (xmin : Int), .int .u64 (xmax : Int), .slice As R.length cs] rfl
      have rV := own_below hrow xV
      clear D1 hrow
      go_upto_region 10 with fail
      generalize wr.alloc (.cells #[.int .u64 (own : Int), .int .u64 (xmin : Int), .int .u64 (xmax : Int), .slice As R.length cs] 76) = V at *
      generalize wr.heap.size = b9 at *
      have HS : ∀ w', Below V.heap.size V w' → w'.cell? ⟨p, 0, none⟩ = some (.pointer (some ⟨g, 0, none⟩)) ∧ w'.cell? ⟨b9, 0, none⟩ = some (.int .u64 (own : Int)) ∧ w'.cell? ⟨b9, 1, none⟩ = some (.int .u64 (xmin : Int)) ∧ w'.cell? ⟨b9, 2, none⟩ = some (.int .u64 (xmax : Int)) ∧ w'.cell? ⟨b9, 3, none⟩ = some (.slice As R.length cs) := fun w' hb => ⟨(DV.kp.box.below hb).cell 0, (bV.below hb).cell 0, (bV.below hb).cell 1, (bV.below hb).cell 2, (bV.below hb).cell 3⟩
      replace HS := Lib.hid HS
      have xd : Below V.heap.size V V.drew := below_n V 1
      have hsa := lg_state V.drew g 1 own S F (DV.kp.log.below xd)
      have HDV := Lib.hid DV
      have HRV := Lib.hid rV
      have HRF := Lib.hid hrF
      clear DV rV hrF bV q0 q1 q2 q3 ix
      obtain ⟨z, hz⟩ : ∃ z, z = stt 1 S own := ⟨_, rfl⟩
      rw [← hz] at hsa
      have HSA := Lib.hid hsa
      clear hz hsa
      go_region_held3 (fun w' => w'.cell? ⟨p, 0, none⟩ = some (.pointer (some ⟨g, 0, none⟩)) ∧ w'.cell? ⟨b9, 0, none⟩ = some (.int .u64 (own : Int)) ∧ w'.cell? ⟨b9, 1, none⟩ = some (.int .u64 (xmin : Int)) ∧ w'.cell? ⟨b9, 2, none⟩ = some (.int .u64 (xmax : Int)) ∧ w'.cell? ⟨b9, 3, none⟩ = some (.slice As R.length cs)) (first | (with_reducible assumption) | (with_reducible exact HS.out _ xd) | (with_reducible exact HS.out _ x5))
        (first
        | (go_at_call 20; (with_reducible refine (HSA.out).mono ?_); rintro e w5 ⟨rfl, n5, rfl⟩; have x5 := below_n V (1 + n5)))
      by_cases hz1 : z = 1
      · subst hz1
        have D5 := HDV.out.below x5
        have r5 := own_below HRV.out x5
        have hS5 := HS.out _ x5
        have xA := (Below.refl (V.drewN (1 + n5)).heap.size (V.drewN (1 + n5))).al (.cells #[.int .u64 (own : Int), .int .u64 (xmin : Int), .int .u64 (xmax : Int), .slice As R.length cs] 76)
        have DA := D5.below xA
        have rA := own_below r5 xA
        have lA := Bx.new (V.drewN (1 + n5)) 76 #[.int .u64 (own : Int), .int .u64 (xmin : Int), .int .u64 (xmax : Int), .slice As R.length cs] [.int .u64 (own : Int), .int .u64 (xmin : Int), .int .u64 (xmax : Int), .slice As R.length cs] rfl
        have oA := DA.row
        rw [← HN9.out] at oA
        have hsz := DA.sz
        clear D5 r5 xA HS x5
        go_wp2_with (at_builtin; refine wpList_append_lies _ rfl (.tmp 51) (.tmp 53) 62 rfl w2.heap.size 76 _ _ 4 48 Try.underlying62 hi4 hz40 hz41 hz42 rfl (by decide) _ _ _ rfl oA _ 1 1 [.int .u64 (own : Int), .int .u64 (xmin : Int), .int .u64 (xmax : Int), .slice As R.length cs] rfl rfl (bx_news lA) (one4s own xmin xmax _ rfl) (by decide) (by simp only [maxLen]; omega) (by omega) hsz _ rfl ?_; intro gg cg w6 o6 hg6 hat6 hlt6; have D6 := DA.more hg6 q (by rw [HQE.out, ← HN9.out]; exact o6) rA HRF.out; clear DA rA lA oA o6 hg6 hat6 hlt6)
        go_roundw
        case rel => exact ⟨i + 1, N9 + 1, cg, some ⟨gg, 0, none⟩, live ++ [q], by omega, by rw [List.length_append, ← HN9.out]; rfl, by omega, hliv', by go_num, rfl, D6⟩
        case measure => simp [intOf]; omega
      · have hzf : ((z : Int) == 1) = false := beq_eq_false_iff_ne.2 (by omega)
        have D5 := HDV.out.below x5
        clear hz1
        go_wp2_with fail
        go_roundw
        case rel => exact ⟨i + 1, N9, c9, A9, live, by omega, HN9.out, by omega, hliv, by go_num, rfl, D5⟩
        case measure => simp [intOf]; omega
    · obtain rfl : i = N := by omega
      have HH := Lib.hid (hor_any wr g 1 N9 _ S F (live.map Pn.s) A9 c9 D1.kp.log (by rw [List.length_map]; exact hN9) (by rw [List.length_map, List.flatMap_map]; exact D1.row))
      have hgd : ∀ q ∈ live, Good S (hzn (1 + S.length) (live.map Pn.s)) q := fun q hq => good_old hq (hsy0 q (hliv q hq))
      have k0 := D1.kp.box.cell 0
      obtain ⟨hz, hhz⟩ : ∃ hz, hz = hzn (1 + S.length) (live.map Pn.s) := ⟨_, rfl⟩
      rw [← hhz] at HH hgd
      have HGD := Lib.hid hgd
      have HN9 := Lib.hid hN9
      have k0 : wr.cell? ⟨p, 0, none⟩ = some (.pointer (some ⟨g, 0, none⟩)) := k0
      clear hhz hgd hN9 hsy0
      go_wp2_with fail
      refine (HH.out).mono ?_
      rintro e w3 ⟨rfl, hb3⟩
      have D3 := D1.below hb3
      clear D1 hb3 k0 HH
      go_wp2
      go_loopw [13, 64] (fun dv iv wr => ∃ (k N13 c13 : Nat) (A13 : Option Addr) (D : List (Nat × Nat)), k ≤ lp.length ∧ N13 = D.length ∧ N13 ≤ k ∧ N13 ≤ 20 ∧ (∀ t ∈ D, deadB 1 S t.1 t.2 hz = true) ∧ iv = .int .i64 (k : Int) ∧ dv = .slice A13 N13 c13 ∧ Dv w1 w2 wr p g r S F (.slice A1 i c1) (.slice A2 i c2) L (.slice A9 N9 c9) live (.slice A13 N13 c13) D) (fun _ iv _ => lp.length - (intOf iv).toNat)
      case atStart => exact ⟨0, 0, 0, none, [], Nat.zero_le _, rfl, Nat.le_refl _, by omega, fun t ht => (by cases ht), rfl, rfl, D3⟩
      case round =>
        obtain ⟨k, N13, c13, A13, D, hk, hN13, hNk, hN20, hdd, rfl, rfl, D4⟩ := hrel
        have HDD := Lib.hid hdd
        have HN13 := Lib.hid hN13
        clear D3 hdd hN13
        by_cases hlt : k < lp.length
        · obtain ⟨ad2, rfl, p0, p1⟩ := pr_at (R2.out.below (D4.kp.mine.below.mono (Nat.le_refl _))) hlt
          have ix2 := idx_pr ad2 lp.length cp k hlt
          have hp1 := lp[k].h1
          have hp2 := lp[k].h2
          generalize lp[k].a = ya at *
          generalize lp[k].b = yb at *
          obtain ⟨ta, ha⟩ : ∃ ta, ta = ya % 40 := ⟨_, rfl⟩
          obtain ⟨tb, hb⟩ : ∃ tb, tb = yb % 40 := ⟨_, rfl⟩
          have ea : ((ya : Int)).tmod 40 = (ta : Int) := by rw [ha, Int.tmod_eq_emod_of_nonneg (by omega)]; omega
          have eb : ((yb : Int)).tmod 40 = (tb : Int) := by rw [hb, Int.tmod_eq_emod_of_nonneg (by omega)]; omega
          have hlp : lp.length ≤ 9223372036854775807 := by omega
          clear ha hb
          have xB : Below wr.heap.size wr (wr.alloc (.cells #[.int .u64 (ya : Int), .int .u64 (yb : Int)] 67)) := (Below.refl _ _).al _
          have DB := D4.below xB
          have bB := Bx.new wr 67 #[.int .u64 (ya : Int), .int .u64 (yb : Int)] [.int .u64 (ya : Int), .int .u64 (yb : Int)] rfl
          have j0 : (wr.alloc (.cells #[.int .u64 (ya : Int), .int .u64 (yb : Int)] 67)).cell? ⟨wr.heap.size, 0, none⟩ = some (.int .u64 (ya : Int)) := bB.cell 0
          have j1 : (wr.alloc (.cells #[.int .u64 (ya : Int), .int .u64 (yb : Int)] 67)).cell? ⟨wr.heap.size, 1, none⟩ = some (.int .u64 (yb : Int)) := bB.cell 1
          clear D4
          go_upto_region 18 with fail
          generalize wr.alloc (.cells #[.int .u64 (ya : Int), .int .u64 (yb : Int)] 67) = VB at *
          generalize wr.heap.size = b15 at *
          have ixa := elem_at_a ⟨b15, 0, none⟩
          have ixb := elem_at_b b15
          have hT := tuple_any VB ta tb
          unfold tpv at hT
          have HT := Lib.hid hT
          clear hT p0 p1 ix2 bB
          go_wp2_with fail
          refine (HT.out).mono ?_
          rintro e w4 ⟨rfl, hb4⟩
          have x6 : Below w4.heap.size w4 (w4.alloc (.cells #[.int .u64 0, .int .u64 (ta : Int), .int .u64 (tb : Int), .int .i64 0, .int .i64 0, .slice none 0 0] 71)) := (Below.refl _ _).al _
          have D6 := (DB.below hb4).below x6
          have b6 := Bx.new w4 71 #[.int .u64 0, .int .u64 (ta : Int), .int .u64 (tb : Int), .int .i64 0, .int .i64 0, .slice none 0 0] [.int .u64 0, .int .u64 (ta : Int), .int .u64 (tb : Int), .int .i64 0, .int .i64 0, .slice none 0 0] rfl
          clear DB hb4 HT j0 j1 ixa ixb xB
          go_upto_region 19 with fail
          generalize w4.alloc (.cells #[.int .u64 0, .int .u64 (ta : Int), .int .u64 (tb : Int), .int .i64 0, .int .i64 0, .slice none 0 0] 71) = W at *
          generalize w4.heap.size = b7 at *
          have xd : Below W.heap.size W W.drew := below_n W 1
          have HS : ∀ w', Below W.heap.size W w' → w'.cell? ⟨p, 0, none⟩ = some (.pointer (some ⟨g, 0, none⟩)) ∧ w'.cell? ⟨b7, 0, none⟩ = some (.int .u64 0) ∧ w'.cell? ⟨b7, 1, none⟩ = some (.int .u64 (ta : Int)) ∧ w'.cell? ⟨b7, 2, none⟩ = some (.int .u64 (tb : Int)) ∧ w'.cell? ⟨b7, 3, none⟩ = some (.int .i64 0) ∧ w'.cell? ⟨b7, 4, none⟩ = some (.int .i64 0) ∧ w'.cell? ⟨b7, 5, none⟩ = some (.slice none 0 0) := fun w' hb => ⟨(D6.kp.box.below hb).cell 0, (b6.below hb).cell 0, (b6.below hb).cell 1, (b6.below hb).cell 2, (b6.below hb).cell 3, (b6.below hb).cell 4, (b6.below hb).cell 5⟩
          replace HS := Lib.hid HS
          have hS0 := HS.out _ xd
          by_cases hk20 : k < 20
          · have hkb : decide ((k : Int) < 20) = true := decide_eq_true (by omega)
            have hkb2 : (k : Int) < 20 := by omega
            have hda := dead_any W.drew g 1 ta tb hz S F (D6.kp.log.below xd)
            have HD6 := Lib.hid D6
            obtain ⟨dd, hdd⟩ : ∃ dd, dd = deadB 1 S ta tb hz := ⟨_, rfl⟩
            rw [← hdd] at hda
            have HDA := Lib.hid hda
            have HDD2 := Lib.hid hdd
            clear hda hdd D6 b6
            go_region_held3 (fun w' => w'.cell? ⟨p, 0, none⟩ = some (.pointer (some ⟨g, 0, none⟩)) ∧ w'.cell? ⟨b7, 0, none⟩ = some (.int .u64 0) ∧ w'.cell? ⟨b7, 1, none⟩ = some (.int .u64 (ta : Int)) ∧ w'.cell? ⟨b7, 2, none⟩ = some (.int .u64 (tb : Int)) ∧ w'.cell? ⟨b7, 3, none⟩ = some (.int .i64 0) ∧ w'.cell? ⟨b7, 4, none⟩ = some (.int .i64 0) ∧ w'.cell? ⟨b7, 5, none⟩ = some (.slice none 0 0)) (first | (with_reducible assumption) | (with_reducible exact HS.out _ xd) | (with_reducible exact HS.out _ x7))
              (first
              | (go_at_call 32; (with_reducible refine (HDA.out).mono ?_); rintro e w7 ⟨rfl, hb7⟩; have x7 := xd.next hb7))
            have D7 := HD6.out.below x7
            have hS7 := HS.out _ x7
            cases dd with
            | false =>
              go_wp2_with fail
              go_roundw
              case rel => exact ⟨k + 1, N13, c13, A13, D, by omega, HN13.out, by omega, hN20, HDD.out, by go_num, rfl, D7⟩
              case measure => simp [intOf]; omega
            | true =>
              have hdd' : ∀ t ∈ D ++ [(ta, tb)], deadB 1 S t.1 t.2 hz = true := fun t ht => (List.mem_append.1 ht).elim (HDD.out t) fun h => by rw [List.mem_singleton] at h; subst h; exact HDD2.out.symm
              have xA := (Below.refl w7.heap.size w7).al (.cells #[.int .u64 0, .int .u64 (ta : Int), .int .u64 (tb : Int), .int .i64 0, .int .i64 0, .slice none 0 0] 71)
              have DA := D7.below xA
              have lA := Bx.new w7 71 #[.int .u64 0, .int .u64 (ta : Int), .int .u64 (tb : Int), .int .i64 0, .int .i64 0, .slice none 0 0] [.int .u64 0, .int .u64 (ta : Int), .int .u64 (tb : Int), .int .i64 0, .int .i64 0, .slice none 0 0] rfl
              have oA := DA.dead
              rw [← HN13.out] at oA
              have hsA := DA.kp.mine.size
              clear D7 xA HS x7 hS0
              go_wp2_with (at_builtin; refine wpList_append_lies _ rfl (.tmp 87) (.tmp 89) 91 rfl w1.heap.size 71 _ _ 6 64 Try.underlying91 hi6 hz60 hz61 hz62 rfl (by decide) _ _ _ rfl oA _ 1 1 (tpc (ta, tb)) rfl rfl (bx_news lA) (tp_one (ta, tb)) (by decide) (by simp only [maxLen]; omega) (by omega) hsA _ rfl ?_; intro gg cg w8 o8 hg8 hat8 hlt8; have D8 := DA.die hg8 (ta, tb) (by rw [← HN13.out]; exact o8); clear DA lA oA o8 hg8 hat8 hlt8)
              go_roundw
              case rel => exact ⟨k + 1, N13 + 1, cg, some ⟨gg, 0, none⟩, D ++ [(ta, tb)], by omega, by rw [List.length_append, ← HN13.out]; rfl, by omega, by omega, hdd', by go_num, rfl, D8⟩
              case measure => simp [intOf]; omega
          · have hkb : decide ((k : Int) < 20) = false := decide_eq_false (by omega)
            have hkb2 : ¬ (k : Int) < 20 := by omega
            have D7 := D6.below xd
            clear D6 b6
            refine wp_region_held_drew (S := (fun w' => w'.cell? ⟨p, 0, none⟩ = some (.pointer (some ⟨g, 0, none⟩)) ∧ w'.cell? ⟨b7, 0, none⟩ = some (.int .u64 0) ∧ w'.cell? ⟨b7, 1, none⟩ = some (.int .u64 (ta : Int)) ∧ w'.cell? ⟨b7, 2, none⟩ = some (.int .u64 (tb : Int)) ∧ w'.cell? ⟨b7, 3, none⟩ = some (.int .i64 0) ∧ w'.cell? ⟨b7, 4, none⟩ = some (.int .i64 0) ∧ w'.cell? ⟨b7, 5, none⟩ = some (.slice none 0 0))) (by kernel_rfl) ?_ (fun hHeld => ?_)
            · first | assumption
            refine wpAnyH_take (i := 0) (oi := { dst := some 76, op := Go.Op.move (Go.Operand.tmp 14), type := 3, pos := "law.go:165", after := #[], guard := none }) (v := ?v1) rfl (by kernel_rfl) (by kernel_rfl) (by kernel_rfl) (fun _ _ _ h => h) (Or.inl ⟨by rfl, ?hy1⟩) (by assumption) ?rest1
            case hy1 => (intro w' hSw; (try dsimp only at hSw); go_simp <;> with_reducible rfl)
            (try simp only [Act.put, List.setIfInBounds_toArray, List.set_cons_zero, List.set_cons_succ])
            refine wpAnyH_take (i := 1) (oi := { dst := some 77, op := Go.Op.binOp Go.BinOp.lss 3 (Go.Operand.tmp 76) (Go.Operand.const (Go.Value.int Go.IntKind.i64 20)) 3, type := 4, pos := "law.go:165", after := #[{ on := 0, ground := Go.Ground.data }], guard := none }) (v := ?v2) rfl (by kernel_rfl) (by kernel_rfl) (by kernel_rfl) (fun _ _ _ h => h) (Or.inl ⟨by rfl, ?hy2⟩) (by assumption) ?rest2
            case hy2 => (intro w' hSw; (try dsimp only at hSw); go_simp <;> with_reducible rfl)
            (try simp only [Act.put, List.setIfInBounds_toArray, List.set_cons_zero, List.set_cons_succ])
            refine wpAnyH_take (i := 2) (oi := { dst := some 78, op := Go.Op.move (Go.Operand.tmp 77), type := 4, pos := "law.go:165", after := #[{ on := 1, ground := Go.Ground.data }], guard := none }) (v := ?v3) rfl (by kernel_rfl) (by kernel_rfl) (by kernel_rfl) (fun _ _ _ h => h) (Or.inl ⟨by rfl, ?hy3⟩) (by assumption) ?rest3
            case hy3 => (intro w' hSw; (try dsimp only at hSw); go_simp <;> with_reducible rfl)
            (try simp only [Act.put, List.setIfInBounds_toArray, List.set_cons_zero, List.set_cons_succ])
            refine wpAnyH_take (i := 3) (oi := { dst := some 79, op := Go.Op.move (Go.Operand.tmp 7), type := 58, pos := "law.go:165", after := #[{ on := 2, ground := Go.Ground.guard }], guard := some (2, true) }) (v := undef) rfl (by kernel_rfl) (by kernel_rfl) (by kernel_rfl) (fun _ _ _ h => h) (Or.inr ⟨by rfl, rfl⟩) (by assumption) ?_
            (try simp only [Act.put, List.setIfInBounds_toArray, List.set_cons_zero, List.set_cons_succ])
            refine wpAnyH_take (i := 4) (oi := { dst := some 80, op := Go.Op.nilCheck (Go.Operand.tmp 79), type := 0, pos := "law.go:165", after := #[{ on := 3, ground := Go.Ground.data }, { on := 2, ground := Go.Ground.guard }], guard := some (2, true) }) (v := undef) rfl (by kernel_rfl) (by kernel_rfl) (by kernel_rfl) (fun _ _ _ h => h) (Or.inr ⟨by rfl, rfl⟩) (by assumption) ?_
            (try simp only [Act.put, List.setIfInBounds_toArray, List.set_cons_zero, List.set_cons_succ])
            refine wpAnyH_take (i := 5) (oi := { dst := some 81, op := Go.Op.fieldAddr 65 (Go.Operand.tmp 80) 0, type := 0, pos := "law.go:165", after := #[{ on := 4, ground := Go.Ground.data }, { on := 2, ground := Go.Ground.guard }], guard := some (2, true) }) (v := undef) rfl (by kernel_rfl) (by kernel_rfl) (by kernel_rfl) (fun _ _ _ h => h) (Or.inr ⟨by rfl, rfl⟩) (by assumption) ?_
            (try simp only [Act.put, List.setIfInBounds_toArray, List.set_cons_zero, List.set_cons_succ])
            refine wpAnyH_take (i := 6) (oi := { dst := some 82, op := Go.Op.load 25 (Go.Operand.tmp 81), type := 25, pos := "law.go:165", after := #[{ on := 5, ground := Go.Ground.data }, { on := 2, ground := Go.Ground.guard }], guard := some (2, true) }) (v := undef) rfl (by kernel_rfl) (by kernel_rfl) (by kernel_rfl) (fun _ _ _ h => h) (Or.inr ⟨by rfl, rfl⟩) (by assumption) ?_
            (try simp only [Act.put, List.setIfInBounds_toArray, List.set_cons_zero, List.set_cons_succ])
            refine wpAnyH_take (i := 7) (oi := { dst := some 83, op := Go.Op.load 71 (Go.Operand.tmp 16), type := 71, pos := "law.go:165", after := #[{ on := 2, ground := Go.Ground.guard }], guard := some (2, true) }) (v := undef) rfl (by kernel_rfl) (by kernel_rfl) (by kernel_rfl) (fun _ _ _ h => h) (Or.inr ⟨by rfl, rfl⟩) (by assumption) ?_
            (try simp only [Act.put, List.setIfInBounds_toArray, List.set_cons_zero, List.set_cons_succ])
            refine wpAnyH_take (i := 8) (oi := { dst := some 84, op := Go.Op.move (Go.Operand.tmp 12), type := 22, pos := "law.go:165", after := #[{ on := 2, ground := Go.Ground.guard }], guard := some (2, true) }) (v := undef) rfl (by kernel_rfl) (by kernel_rfl) (by kernel_rfl) (fun _ _ _ h => h) (Or.inr ⟨by rfl, rfl⟩) (by assumption) ?_
            (try simp only [Act.put, List.setIfInBounds_toArray, List.set_cons_zero, List.set_cons_succ])
            refine wpAnyH_take (i := 9) (oi := { dst := some 85, op := Go.Op.call { callee := Go.Callee.value (Go.Operand.func 32), args := #[Go.Operand.tmp 82, Go.Operand.tmp 83, Go.Operand.tmp 84], argTypes := #[25, 71, 22] }, type := 4, pos := "law.go:165", after := #[{ on := 6, ground := Go.Ground.data }, { on := 7, ground := Go.Ground.data }, { on := 8, ground := Go.Ground.data }, { on := 2, ground := Go.Ground.chain }, { on := 2, ground := Go.Ground.guard }], guard := some (2, true) }) (v := undef) rfl (by kernel_rfl) (by kernel_rfl) (by kernel_rfl) (fun _ _ _ h => h) (Or.inr ⟨by rfl, rfl⟩) (by assumption) ?_
            (try simp only [Act.put, List.setIfInBounds_toArray, List.set_cons_zero, List.set_cons_succ])
            refine wpAnyH_take (i := 10) (oi := { dst := some 86, op := Go.Op.pick (Go.Operand.tmp 78) (Go.Operand.tmp 85) (Go.Operand.const (Go.Value.bool false)), type := 4, pos := "law.go:165", after := #[{ on := 2, ground := Go.Ground.data }, { on := 9, ground := Go.Ground.data }], guard := none }) (v := ?v4) rfl (by kernel_rfl) (by kernel_rfl) (by kernel_rfl) (fun _ _ _ h => h) (Or.inl ⟨by rfl, ?hy4⟩) (by assumption) ?rest4
            case hy4 => (intro w' hSw; (try dsimp only at hSw); go_simp <;> with_reducible rfl)
            (try simp only [Act.put, List.setIfInBounds_toArray, List.set_cons_zero, List.set_cons_succ])
            refine wpAnyH_done (by kernel_rfl) ?_ _
            go_wp2_with fail
            go_roundw
            case rel => exact ⟨k + 1, N13, c13, A13, D, by omega, HN13.out, by omega, hN20, HDD.out, by go_num, rfl, D7⟩
            case measure => simp [intOf]; omega
        · obtain rfl : k = lp.length := by omega
          go_wp2
          have hN9b : N9 ≤ 30 := by omega
          go_loopw [9, 94] (fun lv jv wr => ∃ (j N9 c9 : Nat) (A9 : Option Addr) (T : List Nat) (F' : Nat → Prop) (live : List Pn), j ≤ lb.length ∧ j ≤ 30 ∧ T.length ≤ 30 + j ∧ N9 = live.length ∧ N9 ≤ 30 + j ∧ jv = .int .i64 (j : Int) ∧ lv = .slice A9 N9 c9 ∧ Kept S T ∧ (∀ q ∈ live, Good S hz q) ∧ Dv w1 w2 wr p g r T F' (.slice A1 i c1) (.slice A2 i c2) L (.slice A9 N9 c9) live (.slice A13 N13 c13) D) (fun _ jv _ => lb.length - (intOf jv).toNat)
          case atStart => exact ⟨0, N9, c9, A9, S, F, live, Nat.zero_le _, by omega, by omega, HN9.out, by omega, rfl, rfl, kept_refl S, HGD.out, D4⟩
          case round =>
            clear D4 HN9 HGD hN9b hNi hliv
            obtain ⟨j, N9, c9, A9, T, F', live, hj, hj30, hTl, hN9, hN9b, rfl, rfl, hkept, hgood, D5⟩ := hrel
            have HKT := Lib.hid hkept
            have HGD := Lib.hid hgood
            have HN9 := Lib.hid hN9
            clear hkept hgood hN9
            by_cases hend : j < lb.length ∧ j < 30
            · obtain ⟨hlt, h30⟩ := hend
              obtain ⟨ad, rfl, q0, q1⟩ := op10_at (R1.out.below (D5.kp.mine.below.mono (Nat.le_refl _))) hlt
              have ix := idx_op10 ad lb.length cb j hlt
              have ho2 := lb[j].h2
              generalize lb[j] = o at *
              obtain ⟨d, hd⟩ : ∃ d, d = o.do_ % 4 := ⟨_, rfl⟩
              obtain ⟨x, hx⟩ : ∃ x, x = o.xid % 60 := ⟨_, rfl⟩
              have ed : ((o.do_ : Int)).tmod 4 = (d : Int) := by rw [hd, Int.tmod_eq_emod_of_nonneg (by omega)]; omega
              have ex : ((o.xid : Int)).tmod 60 = (x : Int) := by rw [hx, Int.tmod_eq_emod_of_nonneg (by omega)]; omega
              have hx6 : x < 60 := by omega
              have hd4 : d < 4 := by omega
              clear hd hx
              have xV : Below wr.heap.size wr (wr.alloc (.cells #[.int .u8 (o.do_ : Int), .int .u64 (o.xid : Int)] 89)) := (Below.refl _ _).al _
              have DV := D5.below xV
              have bV := Bx.new wr 89 #[.int .u8 (o.do_ : Int), .int .u64 (o.xid : Int)] [.int .u8 (o.do_ : Int), .int .u64 (o.xid : Int)] rfl
              have c0 := bV.cell 0
              have k0 := DV.kp.box.cell 0
              clear D5
              go_upto_region 28 with fail
              generalize wr.alloc (.cells #[.int .u8 (o.do_ : Int), .int .u64 (o.xid : Int)] 89) = V at *
              generalize wr.heap.size = b9 at *
              by_cases hd0 : d = 0
              · subst hd0
                have hB := lg_begin _ g 1 T F' DV.kp.log
                have hbl : begL 1 T = T ++ [1] := by unfold begL; rw [if_pos (by omega)]
                obtain ⟨y1, hy1⟩ : ∃ y1, y1 = 1 + T.length := ⟨_, rfl⟩
                have hbr : begR 1 T = .tuple #[.int .u64 (y1 : Int), .int .i64 0] := by unfold begR; rw [if_pos (by omega), ← hy1]
                rw [hbl, hbr] at hB
                have HC := Lib.hid hB
                have HY1 := Lib.hid hy1
                have hTl' : (T ++ [1]).length ≤ 30 + (j + 1) := by simp; omega
                clear hB hbl hbr hy1
                go_wp2_with fail
                refine (HC.out).mono ?_
                rintro e w3 ⟨rfl, F3, h3, g3⟩
                have D6 := DV.step h3 g3
                have k6 : w3.cell? ⟨p, 0, none⟩ = some (.pointer (some ⟨g, 0, none⟩)) := D6.kp.box.cell 0
                have hT := take_any w3 g 1 y1 _ _ h3
                unfold snv at hT
                have HT := Lib.hid hT
                obtain ⟨xm, hxm⟩ : ∃ xm, xm = least (others (runs 1 (T ++ [1])) y1) (1 + (T ++ [1]).length) := ⟨_, rfl⟩
                obtain ⟨nx, hnx⟩ : ∃ nx, nx = 1 + (T ++ [1]).length := ⟨_, rfl⟩
                obtain ⟨Q, hQ⟩ : ∃ Q, Q = others (runs 1 (T ++ [1])) y1 := ⟨_, rfl⟩
                rw [← hxm] at HT
                rw [← hnx, ← hQ] at HT
                rw [← hnx, ← hQ] at hxm
                have HXM := Lib.hid hxm
                have HNX := Lib.hid hnx
                have HQ := Lib.hid hQ
                clear hT c0 k0 q0 q1 HC hxm hnx hQ DV g3
                go_wp2_with fail
                refine (HT.out).mono ?_
                rintro e w4 ⟨v4, rfl, o4, b4⟩
                obtain ⟨A4, k4, hv4, _, _, _⟩ := own_form o4
                subst hv4
                have D7 := D6.below b4
                have xA := (Below.refl w4.heap.size w4).al (.cells #[.int .u64 (y1 : Int), .int .u64 (xm : Int), .int .u64 (nx : Int), .slice A4 Q.length k4] 76)
                have DA := D7.below xA
                have lA := Bx.new w4 76 #[.int .u64 (y1 : Int), .int .u64 (xm : Int), .int .u64 (nx : Int), .slice A4 Q.length k4] [.int .u64 (y1 : Int), .int .u64 (xm : Int), .int .u64 (nx : Int), .slice A4 Q.length k4] rfl
                have o4A := own_below o4 xA
                have oA := DA.row
                rw [← HN9.out] at oA
                have hsz := DA.sz
                have hnF : ∀ k, (Value.slice A4 Q.length k4).ownBlock = some k → ¬ F3 k := fun k hk hh => by
                  have h1 := (o4.lt k hk).1
                  have h2 := D6.kp.log.lt hh
                  omega
                have o4B := own_le o4A (Nat.le_trans D6.kp.mine.size (Nat.le_refl _))
                have HGN := Lib.hid (show Good S hz ⟨y1, nx, Q, A4, k4, none, 0⟩ by rw [HQ.out, HNX.out, HY1.out]; exact good_new HKT.out A4 none k4 0)
                have HQE := Lib.hid (show (⟨y1, nx, Q, A4, k4, none, 0⟩ : Pn).e = [.int .u64 (y1 : Int), .int .u64 (xm : Int), .int .u64 (nx : Int), .slice A4 Q.length k4] by show sncells y1 (least Q nx) nx _ = _; rw [← HXM.out]; rfl)
                have HKT2 := Lib.hid (kept_begin HKT.out)
                generalize T ++ [1] = T2 at *
                clear D7 xA o4 o4A b4 D6 h3 HT k6
                go_wp2_with (at_builtin; refine wpList_append_lies _ rfl (.tmp 124) (.tmp 131) 62 rfl w2.heap.size 76 _ _ 4 48 Try.underlying62 hi4 hz40 hz41 hz42 rfl (by decide) _ _ _ rfl oA _ 1 1 [.int .u64 (y1 : Int), .int .u64 (xm : Int), .int .u64 (nx : Int), .slice A4 Q.length k4] rfl rfl (bx_news lA) (one4 y1 xm nx _ rfl) (by decide) (by simp only [maxLen]; omega) (by omega) hsz _ rfl ?_; intro gg cg w8 o8 hg8 hat8 hlt8; have D8 := DA.more hg8 ⟨y1, nx, Q, A4, k4, none, 0⟩ (by rw [HQE.out, ← HN9.out]; exact o8) o4B hnF; clear DA lA oA o8 hg8 hat8 hlt8 o4B hnF)
                go_roundw
                case rel => exact ⟨j + 1, N9 + 1, cg, some ⟨gg, 0, none⟩, T2, F3, live ++ [⟨y1, nx, Q, A4, k4, none, 0⟩], by omega, by omega, hTl', by rw [List.length_append, ← HN9.out]; rfl, by omega, by go_num, rfl, HKT2.out, fun q hq => (List.mem_append.1 hq).elim (HGD.out q) fun h => by rw [List.mem_singleton] at h; rw [h]; exact HGN.out, D8⟩
                case measure => simp [intOf]; omega
              · have t0 : ((d : Int) == 0) = false := beq_eq_false_iff_ne.2 (by omega)
                by_cases hd1 : d = 1
                · subst hd1
                  have HC := Lib.hid (lg_abort V.drew g 1 x T F' (DV.kp.log.below (below_n _ 1)) (by omega))
                  have hel : (endL 1 T x 3).length = T.length := by unfold endL; split <;> simp
                  have bVd : Bx V.drew b9 89 [.int .u8 (o.do_ : Int), .int .u64 (o.xid : Int)] := bV.below (below_n _ 1)
                  have DVd : Dv w1 w2 V.drew p g r T F' (.slice A1 i c1) (.slice A2 i c2) L (.slice A9 N9 c9) live (.slice A13 N13 c13) D := DV.below (below_n _ 1)
                  have hS0 : V.drew.cell? ⟨p, 0, none⟩ = some (.pointer (some ⟨g, 0, none⟩)) ∧ V.drew.cell? ⟨b9, 1, none⟩ = some (.int .u64 (o.xid : Int)) := ⟨DVd.kp.box.cell 0, bVd.cell 1⟩
                  go_upto_region 33 with fail
                  go_region_held3 (fun w' => w'.cell? ⟨p, 0, none⟩ = some (.pointer (some ⟨g, 0, none⟩)) ∧ w'.cell? ⟨b9, 1, none⟩ = some (.int .u64 (o.xid : Int))) (first | (with_reducible assumption))
                    (first
                    | (go_at_call 17; (with_reducible refine (HC.out).mono ?_); rintro e w5 ⟨rfl, F5, h5, g5⟩; have D5 := DVd.step h5 g5; have hS5 : w5.cell? ⟨p, 0, none⟩ = some (.pointer (some ⟨g, 0, none⟩)) ∧ w5.cell? ⟨b9, 1, none⟩ = some (.int .u64 (o.xid : Int)) := (by have hb := g5.fr.bx bVd (DVd.kp.log.not bVd.ty (by decide) (by decide) (by decide)); exact ⟨D5.kp.box.cell 0, hb.cell 1⟩)))
                  go_wp2_with fail
                  go_roundw
                  case rel => exact ⟨j + 1, N9, c9, A9, _, _, live, by omega, by omega, by omega, HN9.out, by omega, by go_num, rfl, kept_end HKT.out x 3, HGD.out, D5⟩
                  case measure => simp [intOf]; omega
                · have t1 : ((d : Int) == 1) = false := beq_eq_false_iff_ne.2 (by omega)
                  have HC := Lib.hid (lg_commit V.drew g 1 x T F' (DV.kp.log.below (below_n _ 1)) (by omega))
                  have hel : (endL 1 T x 2).length = T.length := by unfold endL; split <;> simp
                  have bVd : Bx V.drew b9 89 [.int .u8 (o.do_ : Int), .int .u64 (o.xid : Int)] := bV.below (below_n _ 1)
                  have DVd : Dv w1 w2 V.drew p g r T F' (.slice A1 i c1) (.slice A2 i c2) L (.slice A9 N9 c9) live (.slice A13 N13 c13) D := DV.below (below_n _ 1)
                  have hS0 : V.drew.cell? ⟨p, 0, none⟩ = some (.pointer (some ⟨g, 0, none⟩)) ∧ V.drew.cell? ⟨b9, 1, none⟩ = some (.int .u64 (o.xid : Int)) := ⟨DVd.kp.box.cell 0, bVd.cell 1⟩
                  go_upto_region 27 with fail
                  go_region_held3 (fun w' => w'.cell? ⟨p, 0, none⟩ = some (.pointer (some ⟨g, 0, none⟩)) ∧ w'.cell? ⟨b9, 1, none⟩ = some (.int .u64 (o.xid : Int))) (first | (with_reducible assumption))
                    (first
                    | (go_at_call 15; (with_reducible refine (HC.out).mono ?_); rintro e w5 ⟨rfl, F5, h5, g5⟩; have D5 := DVd.step h5 g5; have hS5 : w5.cell? ⟨p, 0, none⟩ = some (.pointer (some ⟨g, 0, none⟩)) ∧ w5.cell? ⟨b9, 1, none⟩ = some (.int .u64 (o.xid : Int)) := (by have hb := g5.fr.bx bVd (DVd.kp.log.not bVd.ty (by decide) (by decide) (by decide)); exact ⟨D5.kp.box.cell 0, hb.cell 1⟩)))
                  go_wp2_with fail
                  go_roundw
                  case rel => exact ⟨j + 1, N9, c9, A9, _, _, live, by omega, by omega, by omega, HN9.out, by omega, by go_num, rfl, kept_end HKT.out x 2, HGD.out, D5⟩
                  case measure => simp [intOf]; omega
            · rcases (show j = lb.length ∨ (j < lb.length ∧ j = 30) by omega) with hil | ⟨hlt2, hil⟩
              · subst hil
                have D6 := D5
                clear D5
                go_wp2
                go_loopw [146] (fun iv wr => ∃ (k : Nat), k ≤ N9 ∧ iv = .int .i64 (k : Int) ∧ Dv w1 w2 wr p g r T F' (.slice A1 i c1) (.slice A2 i c2) L (.slice A9 N9 c9) live (.slice A13 N13 c13) D) (fun iv _ => N9 - (intOf iv).toNat)
                case atStart => exact ⟨0, Nat.zero_le _, rfl, D6⟩
                case round =>
                  obtain ⟨k, hk, rfl, D7⟩ := hrel
                  clear D6
                  by_cases hlt7 : k < N9
                  · have hkl : k < live.length := by rw [← HN9.out]; exact hlt7
                    obtain ⟨A', c', hv, _, _, hr⟩ := own_form D7.row
                    injection hv with e1 e2 e3
                    subst e1 e3
                    obtain ⟨ad2, rfl, s0, s1, s2, s3⟩ := pn_at hr hkl
                    have ix2 := idx_sn ad2 N9 c9 k hlt7
                    have hqm : live[k] ∈ live := List.getElem_mem hkl
                    have hgq := HGD.out live[k] hqm
                    have hrow := (D7.rows live[k] hqm).1
                    generalize live[k] = q at *
                    obtain ⟨own, xmin, xmax, R, As, cs, h0, h1, h2, h3, h4, h5⟩ : ∃ own xmin xmax R As cs, own = q.own ∧ xmin = least q.R q.xmax ∧ xmax = q.xmax ∧ R = q.R ∧ As = q.A ∧ cs = q.c := ⟨_, _, _, _, _, _, rfl, rfl, rfl, rfl, rfl, rfl⟩
                    have hun : ∀ ta tb, deadB 1 S ta tb hz = true → ta ≠ own → tb ≠ own → visB 1 T own xmax R ta tb = false := fun ta tb hd ha hb => by rw [h0] at ha hb; rw [h0, h2, h3]; exact dead_unseen HKT.out hgq hd ha hb
                    have HUN := Lib.hid hun
                    rw [← h0] at s0
                    rw [← h1] at s1
                    rw [← h2] at s2
                    rw [← h3, ← h4, ← h5] at s3 hrow
                    clear hr e2 h0 h1 h2 h3 h4 h5 hun hgq
                    have xV : Below wr.heap.size wr (wr.alloc (.cells #[.int .u64 (own : Int), .int .u64 (xmin : Int), .int .u64 (xmax : Int), .slice As R.length cs] 76)) := (Below.refl _ _).al _
                    have DV := D7.below xV
                    have bV := Bx.new wr 76 #[.int .u64 (own : Int), .int .u64 (xmin : Int), .int .u64 (xmax : Int), .slice As R.length cs] [.int .u64 (own : Int), .int .u64 (xmin : Int), .int .u64 (xmax : Int), .slice As R.length cs] rfl
                    have rV := own_below hrow xV
                    clear D7 hrow
                    go_upto_region 38 with fail
                    generalize wr.alloc (.cells #[.int .u64 (own : Int), .int .u64 (xmin : Int), .int .u64 (xmax : Int), .slice As R.length cs] 76) = V at *
                    generalize wr.heap.size = b9 at *
                    have hRl : R.length ≤ 9223372036854775807 := by obtain ⟨_, _, hv, h1, h2, _⟩ := own_form rV; injection hv with _ _ h3; unfold maxLen at h2; omega
                    have HS : ∀ w', Below V.heap.size V w' → w'.cell? ⟨p, 0, none⟩ = some (.pointer (some ⟨g, 0, none⟩)) ∧ w'.cell? ⟨b9, 0, none⟩ = some (.int .u64 (own : Int)) ∧ w'.cell? ⟨b9, 1, none⟩ = some (.int .u64 (xmin : Int)) ∧ w'.cell? ⟨b9, 2, none⟩ = some (.int .u64 (xmax : Int)) ∧ w'.cell? ⟨b9, 3, none⟩ = some (.slice As R.length cs) := fun w' hb => ⟨(DV.kp.box.below hb).cell 0, (bV.below hb).cell 0, (bV.below hb).cell 1, (bV.below hb).cell 2, (bV.below hb).cell 3⟩
                    have HVI : ∀ (w' : World) (ta tb : Nat), Below V.heap.size V w' → Calls Try.prog 36 #[.pointer (some ⟨g, 0, none⟩), .agg #[.int .u64 (own : Int), .int .u64 (xmin : Int), .int .u64 (xmax : Int), .slice As R.length cs], .agg #[.int .u64 0, .int .u64 (ta : Int), .int .u64 (tb : Int), .int .i64 0, .int .i64 0, .slice none 0 0]] w' fun e w'' => e = .returned (.bool (visB 1 T own xmax R ta tb)) ∧ Below w'.heap.size w' w'' := fun w' ta tb hb =>
                      vis_any w' g 1 own xmin xmax ta tb _ T R F' _ (DV.kp.log.below hb) (own_below rV hb) hRl
                    have HR7 : ∀ w', Below V.heap.size V w' → w'.ownsRow w1.heap.size 71 6 (.slice A13 N13 c13) D.length (D.flatMap tpc) := fun w' hb => own_below DV.dead hb
                    replace HS := Lib.hid HS
                    replace HVI := Lib.hid HVI
                    replace HR7 := Lib.hid HR7
                    have HDV := Lib.hid DV
                    clear DV bV rV s0 s1 s2 s3 ix2 hRl
                    go_wp2
                    go_loopw [152] (fun jv wr => ∃ (m : Nat), m ≤ N13 ∧ jv = .int .i64 (m : Int) ∧ Below V.heap.size V wr) (fun jv _ => N13 - (intOf jv).toNat)
                    case atStart => exact ⟨0, Nat.zero_le _, rfl, Below.refl _ _⟩
                    case round =>
                      obtain ⟨m, hm, rfl, x2⟩ := hrel
                      by_cases hm7 : m < N13
                      · obtain ⟨A', c', hv, _, _, hr⟩ := own_form (HR7.out _ x2)
                        injection hv with e1 e2 e3
                        subst e1 e3
                        have hml : m < D.length := by rw [← HN13.out]; exact hm7
                        obtain ⟨ad7, rfl, t0, t1, t2, t3, t4, t5⟩ := tp_at hr hml
                        have ix7 := idx_tp ad7 N13 c13 m hm7
                        have hdt := HDD.out D[m] (List.getElem_mem hml)
                        generalize D[m] = tt at *
                        obtain ⟨ta, tb⟩ := tt
                        have hdt : deadB 1 S ta tb hz = true := hdt
                        have t1 : wr.cell? ⟨(ad7.add (m * 6)).block, (ad7.add (m * 6)).off + 1, none⟩ = some (.int .u64 (ta : Int)) := t1
                        have t2 : wr.cell? ⟨(ad7.add (m * 6)).block, (ad7.add (m * 6)).off + 2, none⟩ = some (.int .u64 (tb : Int)) := t2
                        have HDT := Lib.hid hdt
                        have x3 : Below V.heap.size V (wr.alloc (.cells #[.int .u64 0, .int .u64 (ta : Int), .int .u64 (tb : Int), .int .i64 0, .int .i64 0, .slice none 0 0] 71)) := x2.al _
                        have bT := Bx.new wr 71 #[.int .u64 0, .int .u64 (ta : Int), .int .u64 (tb : Int), .int .i64 0, .int .i64 0, .slice none 0 0] [.int .u64 0, .int .u64 (ta : Int), .int .u64 (tb : Int), .int .i64 0, .int .i64 0, .slice none 0 0] rfl
                        clear hr e2 hdt
                        go_upto_region 41 with fail
                        clear t0 t1 t2 t3 t4 t5
                        generalize wr.alloc (.cells #[.int .u64 0, .int .u64 (ta : Int), .int .u64 (tb : Int), .int .i64 0, .int .i64 0, .slice none 0 0] 71) = W at *
                        generalize wr.heap.size = b7 at *
                        have x4d : Below W.heap.size W W.drew := below_n W 1
                        have HS2 : ∀ w', Below W.heap.size W w' → (w'.cell? ⟨p, 0, none⟩ = some (.pointer (some ⟨g, 0, none⟩)) ∧ w'.cell? ⟨b9, 0, none⟩ = some (.int .u64 (own : Int)) ∧ w'.cell? ⟨b9, 1, none⟩ = some (.int .u64 (xmin : Int)) ∧ w'.cell? ⟨b9, 2, none⟩ = some (.int .u64 (xmax : Int)) ∧ w'.cell? ⟨b9, 3, none⟩ = some (.slice As R.length cs) ∧ w'.cell? ⟨b7, 0, none⟩ = some (.int .u64 0) ∧ w'.cell? ⟨b7, 1, none⟩ = some (.int .u64 (ta : Int)) ∧ w'.cell? ⟨b7, 2, none⟩ = some (.int .u64 (tb : Int)) ∧ w'.cell? ⟨b7, 3, none⟩ = some (.int .i64 0) ∧ w'.cell? ⟨b7, 4, none⟩ = some (.int .i64 0) ∧ w'.cell? ⟨b7, 5, none⟩ = some (.slice none 0 0)) := fun w' hb => by
                          obtain ⟨h1, h2, h3, h4, h5⟩ := HS.out _ (x3.next hb)
                          exact ⟨h1, h2, h3, h4, h5, (bT.below hb).cell 0, (bT.below hb).cell 1, (bT.below hb).cell 2, (bT.below hb).cell 3, (bT.below hb).cell 4, (bT.below hb).cell 5⟩
                        replace HS2 := Lib.hid HS2
                        have hS0 := HS2.out _ x4d
                        by_cases hta : ta = own
                        · have hb1 : ((ta : Int) != (own : Int)) = false := by rw [hta]; simp
                          clear hta
                          refine wp_region_held_drew (S := (fun w' => w'.cell? ⟨p, 0, none⟩ = some (.pointer (some ⟨g, 0, none⟩)) ∧ w'.cell? ⟨b9, 0, none⟩ = some (.int .u64 (own : Int)) ∧ w'.cell? ⟨b9, 1, none⟩ = some (.int .u64 (xmin : Int)) ∧ w'.cell? ⟨b9, 2, none⟩ = some (.int .u64 (xmax : Int)) ∧ w'.cell? ⟨b9, 3, none⟩ = some (.slice As R.length cs) ∧ w'.cell? ⟨b7, 0, none⟩ = some (.int .u64 0) ∧ w'.cell? ⟨b7, 1, none⟩ = some (.int .u64 (ta : Int)) ∧ w'.cell? ⟨b7, 2, none⟩ = some (.int .u64 (tb : Int)) ∧ w'.cell? ⟨b7, 3, none⟩ = some (.int .i64 0) ∧ w'.cell? ⟨b7, 4, none⟩ = some (.int .i64 0) ∧ w'.cell? ⟨b7, 5, none⟩ = some (.slice none 0 0))) (by kernel_rfl) ?_ (fun hHeld => ?_)
                          · first | assumption
                          refine wpAnyH_take (i := 0) (oi := { dst := some 156, op := Go.Op.fieldAddr 71 (Go.Operand.tmp 24) 1, type := 0, pos := "law.go:187", after := #[], guard := none }) (v := ?v5) rfl (by kernel_rfl) (by kernel_rfl) (by kernel_rfl) (fun _ _ _ h => h) (Or.inl ⟨by rfl, ?hy5⟩) (by assumption) ?rest5
                          case hy5 => (intro w' hSw; (try dsimp only at hSw); go_simp <;> with_reducible rfl)
                          (try simp only [Act.put, List.setIfInBounds_toArray, List.set_cons_zero, List.set_cons_succ])
                          refine wpAnyH_take (i := 1) (oi := { dst := some 157, op := Go.Op.load 22 (Go.Operand.tmp 156), type := 22, pos := "law.go:187", after := #[{ on := 0, ground := Go.Ground.data }], guard := none }) (v := ?v6) rfl (by kernel_rfl) (by kernel_rfl) (by kernel_rfl) (fun _ _ _ h => h) (Or.inl ⟨by rfl, ?hy6⟩) (by assumption) ?rest6
                          case hy6 => (intro w' hSw; (try dsimp only at hSw); go_simp <;> with_reducible rfl)
                          (try simp only [Act.put, List.setIfInBounds_toArray, List.set_cons_zero, List.set_cons_succ])
                          refine wpAnyH_take (i := 2) (oi := { dst := some 158, op := Go.Op.fieldAddr 76 (Go.Operand.tmp 22) 0, type := 0, pos := "law.go:187", after := #[], guard := none }) (v := ?v7) rfl (by kernel_rfl) (by kernel_rfl) (by kernel_rfl) (fun _ _ _ h => h) (Or.inl ⟨by rfl, ?hy7⟩) (by assumption) ?rest7
                          case hy7 => (intro w' hSw; (try dsimp only at hSw); go_simp <;> with_reducible rfl)
                          (try simp only [Act.put, List.setIfInBounds_toArray, List.set_cons_zero, List.set_cons_succ])
                          refine wpAnyH_take (i := 3) (oi := { dst := some 159, op := Go.Op.load 22 (Go.Operand.tmp 158), type := 22, pos := "law.go:187", after := #[{ on := 2, ground := Go.Ground.data }], guard := none }) (v := ?v8) rfl (by kernel_rfl) (by kernel_rfl) (by kernel_rfl) (fun _ _ _ h => h) (Or.inl ⟨by rfl, ?hy8⟩) (by assumption) ?rest8
                          case hy8 => (intro w' hSw; (try dsimp only at hSw); go_simp <;> with_reducible rfl)
                          (try simp only [Act.put, List.setIfInBounds_toArray, List.set_cons_zero, List.set_cons_succ])
                          refine wpAnyH_take (i := 4) (oi := { dst := some 160, op := Go.Op.binOp Go.BinOp.neq 22 (Go.Operand.tmp 157) (Go.Operand.tmp 159) 22, type := 4, pos := "law.go:187", after := #[{ on := 1, ground := Go.Ground.data }, { on := 3, ground := Go.Ground.data }], guard := none }) (v := ?v9) rfl (by kernel_rfl) (by kernel_rfl) (by kernel_rfl) (fun _ _ _ h => h) (Or.inl ⟨by rfl, ?hy9⟩) (by assumption) ?rest9
                          case hy9 => (intro w' hSw; (try dsimp only at hSw); go_simp <;> with_reducible rfl)
                          (try simp only [Act.put, List.setIfInBounds_toArray, List.set_cons_zero, List.set_cons_succ])
                          refine wpAnyH_take (i := 5) (oi := { dst := some 161, op := Go.Op.move (Go.Operand.tmp 160), type := 4, pos := "law.go:187", after := #[{ on := 4, ground := Go.Ground.data }], guard := none }) (v := ?v10) rfl (by kernel_rfl) (by kernel_rfl) (by kernel_rfl) (fun _ _ _ h => h) (Or.inl ⟨by rfl, ?hy10⟩) (by assumption) ?rest10
                          case hy10 => (intro w' hSw; (try dsimp only at hSw); go_simp <;> with_reducible rfl)
                          (try simp only [Act.put, List.setIfInBounds_toArray, List.set_cons_zero, List.set_cons_succ])
                          refine wpAnyH_take (i := 6) (oi := { dst := some 162, op := Go.Op.fieldAddr 71 (Go.Operand.tmp 24) 2, type := 0, pos := "law.go:187", after := #[{ on := 5, ground := Go.Ground.guard }], guard := some (5, true) }) (v := undef) rfl (by kernel_rfl) (by kernel_rfl) (by kernel_rfl) (fun _ _ _ h => h) (Or.inr ⟨by rfl, rfl⟩) (by assumption) ?_
                          (try simp only [Act.put, List.setIfInBounds_toArray, List.set_cons_zero, List.set_cons_succ])
                          refine wpAnyH_take (i := 7) (oi := { dst := some 163, op := Go.Op.load 22 (Go.Operand.tmp 162), type := 22, pos := "law.go:187", after := #[{ on := 6, ground := Go.Ground.data }, { on := 5, ground := Go.Ground.guard }], guard := some (5, true) }) (v := undef) rfl (by kernel_rfl) (by kernel_rfl) (by kernel_rfl) (fun _ _ _ h => h) (Or.inr ⟨by rfl, rfl⟩) (by assumption) ?_
                          (try simp only [Act.put, List.setIfInBounds_toArray, List.set_cons_zero, List.set_cons_succ])
                          refine wpAnyH_take (i := 8) (oi := { dst := some 164, op := Go.Op.fieldAddr 76 (Go.Operand.tmp 22) 0, type := 0, pos := "law.go:187", after := #[{ on := 5, ground := Go.Ground.guard }], guard := some (5, true) }) (v := undef) rfl (by kernel_rfl) (by kernel_rfl) (by kernel_rfl) (fun _ _ _ h => h) (Or.inr ⟨by rfl, rfl⟩) (by assumption) ?_
                          (try simp only [Act.put, List.setIfInBounds_toArray, List.set_cons_zero, List.set_cons_succ])
                          refine wpAnyH_take (i := 9) (oi := { dst := some 165, op := Go.Op.load 22 (Go.Operand.tmp 164), type := 22, pos := "law.go:187", after := #[{ on := 8, ground := Go.Ground.data }, { on := 5, ground := Go.Ground.guard }], guard := some (5, true) }) (v := undef) rfl (by kernel_rfl) (by kernel_rfl) (by kernel_rfl) (fun _ _ _ h => h) (Or.inr ⟨by rfl, rfl⟩) (by assumption) ?_
                          (try simp only [Act.put, List.setIfInBounds_toArray, List.set_cons_zero, List.set_cons_succ])
                          refine wpAnyH_take (i := 10) (oi := { dst := some 166, op := Go.Op.binOp Go.BinOp.neq 22 (Go.Operand.tmp 163) (Go.Operand.tmp 165) 22, type := 4, pos := "law.go:187", after := #[{ on := 7, ground := Go.Ground.data }, { on := 9, ground := Go.Ground.data }, { on := 5, ground := Go.Ground.guard }], guard := some (5, true) }) (v := undef) rfl (by kernel_rfl) (by kernel_rfl) (by kernel_rfl) (fun _ _ _ h => h) (Or.inr ⟨by rfl, rfl⟩) (by assumption) ?_
                          (try simp only [Act.put, List.setIfInBounds_toArray, List.set_cons_zero, List.set_cons_succ])
                          refine wpAnyH_take (i := 11) (oi := { dst := some 167, op := Go.Op.pick (Go.Operand.tmp 161) (Go.Operand.tmp 166) (Go.Operand.const (Go.Value.bool false)), type := 4, pos := "law.go:187", after := #[{ on := 5, ground := Go.Ground.data }, { on := 10, ground := Go.Ground.data }], guard := none }) (v := ?v11) rfl (by kernel_rfl) (by kernel_rfl) (by kernel_rfl) (fun _ _ _ h => h) (Or.inl ⟨by rfl, ?hy11⟩) (by assumption) ?rest11
                          case hy11 => (intro w' hSw; (try dsimp only at hSw); go_simp <;> with_reducible rfl)
                          (try simp only [Act.put, List.setIfInBounds_toArray, List.set_cons_zero, List.set_cons_succ])
                          refine wpAnyH_take (i := 12) (oi := { dst := some 168, op := Go.Op.move (Go.Operand.tmp 167), type := 4, pos := "law.go:187", after := #[{ on := 11, ground := Go.Ground.data }, { on := 5, ground := Go.Ground.chain }], guard := none }) (v := ?v12) rfl (by kernel_rfl) (by kernel_rfl) (by kernel_rfl) (fun _ _ _ h => h) (Or.inl ⟨by rfl, ?hy12⟩) (by assumption) ?rest12
                          case hy12 => (intro w' hSw; (try dsimp only at hSw); go_simp <;> with_reducible rfl)
                          (try simp only [Act.put, List.setIfInBounds_toArray, List.set_cons_zero, List.set_cons_succ])
                          refine wpAnyH_take (i := 13) (oi := { dst := some 169, op := Go.Op.move (Go.Operand.tmp 7), type := 58, pos := "law.go:187", after := #[{ on := 12, ground := Go.Ground.guard }], guard := some (12, true) }) (v := undef) rfl (by kernel_rfl) (by kernel_rfl) (by kernel_rfl) (fun _ _ _ h => h) (Or.inr ⟨by rfl, rfl⟩) (by assumption) ?_
                          (try simp only [Act.put, List.setIfInBounds_toArray, List.set_cons_zero, List.set_cons_succ])
                          refine wpAnyH_take (i := 14) (oi := { dst := some 170, op := Go.Op.nilCheck (Go.Operand.tmp 169), type := 0, pos := "law.go:187", after := #[{ on := 13, ground := Go.Ground.data }, { on := 12, ground := Go.Ground.guard }], guard := some (12, true) }) (v := undef) rfl (by kernel_rfl) (by kernel_rfl) (by kernel_rfl) (fun _ _ _ h => h) (Or.inr ⟨by rfl, rfl⟩) (by assumption) ?_
                          (try simp only [Act.put, List.setIfInBounds_toArray, List.set_cons_zero, List.set_cons_succ])
                          refine wpAnyH_take (i := 15) (oi := { dst := some 171, op := Go.Op.fieldAddr 65 (Go.Operand.tmp 170) 0, type := 0, pos := "law.go:187", after := #[{ on := 14, ground := Go.Ground.data }, { on := 12, ground := Go.Ground.guard }], guard := some (12, true) }) (v := undef) rfl (by kernel_rfl) (by kernel_rfl) (by kernel_rfl) (fun _ _ _ h => h) (Or.inr ⟨by rfl, rfl⟩) (by assumption) ?_
                          (try simp only [Act.put, List.setIfInBounds_toArray, List.set_cons_zero, List.set_cons_succ])
                          refine wpAnyH_take (i := 16) (oi := { dst := some 172, op := Go.Op.load 25 (Go.Operand.tmp 171), type := 25, pos := "law.go:187", after := #[{ on := 15, ground := Go.Ground.data }, { on := 12, ground := Go.Ground.guard }], guard := some (12, true) }) (v := undef) rfl (by kernel_rfl) (by kernel_rfl) (by kernel_rfl) (fun _ _ _ h => h) (Or.inr ⟨by rfl, rfl⟩) (by assumption) ?_
                          (try simp only [Act.put, List.setIfInBounds_toArray, List.set_cons_zero, List.set_cons_succ])
                          refine wpAnyH_take (i := 17) (oi := { dst := some 173, op := Go.Op.load 76 (Go.Operand.tmp 22), type := 76, pos := "law.go:187", after := #[{ on := 12, ground := Go.Ground.guard }], guard := some (12, true) }) (v := undef) rfl (by kernel_rfl) (by kernel_rfl) (by kernel_rfl) (fun _ _ _ h => h) (Or.inr ⟨by rfl, rfl⟩) (by assumption) ?_
                          (try simp only [Act.put, List.setIfInBounds_toArray, List.set_cons_zero, List.set_cons_succ])
                          refine wpAnyH_take (i := 18) (oi := { dst := some 174, op := Go.Op.load 71 (Go.Operand.tmp 24), type := 71, pos := "law.go:187", after := #[{ on := 12, ground := Go.Ground.guard }], guard := some (12, true) }) (v := undef) rfl (by kernel_rfl) (by kernel_rfl) (by kernel_rfl) (fun _ _ _ h => h) (Or.inr ⟨by rfl, rfl⟩) (by assumption) ?_
                          (try simp only [Act.put, List.setIfInBounds_toArray, List.set_cons_zero, List.set_cons_succ])
                          refine wpAnyH_take (i := 19) (oi := { dst := some 175, op := Go.Op.call { callee := Go.Callee.value (Go.Operand.func 36), args := #[Go.Operand.tmp 172, Go.Operand.tmp 173, Go.Operand.tmp 174], argTypes := #[25, 76, 71] }, type := 4, pos := "law.go:187", after := #[{ on := 16, ground := Go.Ground.data }, { on := 17, ground := Go.Ground.data }, { on := 18, ground := Go.Ground.data }, { on := 12, ground := Go.Ground.chain }, { on := 12, ground := Go.Ground.guard }], guard := some (12, true) }) (v := undef) rfl (by kernel_rfl) (by kernel_rfl) (by kernel_rfl) (fun _ _ _ h => h) (Or.inr ⟨by rfl, rfl⟩) (by assumption) ?_
                          (try simp only [Act.put, List.setIfInBounds_toArray, List.set_cons_zero, List.set_cons_succ])
                          refine wpAnyH_take (i := 20) (oi := { dst := some 176, op := Go.Op.pick (Go.Operand.tmp 168) (Go.Operand.tmp 175) (Go.Operand.const (Go.Value.bool false)), type := 4, pos := "law.go:187", after := #[{ on := 12, ground := Go.Ground.data }, { on := 19, ground := Go.Ground.data }], guard := none }) (v := ?v13) rfl (by kernel_rfl) (by kernel_rfl) (by kernel_rfl) (fun _ _ _ h => h) (Or.inl ⟨by rfl, ?hy13⟩) (by assumption) ?rest13
                          case hy13 => (intro w' hSw; (try dsimp only at hSw); go_simp <;> with_reducible rfl)
                          (try simp only [Act.put, List.setIfInBounds_toArray, List.set_cons_zero, List.set_cons_succ])
                          refine wpAnyH_done (by kernel_rfl) ?_ _
                          go_wp2_with fail
                          go_roundw
                          case rel => exact ⟨m + 1, by omega, by go_num, x3.next x4d⟩
                          case measure => simp [intOf]; omega
                        · have hb1 : ((ta : Int) != (own : Int)) = true := by simp; omega
                          by_cases htb : tb = own
                          · have hb2 : ((tb : Int) != (own : Int)) = false := by rw [htb]; simp
                            clear hta htb
                            refine wp_region_held_drew (S := (fun w' => w'.cell? ⟨p, 0, none⟩ = some (.pointer (some ⟨g, 0, none⟩)) ∧ w'.cell? ⟨b9, 0, none⟩ = some (.int .u64 (own : Int)) ∧ w'.cell? ⟨b9, 1, none⟩ = some (.int .u64 (xmin : Int)) ∧ w'.cell? ⟨b9, 2, none⟩ = some (.int .u64 (xmax : Int)) ∧ w'.cell? ⟨b9, 3, none⟩ = some (.slice As R.length cs) ∧ w'.cell? ⟨b7, 0, none⟩ = some (.int .u64 0) ∧ w'.cell? ⟨b7, 1, none⟩ = some (.int .u64 (ta : Int)) ∧ w'.cell? ⟨b7, 2, none⟩ = some (.int .u64 (tb : Int)) ∧ w'.cell? ⟨b7, 3, none⟩ = some (.int .i64 0) ∧ w'.cell? ⟨b7, 4, none⟩ = some (.int .i64 0) ∧ w'.cell? ⟨b7, 5, none⟩ = some (.slice none 0 0))) (by kernel_rfl) ?_ (fun hHeld => ?_)
                            · first | assumption
                            refine wpAnyH_take (i := 0) (oi := { dst := some 156, op := Go.Op.fieldAddr 71 (Go.Operand.tmp 24) 1, type := 0, pos := "law.go:187", after := #[], guard := none }) (v := ?v14) rfl (by kernel_rfl) (by kernel_rfl) (by kernel_rfl) (fun _ _ _ h => h) (Or.inl ⟨by rfl, ?hy14⟩) (by assumption) ?rest14
                            case hy14 => (intro w' hSw; (try dsimp only at hSw); go_simp <;> with_reducible rfl)
                            (try simp only [Act.put, List.setIfInBounds_toArray, List.set_cons_zero, List.set_cons_succ])
                            refine wpAnyH_take (i := 1) (oi := { dst := some 157, op := Go.Op.load 22 (Go.Operand.tmp 156), type := 22, pos := "law.go:187", after := #[{ on := 0, ground := Go.Ground.data }], guard := none }) (v := ?v15) rfl (by kernel_rfl) (by kernel_rfl) (by kernel_rfl) (fun _ _ _ h => h) (Or.inl ⟨by rfl, ?hy15⟩) (by assumption) ?rest15
                            case hy15 => (intro w' hSw; (try dsimp only at hSw); go_simp <;> with_reducible rfl)
                            (try simp only [Act.put, List.setIfInBounds_toArray, List.set_cons_zero, List.set_cons_succ])
                            refine wpAnyH_take (i := 2) (oi := { dst := some 158, op := Go.Op.fieldAddr 76 (Go.Operand.tmp 22) 0, type := 0, pos := "law.go:187", after := #[], guard := none }) (v := ?v16) rfl (by kernel_rfl) (by kernel_rfl) (by kernel_rfl) (fun _ _ _ h => h) (Or.inl ⟨by rfl, ?hy16⟩) (by assumption) ?rest16
                            case hy16 => (intro w' hSw; (try dsimp only at hSw); go_simp <;> with_reducible rfl)
                            (try simp only [Act.put, List.setIfInBounds_toArray, List.set_cons_zero, List.set_cons_succ])
                            refine wpAnyH_take (i := 3) (oi := { dst := some 159, op := Go.Op.load 22 (Go.Operand.tmp 158), type := 22, pos := "law.go:187", after := #[{ on := 2, ground := Go.Ground.data }], guard := none }) (v := ?v17) rfl (by kernel_rfl) (by kernel_rfl) (by kernel_rfl) (fun _ _ _ h => h) (Or.inl ⟨by rfl, ?hy17⟩) (by assumption) ?rest17
                            case hy17 => (intro w' hSw; (try dsimp only at hSw); go_simp <;> with_reducible rfl)
                            (try simp only [Act.put, List.setIfInBounds_toArray, List.set_cons_zero, List.set_cons_succ])
                            refine wpAnyH_take (i := 4) (oi := { dst := some 160, op := Go.Op.binOp Go.BinOp.neq 22 (Go.Operand.tmp 157) (Go.Operand.tmp 159) 22, type := 4, pos := "law.go:187", after := #[{ on := 1, ground := Go.Ground.data }, { on := 3, ground := Go.Ground.data }], guard := none }) (v := ?v18) rfl (by kernel_rfl) (by kernel_rfl) (by kernel_rfl) (fun _ _ _ h => h) (Or.inl ⟨by rfl, ?hy18⟩) (by assumption) ?rest18
                            case hy18 => (intro w' hSw; (try dsimp only at hSw); go_simp <;> with_reducible rfl)
                            (try simp only [Act.put, List.setIfInBounds_toArray, List.set_cons_zero, List.set_cons_succ])
                            refine wpAnyH_take (i := 5) (oi := { dst := some 161, op := Go.Op.move (Go.Operand.tmp 160), type := 4, pos := "law.go:187", after := #[{ on := 4, ground := Go.Ground.data }], guard := none }) (v := ?v19) rfl (by kernel_rfl) (by kernel_rfl) (by kernel_rfl) (fun _ _ _ h => h) (Or.inl ⟨by rfl, ?hy19⟩) (by assumption) ?rest19
                            case hy19 => (intro w' hSw; (try dsimp only at hSw); go_simp <;> with_reducible rfl)
                            (try simp only [Act.put, List.setIfInBounds_toArray, List.set_cons_zero, List.set_cons_succ])
                            refine wpAnyH_take (i := 6) (oi := { dst := some 162, op := Go.Op.fieldAddr 71 (Go.Operand.tmp 24) 2, type := 0, pos := "law.go:187", after := #[{ on := 5, ground := Go.Ground.guard }], guard := some (5, true) }) (v := ?v20) rfl (by kernel_rfl) (by kernel_rfl) (by kernel_rfl) (fun _ _ _ h => h) (Or.inl ⟨by rfl, ?hy20⟩) (by assumption) ?rest20
                            case hy20 => (intro w' hSw; (try dsimp only at hSw); go_simp <;> with_reducible rfl)
                            (try simp only [Act.put, List.setIfInBounds_toArray, List.set_cons_zero, List.set_cons_succ])
                            refine wpAnyH_take (i := 7) (oi := { dst := some 163, op := Go.Op.load 22 (Go.Operand.tmp 162), type := 22, pos := "law.go:187", after := #[{ on := 6, ground := Go.Ground.data }, { on := 5, ground := Go.Ground.guard }], guard := some (5, true) }) (v := ?v21) rfl (by kernel_rfl) (by kernel_rfl) (by kernel_rfl) (fun _ _ _ h => h) (Or.inl ⟨by rfl, ?hy21⟩) (by assumption) ?rest21
                            case hy21 => (intro w' hSw; (try dsimp only at hSw); go_simp <;> with_reducible rfl)
                            (try simp only [Act.put, List.setIfInBounds_toArray, List.set_cons_zero, List.set_cons_succ])
                            refine wpAnyH_take (i := 8) (oi := { dst := some 164, op := Go.Op.fieldAddr 76 (Go.Operand.tmp 22) 0, type := 0, pos := "law.go:187", after := #[{ on := 5, ground := Go.Ground.guard }], guard := some (5, true) }) (v := ?v22) rfl (by kernel_rfl) (by kernel_rfl) (by kernel_rfl) (fun _ _ _ h => h) (Or.inl ⟨by rfl, ?hy22⟩) (by assumption) ?rest22
                            case hy22 => (intro w' hSw; (try dsimp only at hSw); go_simp <;> with_reducible rfl)
                            (try simp only [Act.put, List.setIfInBounds_toArray, List.set_cons_zero, List.set_cons_succ])
                            refine wpAnyH_take (i := 9) (oi := { dst := some 165, op := Go.Op.load 22 (Go.Operand.tmp 164), type := 22, pos := "law.go:187", after := #[{ on := 8, ground := Go.Ground.data }, { on := 5, ground := Go.Ground.guard }], guard := some (5, true) }) (v := ?v23) rfl (by kernel_rfl) (by kernel_rfl) (by kernel_rfl) (fun _ _ _ h => h) (Or.inl ⟨by rfl, ?hy23⟩) (by assumption) ?rest23
                            case hy23 => (intro w' hSw; (try dsimp only at hSw); go_simp <;> with_reducible rfl)
                            (try simp only [Act.put, List.setIfInBounds_toArray, List.set_cons_zero, List.set_cons_succ])
                            refine wpAnyH_take (i := 10) (oi := { dst := some 166, op := Go.Op.binOp Go.BinOp.neq 22 (Go.Operand.tmp 163) (Go.Operand.tmp 165) 22, type := 4, pos := "law.go:187", after := #[{ on := 7, ground := Go.Ground.data }, { on := 9, ground := Go.Ground.data }, { on := 5, ground := Go.Ground.guard }], guard := some (5, true) }) (v := ?v24) rfl (by kernel_rfl) (by kernel_rfl) (by kernel_rfl) (fun _ _ _ h => h) (Or.inl ⟨by rfl, ?hy24⟩) (by assumption) ?rest24
                            case hy24 => (intro w' hSw; (try dsimp only at hSw); go_simp <;> with_reducible rfl)
                            (try simp only [Act.put, List.setIfInBounds_toArray, List.set_cons_zero, List.set_cons_succ])
                            refine wpAnyH_take (i := 11) (oi := { dst := some 167, op := Go.Op.pick (Go.Operand.tmp 161) (Go.Operand.tmp 166) (Go.Operand.const (Go.Value.bool false)), type := 4, pos := "law.go:187", after := #[{ on := 5, ground := Go.Ground.data }, { on := 10, ground := Go.Ground.data }], guard := none }) (v := ?v25) rfl (by kernel_rfl) (by kernel_rfl) (by kernel_rfl) (fun _ _ _ h => h) (Or.inl ⟨by rfl, ?hy25⟩) (by assumption) ?rest25
                            case hy25 => (intro w' hSw; (try dsimp only at hSw); go_simp <;> with_reducible rfl)
                            (try simp only [Act.put, List.setIfInBounds_toArray, List.set_cons_zero, List.set_cons_succ])
                            refine wpAnyH_take (i := 12) (oi := { dst := some 168, op := Go.Op.move (Go.Operand.tmp 167), type := 4, pos := "law.go:187", after := #[{ on := 11, ground := Go.Ground.data }, { on := 5, ground := Go.Ground.chain }], guard := none }) (v := ?v26) rfl (by kernel_rfl) (by kernel_rfl) (by kernel_rfl) (fun _ _ _ h => h) (Or.inl ⟨by rfl, ?hy26⟩) (by assumption) ?rest26
                            case hy26 => (intro w' hSw; (try dsimp only at hSw); go_simp <;> with_reducible rfl)
                            (try simp only [Act.put, List.setIfInBounds_toArray, List.set_cons_zero, List.set_cons_succ])
                            refine wpAnyH_take (i := 13) (oi := { dst := some 169, op := Go.Op.move (Go.Operand.tmp 7), type := 58, pos := "law.go:187", after := #[{ on := 12, ground := Go.Ground.guard }], guard := some (12, true) }) (v := undef) rfl (by kernel_rfl) (by kernel_rfl) (by kernel_rfl) (fun _ _ _ h => h) (Or.inr ⟨by rfl, rfl⟩) (by assumption) ?_
                            (try simp only [Act.put, List.setIfInBounds_toArray, List.set_cons_zero, List.set_cons_succ])
                            refine wpAnyH_take (i := 14) (oi := { dst := some 170, op := Go.Op.nilCheck (Go.Operand.tmp 169), type := 0, pos := "law.go:187", after := #[{ on := 13, ground := Go.Ground.data }, { on := 12, ground := Go.Ground.guard }], guard := some (12, true) }) (v := undef) rfl (by kernel_rfl) (by kernel_rfl) (by kernel_rfl) (fun _ _ _ h => h) (Or.inr ⟨by rfl, rfl⟩) (by assumption) ?_
                            (try simp only [Act.put, List.setIfInBounds_toArray, List.set_cons_zero, List.set_cons_succ])
                            refine wpAnyH_take (i := 15) (oi := { dst := some 171, op := Go.Op.fieldAddr 65 (Go.Operand.tmp 170) 0, type := 0, pos := "law.go:187", after := #[{ on := 14, ground := Go.Ground.data }, { on := 12, ground := Go.Ground.guard }], guard := some (12, true) }) (v := undef) rfl (by kernel_rfl) (by kernel_rfl) (by kernel_rfl) (fun _ _ _ h => h) (Or.inr ⟨by rfl, rfl⟩) (by assumption) ?_
                            (try simp only [Act.put, List.setIfInBounds_toArray, List.set_cons_zero, List.set_cons_succ])
                            refine wpAnyH_take (i := 16) (oi := { dst := some 172, op := Go.Op.load 25 (Go.Operand.tmp 171), type := 25, pos := "law.go:187", after := #[{ on := 15, ground := Go.Ground.data }, { on := 12, ground := Go.Ground.guard }], guard := some (12, true) }) (v := undef) rfl (by kernel_rfl) (by kernel_rfl) (by kernel_rfl) (fun _ _ _ h => h) (Or.inr ⟨by rfl, rfl⟩) (by assumption) ?_
                            (try simp only [Act.put, List.setIfInBounds_toArray, List.set_cons_zero, List.set_cons_succ])
                            refine wpAnyH_take (i := 17) (oi := { dst := some 173, op := Go.Op.load 76 (Go.Operand.tmp 22), type := 76, pos := "law.go:187", after := #[{ on := 12, ground := Go.Ground.guard }], guard := some (12, true) }) (v := undef) rfl (by kernel_rfl) (by kernel_rfl) (by kernel_rfl) (fun _ _ _ h => h) (Or.inr ⟨by rfl, rfl⟩) (by assumption) ?_
                            (try simp only [Act.put, List.setIfInBounds_toArray, List.set_cons_zero, List.set_cons_succ])
                            refine wpAnyH_take (i := 18) (oi := { dst := some 174, op := Go.Op.load 71 (Go.Operand.tmp 24), type := 71, pos := "law.go:187", after := #[{ on := 12, ground := Go.Ground.guard }], guard := some (12, true) }) (v := undef) rfl (by kernel_rfl) (by kernel_rfl) (by kernel_rfl) (fun _ _ _ h => h) (Or.inr ⟨by rfl, rfl⟩) (by assumption) ?_
                            (try simp only [Act.put, List.setIfInBounds_toArray, List.set_cons_zero, List.set_cons_succ])
                            refine wpAnyH_take (i := 19) (oi := { dst := some 175, op := Go.Op.call { callee := Go.Callee.value (Go.Operand.func 36), args := #[Go.Operand.tmp 172, Go.Operand.tmp 173, Go.Operand.tmp 174], argTypes := #[25, 76, 71] }, type := 4, pos := "law.go:187", after := #[{ on := 16, ground := Go.Ground.data }, { on := 17, ground := Go.Ground.data }, { on := 18, ground := Go.Ground.data }, { on := 12, ground := Go.Ground.chain }, { on := 12, ground := Go.Ground.guard }], guard := some (12, true) }) (v := undef) rfl (by kernel_rfl) (by kernel_rfl) (by kernel_rfl) (fun _ _ _ h => h) (Or.inr ⟨by rfl, rfl⟩) (by assumption) ?_
                            (try simp only [Act.put, List.setIfInBounds_toArray, List.set_cons_zero, List.set_cons_succ])
                            refine wpAnyH_take (i := 20) (oi := { dst := some 176, op := Go.Op.pick (Go.Operand.tmp 168) (Go.Operand.tmp 175) (Go.Operand.const (Go.Value.bool false)), type := 4, pos := "law.go:187", after := #[{ on := 12, ground := Go.Ground.data }, { on := 19, ground := Go.Ground.data }], guard := none }) (v := ?v27) rfl (by kernel_rfl) (by kernel_rfl) (by kernel_rfl) (fun _ _ _ h => h) (Or.inl ⟨by rfl, ?hy27⟩) (by assumption) ?rest27
                            case hy27 => (intro w' hSw; (try dsimp only at hSw); go_simp <;> with_reducible rfl)
                            (try simp only [Act.put, List.setIfInBounds_toArray, List.set_cons_zero, List.set_cons_succ])
                            refine wpAnyH_done (by kernel_rfl) ?_ _
                            go_wp2_with fail
                            go_roundw
                            case rel => exact ⟨m + 1, by omega, by go_num, x3.next x4d⟩
                            case measure => simp [intOf]; omega
                          · have hb2 : ((tb : Int) != (own : Int)) = true := by simp; omega
                            have hvi := HVI.out W.drew ta tb (x3.next x4d)
                            rw [HUN.out ta tb HDT.out hta htb] at hvi
                            have HVA := Lib.hid hvi
                            clear hvi hta htb
                            go_region_held3 (fun w' => (w'.cell? ⟨p, 0, none⟩ = some (.pointer (some ⟨g, 0, none⟩)) ∧ w'.cell? ⟨b9, 0, none⟩ = some (.int .u64 (own : Int)) ∧ w'.cell? ⟨b9, 1, none⟩ = some (.int .u64 (xmin : Int)) ∧ w'.cell? ⟨b9, 2, none⟩ = some (.int .u64 (xmax : Int)) ∧ w'.cell? ⟨b9, 3, none⟩ = some (.slice As R.length cs) ∧ w'.cell? ⟨b7, 0, none⟩ = some (.int .u64 0) ∧ w'.cell? ⟨b7, 1, none⟩ = some (.int .u64 (ta : Int)) ∧ w'.cell? ⟨b7, 2, none⟩ = some (.int .u64 (tb : Int)) ∧ w'.cell? ⟨b7, 3, none⟩ = some (.int .i64 0) ∧ w'.cell? ⟨b7, 4, none⟩ = some (.int .i64 0) ∧ w'.cell? ⟨b7, 5, none⟩ = some (.slice none 0 0))) (first | (with_reducible assumption) | (with_reducible exact HS2.out _ x4d) | (with_reducible exact HS2.out _ x8))
                              (first
                              | (go_at_call 36; (with_reducible refine (HVA.out).mono ?_); rintro e w8 ⟨rfl, hb8⟩; have x8 := x4d.next hb8))
                            go_wp2_with fail
                            go_roundw
                            case rel => exact ⟨m + 1, by omega, by go_num, x3.next x8⟩
                            case measure => simp [intOf]; omega
                      · obtain rfl : m = N13 := by omega
                        have D9 := HDV.out.below x2
                        go_wp2_with fail
                        go_roundw
                        case rel => exact ⟨k + 1, by omega, by go_num, D9⟩
                        case measure => simp [intOf]; omega
                  · obtain rfl : k = N9 := by omega
                    have hbel := hb1.trans (D7.kp.mine.below.mono hb1.size)
                    clear D7
                    go_wp2_with fail
                    go_ret
                    exact ⟨rfl, hbel⟩
              · obtain ⟨ad, rfl, q0, q1⟩ := op10_at (R1.out.below (D5.kp.mine.below.mono (Nat.le_refl _))) hlt2
                have ix := idx_op10 ad lb.length cb j hlt2
                generalize lb[j] = o at *
                have h30 : (30 : Int) ≤ (j : Int) := by omega
                have D6 := D5.below ((Below.refl wr.heap.size wr).al (.cells #[.int .u8 (o.do_ : Int), .int .u64 (o.xid : Int)] 89))
                have hN9c : N9 ≤ 60 := by omega
                clear D5 hil hj30
                go_wp2
                go_loopw [146] (fun iv wr => ∃ (k : Nat), k ≤ N9 ∧ iv = .int .i64 (k : Int) ∧ Dv w1 w2 wr p g r T F' (.slice A1 i c1) (.slice A2 i c2) L (.slice A9 N9 c9) live (.slice A13 N13 c13) D) (fun iv _ => N9 - (intOf iv).toNat)
                case atStart => exact ⟨0, Nat.zero_le _, rfl, D6⟩
                case round =>
                  obtain ⟨k, hk, rfl, D7⟩ := hrel
                  clear D6
                  by_cases hlt7 : k < N9
                  · have hkl : k < live.length := by rw [← HN9.out]; exact hlt7
                    obtain ⟨A', c', hv, _, _, hr⟩ := own_form D7.row
                    injection hv with e1 e2 e3
                    subst e1 e3
                    obtain ⟨ad2, rfl, s0, s1, s2, s3⟩ := pn_at hr hkl
                    have ix2 := idx_sn ad2 N9 c9 k hlt7
                    have hqm : live[k] ∈ live := List.getElem_mem hkl
                    have hgq := HGD.out live[k] hqm
                    have hrow := (D7.rows live[k] hqm).1
                    generalize live[k] = q at *
                    obtain ⟨own, xmin, xmax, R, As, cs, h0, h1, h2, h3, h4, h5⟩ : ∃ own xmin xmax R As cs, own = q.own ∧ xmin = least q.R q.xmax ∧ xmax = q.xmax ∧ R = q.R ∧ As = q.A ∧ cs = q.c := ⟨_, _, _, _, _, _, rfl, rfl, rfl, rfl, rfl, rfl⟩
                    have hun : ∀ ta tb, deadB 1 S ta tb hz = true → ta ≠ own → tb ≠ own → visB 1 T own xmax R ta tb = false := fun ta tb hd ha hb => by rw [h0] at ha hb; rw [h0, h2, h3]; exact dead_unseen HKT.out hgq hd ha hb
                    have HUN := Lib.hid hun
                    rw [← h0] at s0
                    rw [← h1] at s1
                    rw [← h2] at s2
                    rw [← h3, ← h4, ← h5] at s3 hrow
                    clear hr e2 h0 h1 h2 h3 h4 h5 hun hgq
                    have xV : Below wr.heap.size wr (wr.alloc (.cells #[.int .u64 (own : Int), .int .u64 (xmin : Int), .int .u64 (xmax : Int), .slice As R.length cs] 76)) := (Below.refl _ _).al _
                    have DV := D7.below xV
                    have bV := Bx.new wr 76 #[.int .u64 (own : Int), .int .u64 (xmin : Int), .int .u64 (xmax : Int), .slice As R.length cs] [.int .u64 (own : Int), .int .u64 (xmin : Int), .int .u64 (xmax : Int), .slice As R.length cs] rfl
                    have rV := own_below hrow xV
                    clear D7 hrow
                    go_upto_region 38 with fail
                    generalize wr.alloc (.cells #[.int .u64 (own : Int), .int .u64 (xmin : Int), .int .u64 (xmax : Int), .slice As R.length cs] 76) = V at *
                    generalize wr.heap.size = b9 at *
                    have hRl : R.length ≤ 9223372036854775807 := by obtain ⟨_, _, hv, h1, h2, _⟩ := own_form rV; injection hv with _ _ h3; unfold maxLen at h2; omega
                    have HS : ∀ w', Below V.heap.size V w' → w'.cell? ⟨p, 0, none⟩ = some (.pointer (some ⟨g, 0, none⟩)) ∧ w'.cell? ⟨b9, 0, none⟩ = some (.int .u64 (own : Int)) ∧ w'.cell? ⟨b9, 1, none⟩ = some (.int .u64 (xmin : Int)) ∧ w'.cell? ⟨b9, 2, none⟩ = some (.int .u64 (xmax : Int)) ∧ w'.cell? ⟨b9, 3, none⟩ = some (.slice As R.length cs) := fun w' hb => ⟨(DV.kp.box.below hb).cell 0, (bV.below hb).cell 0, (bV.below hb).cell 1, (bV.below hb).cell 2, (bV.below hb).cell 3⟩
                    have HVI : ∀ (w' : World) (ta tb : Nat), Below V.heap.size V w' → Calls Try.prog 36 #[.pointer (some ⟨g, 0, none⟩), .agg #[.int .u64 (own : Int), .int .u64 (xmin : Int), .int .u64 (xmax : Int), .slice As R.length cs], .agg #[.int .u64 0, .int .u64 (ta : Int), .int .u64 (tb : Int), .int .i64 0, .int .i64 0, .slice none 0 0]] w' fun e w'' => e = .returned (.bool (visB 1 T own xmax R ta tb)) ∧ Below w'.heap.size w' w'' := fun w' ta tb hb =>
                      vis_any w' g 1 own xmin xmax ta tb _ T R F' _ (DV.kp.log.below hb) (own_below rV hb) hRl
                    have HR7 : ∀ w', Below V.heap.size V w' → w'.ownsRow w1.heap.size 71 6 (.slice A13 N13 c13) D.length (D.flatMap tpc) := fun w' hb => own_below DV.dead hb
                    replace HS := Lib.hid HS
                    replace HVI := Lib.hid HVI
                    replace HR7 := Lib.hid HR7
                    have HDV := Lib.hid DV
                    clear DV bV rV s0 s1 s2 s3 ix2 hRl
                    go_wp2
                    go_loopw [152] (fun jv wr => ∃ (m : Nat), m ≤ N13 ∧ jv = .int .i64 (m : Int) ∧ Below V.heap.size V wr) (fun jv _ => N13 - (intOf jv).toNat)
                    case atStart => exact ⟨0, Nat.zero_le _, rfl, Below.refl _ _⟩
                    case round =>
                      obtain ⟨m, hm, rfl, x2⟩ := hrel
                      by_cases hm7 : m < N13
                      · obtain ⟨A', c', hv, _, _, hr⟩ := own_form (HR7.out _ x2)
                        injection hv with e1 e2 e3
                        subst e1 e3
                        have hml : m < D.length := by rw [← HN13.out]; exact hm7
                        obtain ⟨ad7, rfl, t0, t1, t2, t3, t4, t5⟩ := tp_at hr hml
                        have ix7 := idx_tp ad7 N13 c13 m hm7
                        have hdt := HDD.out D[m] (List.getElem_mem hml)
                        generalize D[m] = tt at *
                        obtain ⟨ta, tb⟩ := tt
                        have hdt : deadB 1 S ta tb hz = true := hdt
                        have t1 : wr.cell? ⟨(ad7.add (m * 6)).block, (ad7.add (m * 6)).off + 1, none⟩ = some (.int .u64 (ta : Int)) := t1
                        have t2 : wr.cell? ⟨(ad7.add (m * 6)).block, (ad7.add (m * 6)).off + 2, none⟩ = some (.int .u64 (tb : Int)) := t2
                        have HDT := Lib.hid hdt
                        have x3 : Below V.heap.size V (wr.alloc (.cells #[.int .u64 0, .int .u64 (ta : Int), .int .u64 (tb : Int), .int .i64 0, .int .i64 0, .slice none 0 0] 71)) := x2.al _
                        have bT := Bx.new wr 71 #[.int .u64 0, .int .u64 (ta : Int), .int .u64 (tb : Int), .int .i64 0, .int .i64 0, .slice none 0 0] [.int .u64 0, .int .u64 (ta : Int), .int .u64 (tb : Int), .int .i64 0, .int .i64 0, .slice none 0 0] rfl
                        clear hr e2 hdt
                        go_upto_region 41 with fail
                        clear t0 t1 t2 t3 t4 t5
                        generalize wr.alloc (.cells #[.int .u64 0, .int .u64 (ta : Int), .int .u64 (tb : Int), .int .i64 0, .int .i64 0, .slice none 0 0] 71) = W at *
                        generalize wr.heap.size = b7 at *
                        have x4d : Below W.heap.size W W.drew := below_n W 1
                        have HS2 : ∀ w', Below W.heap.size W w' → (w'.cell? ⟨p, 0, none⟩ = some (.pointer (some ⟨g, 0, none⟩)) ∧ w'.cell? ⟨b9, 0, none⟩ = some (.int .u64 (own : Int)) ∧ w'.cell? ⟨b9, 1, none⟩ = some (.int .u64 (xmin : Int)) ∧ w'.cell? ⟨b9, 2, none⟩ = some (.int .u64 (xmax : Int)) ∧ w'.cell? ⟨b9, 3, none⟩ = some (.slice As R.length cs) ∧ w'.cell? ⟨b7, 0, none⟩ = some (.int .u64 0) ∧ w'.cell? ⟨b7, 1, none⟩ = some (.int .u64 (ta : Int)) ∧ w'.cell? ⟨b7, 2, none⟩ = some (.int .u64 (tb : Int)) ∧ w'.cell? ⟨b7, 3, none⟩ = some (.int .i64 0) ∧ w'.cell? ⟨b7, 4, none⟩ = some (.int .i64 0) ∧ w'.cell? ⟨b7, 5, none⟩ = some (.slice none 0 0)) := fun w' hb => by
                          obtain ⟨h1, h2, h3, h4, h5⟩ := HS.out _ (x3.next hb)
                          exact ⟨h1, h2, h3, h4, h5, (bT.below hb).cell 0, (bT.below hb).cell 1, (bT.below hb).cell 2, (bT.below hb).cell 3, (bT.below hb).cell 4, (bT.below hb).cell 5⟩
                        replace HS2 := Lib.hid HS2
                        have hS0 := HS2.out _ x4d
                        by_cases hta : ta = own
                        · have hb1 : ((ta : Int) != (own : Int)) = false := by rw [hta]; simp
                          clear hta
                          refine wp_region_held_drew (S := (fun w' => w'.cell? ⟨p, 0, none⟩ = some (.pointer (some ⟨g, 0, none⟩)) ∧ w'.cell? ⟨b9, 0, none⟩ = some (.int .u64 (own : Int)) ∧ w'.cell? ⟨b9, 1, none⟩ = some (.int .u64 (xmin : Int)) ∧ w'.cell? ⟨b9, 2, none⟩ = some (.int .u64 (xmax : Int)) ∧ w'.cell? ⟨b9, 3, none⟩ = some (.slice As R.length cs) ∧ w'.cell? ⟨b7, 0, none⟩ = some (.int .u64 0) ∧ w'.cell? ⟨b7, 1, none⟩ = some (.int .u64 (ta : Int)) ∧ w'.cell? ⟨b7, 2, none⟩ = some (.int .u64 (tb : Int)) ∧ w'.cell? ⟨b7, 3, none⟩ = some (.int .i64 0) ∧ w'.cell? ⟨b7, 4, none⟩ = some (.int .i64 0) ∧ w'.cell? ⟨b7, 5, none⟩ = some (.slice none 0 0))) (by kernel_rfl) ?_ (fun hHeld => ?_)
                          · first | assumption
                          refine wpAnyH_take (i := 0) (oi := { dst := some 156, op := Go.Op.fieldAddr 71 (Go.Operand.tmp 24) 1, type := 0, pos := "law.go:187", after := #[], guard := none }) (v := ?v28) rfl (by kernel_rfl) (by kernel_rfl) (by kernel_rfl) (fun _ _ _ h => h) (Or.inl ⟨by rfl, ?hy28⟩) (by assumption) ?rest28
                          case hy28 => (intro w' hSw; (try dsimp only at hSw); go_simp <;> with_reducible rfl)
                          (try simp only [Act.put, List.setIfInBounds_toArray, List.set_cons_zero, List.set_cons_succ])
                          refine wpAnyH_take (i := 1) (oi := { dst := some 157, op := Go.Op.load 22 (Go.Operand.tmp 156), type := 22, pos := "law.go:187", after := #[{ on := 0, ground := Go.Ground.data }], guard := none }) (v := ?v29) rfl (by kernel_rfl) (by kernel_rfl) (by kernel_rfl) (fun _ _ _ h => h) (Or.inl ⟨by rfl, ?hy29⟩) (by assumption) ?rest29
                          case hy29 => (intro w' hSw; (try dsimp only at hSw); go_simp <;> with_reducible rfl)
                          (try simp only [Act.put, List.setIfInBounds_toArray, List.set_cons_zero, List.set_cons_succ])
                          refine wpAnyH_take (i := 2) (oi := { dst := some 158, op := Go.Op.fieldAddr 76 (Go.Operand.tmp 22) 0, type := 0, pos := "law.go:187", after := #[], guard := none }) (v := ?v30) rfl (by kernel_rfl) (by kernel_rfl) (by kernel_rfl) (fun _ _ _ h => h) (Or.inl ⟨by rfl, ?hy30⟩) (by assumption) ?rest30
                          case hy30 => (intro w' hSw; (try dsimp only at hSw); go_simp <;> with_reducible rfl)
                          (try simp only [Act.put, List.setIfInBounds_toArray, List.set_cons_zero, List.set_cons_succ])
                          refine wpAnyH_take (i := 3) (oi := { dst := some 159, op := Go.Op.load 22 (Go.Operand.tmp 158), type := 22, pos := "law.go:187", after := #[{ on := 2, ground := Go.Ground.data }], guard := none }) (v := ?v31) rfl (by kernel_rfl) (by kernel_rfl) (by kernel_rfl) (fun _ _ _ h => h) (Or.inl ⟨by rfl, ?hy31⟩) (by assumption) ?rest31
                          case hy31 => (intro w' hSw; (try dsimp only at hSw); go_simp <;> with_reducible rfl)
                          (try simp only [Act.put, List.setIfInBounds_toArray, List.set_cons_zero, List.set_cons_succ])
                          refine wpAnyH_take (i := 4) (oi := { dst := some 160, op := Go.Op.binOp Go.BinOp.neq 22 (Go.Operand.tmp 157) (Go.Operand.tmp 159) 22, type := 4, pos := "law.go:187", after := #[{ on := 1, ground := Go.Ground.data }, { on := 3, ground := Go.Ground.data }], guard := none }) (v := ?v32) rfl (by kernel_rfl) (by kernel_rfl) (by kernel_rfl) (fun _ _ _ h => h) (Or.inl ⟨by rfl, ?hy32⟩) (by assumption) ?rest32
                          case hy32 => (intro w' hSw; (try dsimp only at hSw); go_simp <;> with_reducible rfl)
                          (try simp only [Act.put, List.setIfInBounds_toArray, List.set_cons_zero, List.set_cons_succ])
                          refine wpAnyH_take (i := 5) (oi := { dst := some 161, op := Go.Op.move (Go.Operand.tmp 160), type := 4, pos := "law.go:187", after := #[{ on := 4, ground := Go.Ground.data }], guard := none }) (v := ?v33) rfl (by kernel_rfl) (by kernel_rfl) (by kernel_rfl) (fun _ _ _ h => h) (Or.inl ⟨by rfl, ?hy33⟩) (by assumption) ?rest33
                          case hy33 => (intro w' hSw; (try dsimp only at hSw); go_simp <;> with_reducible rfl)
                          (try simp only [Act.put, List.setIfInBounds_toArray, List.set_cons_zero, List.set_cons_succ])
                          refine wpAnyH_take (i := 6) (oi := { dst := some 162, op := Go.Op.fieldAddr 71 (Go.Operand.tmp 24) 2, type := 0, pos := "law.go:187", after := #[{ on := 5, ground := Go.Ground.guard }], guard := some (5, true) }) (v := undef) rfl (by kernel_rfl) (by kernel_rfl) (by kernel_rfl) (fun _ _ _ h => h) (Or.inr ⟨by rfl, rfl⟩) (by assumption) ?_
                          (try simp only [Act.put, List.setIfInBounds_toArray, List.set_cons_zero, List.set_cons_succ])
                          refine wpAnyH_take (i := 7) (oi := { dst := some 163, op := Go.Op.load 22 (Go.Operand.tmp 162), type := 22, pos := "law.go:187", after := #[{ on := 6, ground := Go.Ground.data }, { on := 5, ground := Go.Ground.guard }], guard := some (5, true) }) (v := undef) rfl (by kernel_rfl) (by kernel_rfl) (by kernel_rfl) (fun _ _ _ h => h) (Or.inr ⟨by rfl, rfl⟩) (by assumption) ?_
                          (try simp only [Act.put, List.setIfInBounds_toArray, List.set_cons_zero, List.set_cons_succ])
                          refine wpAnyH_take (i := 8) (oi := { dst := some 164, op := Go.Op.fieldAddr 76 (Go.Operand.tmp 22) 0, type := 0, pos := "law.go:187", after := #[{ on := 5, ground := Go.Ground.guard }], guard := some (5, true) }) (v := undef) rfl (by kernel_rfl) (by kernel_rfl) (by kernel_rfl) (fun _ _ _ h => h) (Or.inr ⟨by rfl, rfl⟩) (by assumption) ?_
                          (try simp only [Act.put, List.setIfInBounds_toArray, List.set_cons_zero, List.set_cons_succ])
                          refine wpAnyH_take (i := 9) (oi := { dst := some 165, op := Go.Op.load 22 (Go.Operand.tmp 164), type := 22, pos := "law.go:187", after := #[{ on := 8, ground := Go.Ground.data }, { on := 5, ground := Go.Ground.guard }], guard := some (5, true) }) (v := undef) rfl (by kernel_rfl) (by kernel_rfl) (by kernel_rfl) (fun _ _ _ h => h) (Or.inr ⟨by rfl, rfl⟩) (by assumption) ?_
                          (try simp only [Act.put, List.setIfInBounds_toArray, List.set_cons_zero, List.set_cons_succ])
                          refine wpAnyH_take (i := 10) (oi := { dst := some 166, op := Go.Op.binOp Go.BinOp.neq 22 (Go.Operand.tmp 163) (Go.Operand.tmp 165) 22, type := 4, pos := "law.go:187", after := #[{ on := 7, ground := Go.Ground.data }, { on := 9, ground := Go.Ground.data }, { on := 5, ground := Go.Ground.guard }], guard := some (5, true) }) (v := undef) rfl (by kernel_rfl) (by kernel_rfl) (by kernel_rfl) (fun _ _ _ h => h) (Or.inr ⟨by rfl, rfl⟩) (by assumption) ?_
                          (try simp only [Act.put, List.setIfInBounds_toArray, List.set_cons_zero, List.set_cons_succ])
                          refine wpAnyH_take (i := 11) (oi := { dst := some 167, op := Go.Op.pick (Go.Operand.tmp 161) (Go.Operand.tmp 166) (Go.Operand.const (Go.Value.bool false)), type := 4, pos := "law.go:187", after := #[{ on := 5, ground := Go.Ground.data }, { on := 10, ground := Go.Ground.data }], guard := none }) (v := ?v34) rfl (by kernel_rfl) (by kernel_rfl) (by kernel_rfl) (fun _ _ _ h => h) (Or.inl ⟨by rfl, ?hy34⟩) (by assumption) ?rest34
                          case hy34 => (intro w' hSw; (try dsimp only at hSw); go_simp <;> with_reducible rfl)
                          (try simp only [Act.put, List.setIfInBounds_toArray, List.set_cons_zero, List.set_cons_succ])
                          refine wpAnyH_take (i := 12) (oi := { dst := some 168, op := Go.Op.move (Go.Operand.tmp 167), type := 4, pos := "law.go:187", after := #[{ on := 11, ground := Go.Ground.data }, { on := 5, ground := Go.Ground.chain }], guard := none }) (v := ?v35) rfl (by kernel_rfl) (by kernel_rfl) (by kernel_rfl) (fun _ _ _ h => h) (Or.inl ⟨by rfl, ?hy35⟩) (by assumption) ?rest35
                          case hy35 => (intro w' hSw; (try dsimp only at hSw); go_simp <;> with_reducible rfl)
                          (try simp only [Act.put, List.setIfInBounds_toArray, List.set_cons_zero, List.set_cons_succ])
                          refine wpAnyH_take (i := 13) (oi := { dst := some 169, op := Go.Op.move (Go.Operand.tmp 7), type := 58, pos := "law.go:187", after := #[{ on := 12, ground := Go.Ground.guard }], guard := some (12, true) }) (v := undef) rfl (by kernel_rfl) (by kernel_rfl) (by kernel_rfl) (fun _ _ _ h => h) (Or.inr ⟨by rfl, rfl⟩) (by assumption) ?_
                          (try simp only [Act.put, List.setIfInBounds_toArray, List.set_cons_zero, List.set_cons_succ])
                          refine wpAnyH_take (i := 14) (oi := { dst := some 170, op := Go.Op.nilCheck (Go.Operand.tmp 169), type := 0, pos := "law.go:187", after := #[{ on := 13, ground := Go.Ground.data }, { on := 12, ground := Go.Ground.guard }], guard := some (12, true) }) (v := undef) rfl (by kernel_rfl) (by kernel_rfl) (by kernel_rfl) (fun _ _ _ h => h) (Or.inr ⟨by rfl, rfl⟩) (by assumption) ?_
                          (try simp only [Act.put, List.setIfInBounds_toArray, List.set_cons_zero, List.set_cons_succ])
                          refine wpAnyH_take (i := 15) (oi := { dst := some 171, op := Go.Op.fieldAddr 65 (Go.Operand.tmp 170) 0, type := 0, pos := "law.go:187", after := #[{ on := 14, ground := Go.Ground.data }, { on := 12, ground := Go.Ground.guard }], guard := some (12, true) }) (v := undef) rfl (by kernel_rfl) (by kernel_rfl) (by kernel_rfl) (fun _ _ _ h => h) (Or.inr ⟨by rfl, rfl⟩) (by assumption) ?_
                          (try simp only [Act.put, List.setIfInBounds_toArray, List.set_cons_zero, List.set_cons_succ])
                          refine wpAnyH_take (i := 16) (oi := { dst := some 172, op := Go.Op.load 25 (Go.Operand.tmp 171), type := 25, pos := "law.go:187", after := #[{ on := 15, ground := Go.Ground.data }, { on := 12, ground := Go.Ground.guard }], guard := some (12, true) }) (v := undef) rfl (by kernel_rfl) (by kernel_rfl) (by kernel_rfl) (fun _ _ _ h => h) (Or.inr ⟨by rfl, rfl⟩) (by assumption) ?_
                          (try simp only [Act.put, List.setIfInBounds_toArray, List.set_cons_zero, List.set_cons_succ])
                          refine wpAnyH_take (i := 17) (oi := { dst := some 173, op := Go.Op.load 76 (Go.Operand.tmp 22), type := 76, pos := "law.go:187", after := #[{ on := 12, ground := Go.Ground.guard }], guard := some (12, true) }) (v := undef) rfl (by kernel_rfl) (by kernel_rfl) (by kernel_rfl) (fun _ _ _ h => h) (Or.inr ⟨by rfl, rfl⟩) (by assumption) ?_
                          (try simp only [Act.put, List.setIfInBounds_toArray, List.set_cons_zero, List.set_cons_succ])
                          refine wpAnyH_take (i := 18) (oi := { dst := some 174, op := Go.Op.load 71 (Go.Operand.tmp 24), type := 71, pos := "law.go:187", after := #[{ on := 12, ground := Go.Ground.guard }], guard := some (12, true) }) (v := undef) rfl (by kernel_rfl) (by kernel_rfl) (by kernel_rfl) (fun _ _ _ h => h) (Or.inr ⟨by rfl, rfl⟩) (by assumption) ?_
                          (try simp only [Act.put, List.setIfInBounds_toArray, List.set_cons_zero, List.set_cons_succ])
                          refine wpAnyH_take (i := 19) (oi := { dst := some 175, op := Go.Op.call { callee := Go.Callee.value (Go.Operand.func 36), args := #[Go.Operand.tmp 172, Go.Operand.tmp 173, Go.Operand.tmp 174], argTypes := #[25, 76, 71] }, type := 4, pos := "law.go:187", after := #[{ on := 16, ground := Go.Ground.data }, { on := 17, ground := Go.Ground.data }, { on := 18, ground := Go.Ground.data }, { on := 12, ground := Go.Ground.chain }, { on := 12, ground := Go.Ground.guard }], guard := some (12, true) }) (v := undef) rfl (by kernel_rfl) (by kernel_rfl) (by kernel_rfl) (fun _ _ _ h => h) (Or.inr ⟨by rfl, rfl⟩) (by assumption) ?_
                          (try simp only [Act.put, List.setIfInBounds_toArray, List.set_cons_zero, List.set_cons_succ])
                          refine wpAnyH_take (i := 20) (oi := { dst := some 176, op := Go.Op.pick (Go.Operand.tmp 168) (Go.Operand.tmp 175) (Go.Operand.const (Go.Value.bool false)), type := 4, pos := "law.go:187", after := #[{ on := 12, ground := Go.Ground.data }, { on := 19, ground := Go.Ground.data }], guard := none }) (v := ?v36) rfl (by kernel_rfl) (by kernel_rfl) (by kernel_rfl) (fun _ _ _ h => h) (Or.inl ⟨by rfl, ?hy36⟩) (by assumption) ?rest36
                          case hy36 => (intro w' hSw; (try dsimp only at hSw); go_simp <;> with_reducible rfl)
                          (try simp only [Act.put, List.setIfInBounds_toArray, List.set_cons_zero, List.set_cons_succ])
                          refine wpAnyH_done (by kernel_rfl) ?_ _
                          go_wp2_with fail
                          go_roundw
                          case rel => exact ⟨m + 1, by omega, by go_num, x3.next x4d⟩
                          case measure => simp [intOf]; omega
                        · have hb1 : ((ta : Int) != (own : Int)) = true := by simp; omega
                          by_cases htb : tb = own
                          · have hb2 : ((tb : Int) != (own : Int)) = false := by rw [htb]; simp
                            clear hta htb
                            refine wp_region_held_drew (S := (fun w' => w'.cell? ⟨p, 0, none⟩ = some (.pointer (some ⟨g, 0, none⟩)) ∧ w'.cell? ⟨b9, 0, none⟩ = some (.int .u64 (own : Int)) ∧ w'.cell? ⟨b9, 1, none⟩ = some (.int .u64 (xmin : Int)) ∧ w'.cell? ⟨b9, 2, none⟩ = some (.int .u64 (xmax : Int)) ∧ w'.cell? ⟨b9, 3, none⟩ = some (.slice As R.length cs) ∧ w'.cell? ⟨b7, 0, none⟩ = some (.int .u64 0) ∧ w'.cell? ⟨b7, 1, none⟩ = some (.int .u64 (ta : Int)) ∧ w'.cell? ⟨b7, 2, none⟩ = some (.int .u64 (tb : Int)) ∧ w'.cell? ⟨b7, 3, none⟩ = some (.int .i64 0) ∧ w'.cell? ⟨b7, 4, none⟩ = some (.int .i64 0) ∧ w'.cell? ⟨b7, 5, none⟩ = some (.slice none 0 0))) (by kernel_rfl) ?_ (fun hHeld => ?_)
                            · first | assumption
                            refine wpAnyH_take (i := 0) (oi := { dst := some 156, op := Go.Op.fieldAddr 71 (Go.Operand.tmp 24) 1, type := 0, pos := "law.go:187", after := #[], guard := none }) (v := ?v37) rfl (by kernel_rfl) (by kernel_rfl) (by kernel_rfl) (fun _ _ _ h => h) (Or.inl ⟨by rfl, ?hy37⟩) (by assumption) ?rest37
                            case hy37 => (intro w' hSw; (try dsimp only at hSw); go_simp <;> with_reducible rfl)
                            (try simp only [Act.put, List.setIfInBounds_toArray, List.set_cons_zero, List.set_cons_succ])
                            refine wpAnyH_take (i := 1) (oi := { dst := some 157, op := Go.Op.load 22 (Go.Operand.tmp 156), type := 22, pos := "law.go:187", after := #[{ on := 0, ground := Go.Ground.data }], guard := none }) (v := ?v38) rfl (by kernel_rfl) (by kernel_rfl) (by kernel_rfl) (fun _ _ _ h => h) (Or.inl ⟨by rfl, ?hy38⟩) (by assumption) ?rest38
                            case hy38 => (intro w' hSw; (try dsimp only at hSw); go_simp <;> with_reducible rfl)
                            (try simp only [Act.put, List.setIfInBounds_toArray, List.set_cons_zero, List.set_cons_succ])
                            refine wpAnyH_take (i := 2) (oi := { dst := some 158, op := Go.Op.fieldAddr 76 (Go.Operand.tmp 22) 0, type := 0, pos := "law.go:187", after := #[], guard := none }) (v := ?v39) rfl (by kernel_rfl) (by kernel_rfl) (by kernel_rfl) (fun _ _ _ h => h) (Or.inl ⟨by rfl, ?hy39⟩) (by assumption) ?rest39
                            case hy39 => (intro w' hSw; (try dsimp only at hSw); go_simp <;> with_reducible rfl)
                            (try simp only [Act.put, List.setIfInBounds_toArray, List.set_cons_zero, List.set_cons_succ])
                            refine wpAnyH_take (i := 3) (oi := { dst := some 159, op := Go.Op.load 22 (Go.Operand.tmp 158), type := 22, pos := "law.go:187", after := #[{ on := 2, ground := Go.Ground.data }], guard := none }) (v := ?v40) rfl (by kernel_rfl) (by kernel_rfl) (by kernel_rfl) (fun _ _ _ h => h) (Or.inl ⟨by rfl, ?hy40⟩) (by assumption) ?rest40
                            case hy40 => (intro w' hSw; (try dsimp only at hSw); go_simp <;> with_reducible rfl)
                            (try simp only [Act.put, List.setIfInBounds_toArray, List.set_cons_zero, List.set_cons_succ])
                            refine wpAnyH_take (i := 4) (oi := { dst := some 160, op := Go.Op.binOp Go.BinOp.neq 22 (Go.Operand.tmp 157) (Go.Operand.tmp 159) 22, type := 4, pos := "law.go:187", after := #[{ on := 1, ground := Go.Ground.data }, { on := 3, ground := Go.Ground.data }], guard := none }) (v := ?v41) rfl (by kernel_rfl) (by kernel_rfl) (by kernel_rfl) (fun _ _ _ h => h) (Or.inl ⟨by rfl, ?hy41⟩) (by assumption) ?rest41
                            case hy41 => (intro w' hSw; (try dsimp only at hSw); go_simp <;> with_reducible rfl)
                            (try simp only [Act.put, List.setIfInBounds_toArray, List.set_cons_zero, List.set_cons_succ])
                            refine wpAnyH_take (i := 5) (oi := { dst := some 161, op := Go.Op.move (Go.Operand.tmp 160), type := 4, pos := "law.go:187", after := #[{ on := 4, ground := Go.Ground.data }], guard := none }) (v := ?v42) rfl (by kernel_rfl) (by kernel_rfl) (by kernel_rfl) (fun _ _ _ h => h) (Or.inl ⟨by rfl, ?hy42⟩) (by assumption) ?rest42
                            case hy42 => (intro w' hSw; (try dsimp only at hSw); go_simp <;> with_reducible rfl)
                            (try simp only [Act.put, List.setIfInBounds_toArray, List.set_cons_zero, List.set_cons_succ])
                            refine wpAnyH_take (i := 6) (oi := { dst := some 162, op := Go.Op.fieldAddr 71 (Go.Operand.tmp 24) 2, type := 0, pos := "law.go:187", after := #[{ on := 5, ground := Go.Ground.guard }], guard := some (5, true) }) (v := ?v43) rfl (by kernel_rfl) (by kernel_rfl) (by kernel_rfl) (fun _ _ _ h => h) (Or.inl ⟨by rfl, ?hy43⟩) (by assumption) ?rest43
                            case hy43 => (intro w' hSw; (try dsimp only at hSw); go_simp <;> with_reducible rfl)
                            (try simp only [Act.put, List.setIfInBounds_toArray, List.set_cons_zero, List.set_cons_succ])
                            refine wpAnyH_take (i := 7) (oi := { dst := some 163, op := Go.Op.load 22 (Go.Operand.tmp 162), type := 22, pos := "law.go:187", after := #[{ on := 6, ground := Go.Ground.data }, { on := 5, ground := Go.Ground.guard }], guard := some (5, true) }) (v := ?v44) rfl (by kernel_rfl) (by kernel_rfl) (by kernel_rfl) (fun _ _ _ h => h) (Or.inl ⟨by rfl, ?hy44⟩) (by assumption) ?rest44
                            case hy44 => (intro w' hSw; (try dsimp only at hSw); go_simp <;> with_reducible rfl)
                            (try simp only [Act.put, List.setIfInBounds_toArray, List.set_cons_zero, List.set_cons_succ])
                            refine wpAnyH_take (i := 8) (oi := { dst := some 164, op := Go.Op.fieldAddr 76 (Go.Operand.tmp 22) 0, type := 0, pos := "law.go:187", after := #[{ on := 5, ground := Go.Ground.guard }], guard := some (5, true) }) (v := ?v45) rfl (by kernel_rfl) (by kernel_rfl) (by kernel_rfl) (fun _ _ _ h => h) (Or.inl ⟨by rfl, ?hy45⟩) (by assumption) ?rest45
                            case hy45 => (intro w' hSw; (try dsimp only at hSw); go_simp <;> with_reducible rfl)
                            (try simp only [Act.put, List.setIfInBounds_toArray, List.set_cons_zero, List.set_cons_succ])
                            refine wpAnyH_take (i := 9) (oi := { dst := some 165, op := Go.Op.load 22 (Go.Operand.tmp 164), type := 22, pos := "law.go:187", after := #[{ on := 8, ground := Go.Ground.data }, { on := 5, ground := Go.Ground.guard }], guard := some (5, true) }) (v := ?v46) rfl (by kernel_rfl) (by kernel_rfl) (by kernel_rfl) (fun _ _ _ h => h) (Or.inl ⟨by rfl, ?hy46⟩) (by assumption) ?rest46
                            case hy46 => (intro w' hSw; (try dsimp only at hSw); go_simp <;> with_reducible rfl)
                            (try simp only [Act.put, List.setIfInBounds_toArray, List.set_cons_zero, List.set_cons_succ])
                            refine wpAnyH_take (i := 10) (oi := { dst := some 166, op := Go.Op.binOp Go.BinOp.neq 22 (Go.Operand.tmp 163) (Go.Operand.tmp 165) 22, type := 4, pos := "law.go:187", after := #[{ on := 7, ground := Go.Ground.data }, { on := 9, ground := Go.Ground.data }, { on := 5, ground := Go.Ground.guard }], guard := some (5, true) }) (v := ?v47) rfl (by kernel_rfl) (by kernel_rfl) (by kernel_rfl) (fun _ _ _ h => h) (Or.inl ⟨by rfl, ?hy47⟩) (by assumption) ?rest47
                            case hy47 => (intro w' hSw; (try dsimp only at hSw); go_simp <;> with_reducible rfl)
                            (try simp only [Act.put, List.setIfInBounds_toArray, List.set_cons_zero, List.set_cons_succ])
                            refine wpAnyH_take (i := 11) (oi := { dst := some 167, op := Go.Op.pick (Go.Operand.tmp 161) (Go.Operand.tmp 166) (Go.Operand.const (Go.Value.bool false)), type := 4, pos := "law.go:187", after := #[{ on := 5, ground := Go.Ground.data }, { on := 10, ground := Go.Ground.data }], guard := none }) (v := ?v48) rfl (by kernel_rfl) (by kernel_rfl) (by kernel_rfl) (fun _ _ _ h => h) (Or.inl ⟨by rfl, ?hy48⟩) (by assumption) ?rest48
                            case hy48 => (intro w' hSw; (try dsimp only at hSw); go_simp <;> with_reducible rfl)
                            (try simp only [Act.put, List.setIfInBounds_toArray, List.set_cons_zero, List.set_cons_succ])
                            refine wpAnyH_take (i := 12) (oi := { dst := some 168, op := Go.Op.move (Go.Operand.tmp 167), type := 4, pos := "law.go:187", after := #[{ on := 11, ground := Go.Ground.data }, { on := 5, ground := Go.Ground.chain }], guard := none }) (v := ?v49) rfl (by kernel_rfl) (by kernel_rfl) (by kernel_rfl) (fun _ _ _ h => h) (Or.inl ⟨by rfl, ?hy49⟩) (by assumption) ?rest49
                            case hy49 => (intro w' hSw; (try dsimp only at hSw); go_simp <;> with_reducible rfl)
                            (try simp only [Act.put, List.setIfInBounds_toArray, List.set_cons_zero, List.set_cons_succ])
                            refine wpAnyH_take (i := 13) (oi := { dst := some 169, op := Go.Op.move (Go.Operand.tmp 7), type := 58, pos := "law.go:187", after := #[{ on := 12, ground := Go.Ground.guard }], guard := some (12, true) }) (v := undef) rfl (by kernel_rfl) (by kernel_rfl) (by kernel_rfl) (fun _ _ _ h => h) (Or.inr ⟨by rfl, rfl⟩) (by assumption) ?_
                            (try simp only [Act.put, List.setIfInBounds_toArray, List.set_cons_zero, List.set_cons_succ])
                            refine wpAnyH_take (i := 14) (oi := { dst := some 170, op := Go.Op.nilCheck (Go.Operand.tmp 169), type := 0, pos := "law.go:187", after := #[{ on := 13, ground := Go.Ground.data }, { on := 12, ground := Go.Ground.guard }], guard := some (12, true) }) (v := undef) rfl (by kernel_rfl) (by kernel_rfl) (by kernel_rfl) (fun _ _ _ h => h) (Or.inr ⟨by rfl, rfl⟩) (by assumption) ?_
                            (try simp only [Act.put, List.setIfInBounds_toArray, List.set_cons_zero, List.set_cons_succ])
                            refine wpAnyH_take (i := 15) (oi := { dst := some 171, op := Go.Op.fieldAddr 65 (Go.Operand.tmp 170) 0, type := 0, pos := "law.go:187", after := #[{ on := 14, ground := Go.Ground.data }, { on := 12, ground := Go.Ground.guard }], guard := some (12, true) }) (v := undef) rfl (by kernel_rfl) (by kernel_rfl) (by kernel_rfl) (fun _ _ _ h => h) (Or.inr ⟨by rfl, rfl⟩) (by assumption) ?_
                            (try simp only [Act.put, List.setIfInBounds_toArray, List.set_cons_zero, List.set_cons_succ])
                            refine wpAnyH_take (i := 16) (oi := { dst := some 172, op := Go.Op.load 25 (Go.Operand.tmp 171), type := 25, pos := "law.go:187", after := #[{ on := 15, ground := Go.Ground.data }, { on := 12, ground := Go.Ground.guard }], guard := some (12, true) }) (v := undef) rfl (by kernel_rfl) (by kernel_rfl) (by kernel_rfl) (fun _ _ _ h => h) (Or.inr ⟨by rfl, rfl⟩) (by assumption) ?_
                            (try simp only [Act.put, List.setIfInBounds_toArray, List.set_cons_zero, List.set_cons_succ])
                            refine wpAnyH_take (i := 17) (oi := { dst := some 173, op := Go.Op.load 76 (Go.Operand.tmp 22), type := 76, pos := "law.go:187", after := #[{ on := 12, ground := Go.Ground.guard }], guard := some (12, true) }) (v := undef) rfl (by kernel_rfl) (by kernel_rfl) (by kernel_rfl) (fun _ _ _ h => h) (Or.inr ⟨by rfl, rfl⟩) (by assumption) ?_
                            (try simp only [Act.put, List.setIfInBounds_toArray, List.set_cons_zero, List.set_cons_succ])
                            refine wpAnyH_take (i := 18) (oi := { dst := some 174, op := Go.Op.load 71 (Go.Operand.tmp 24), type := 71, pos := "law.go:187", after := #[{ on := 12, ground := Go.Ground.guard }], guard := some (12, true) }) (v := undef) rfl (by kernel_rfl) (by kernel_rfl) (by kernel_rfl) (fun _ _ _ h => h) (Or.inr ⟨by rfl, rfl⟩) (by assumption) ?_
                            (try simp only [Act.put, List.setIfInBounds_toArray, List.set_cons_zero, List.set_cons_succ])
                            refine wpAnyH_take (i := 19) (oi := { dst := some 175, op := Go.Op.call { callee := Go.Callee.value (Go.Operand.func 36), args := #[Go.Operand.tmp 172, Go.Operand.tmp 173, Go.Operand.tmp 174], argTypes := #[25, 76, 71] }, type := 4, pos := "law.go:187", after := #[{ on := 16, ground := Go.Ground.data }, { on := 17, ground := Go.Ground.data }, { on := 18, ground := Go.Ground.data }, { on := 12, ground := Go.Ground.chain }, { on := 12, ground := Go.Ground.guard }], guard := some (12, true) }) (v := undef) rfl (by kernel_rfl) (by kernel_rfl) (by kernel_rfl) (fun _ _ _ h => h) (Or.inr ⟨by rfl, rfl⟩) (by assumption) ?_
                            (try simp only [Act.put, List.setIfInBounds_toArray, List.set_cons_zero, List.set_cons_succ])
                            refine wpAnyH_take (i := 20) (oi := { dst := some 176, op := Go.Op.pick (Go.Operand.tmp 168) (Go.Operand.tmp 175) (Go.Operand.const (Go.Value.bool false)), type := 4, pos := "law.go:187", after := #[{ on := 12, ground := Go.Ground.data }, { on := 19, ground := Go.Ground.data }], guard := none }) (v := ?v50) rfl (by kernel_rfl) (by kernel_rfl) (by kernel_rfl) (fun _ _ _ h => h) (Or.inl ⟨by rfl, ?hy50⟩) (by assumption) ?rest50
                            case hy50 => (intro w' hSw; (try dsimp only at hSw); go_simp <;> with_reducible rfl)
                            (try simp only [Act.put, List.setIfInBounds_toArray, List.set_cons_zero, List.set_cons_succ])
                            refine wpAnyH_done (by kernel_rfl) ?_ _
                            go_wp2_with fail
                            go_roundw
                            case rel => exact ⟨m + 1, by omega, by go_num, x3.next x4d⟩
                            case measure => simp [intOf]; omega
                          · have hb2 : ((tb : Int) != (own : Int)) = true := by simp; omega
                            have hvi := HVI.out W.drew ta tb (x3.next x4d)
                            rw [HUN.out ta tb HDT.out hta htb] at hvi
                            have HVA := Lib.hid hvi
                            clear hvi hta htb
                            go_region_held3 (fun w' => (w'.cell? ⟨p, 0, none⟩ = some (.pointer (some ⟨g, 0, none⟩)) ∧ w'.cell? ⟨b9, 0, none⟩ = some (.int .u64 (own : Int)) ∧ w'.cell? ⟨b9, 1, none⟩ = some (.int .u64 (xmin : Int)) ∧ w'.cell? ⟨b9, 2, none⟩ = some (.int .u64 (xmax : Int)) ∧ w'.cell? ⟨b9, 3, none⟩ = some (.slice As R.length cs) ∧ w'.cell? ⟨b7, 0, none⟩ = some (.int .u64 0) ∧ w'.cell? ⟨b7, 1, none⟩ = some (.int .u64 (ta : Int)) ∧ w'.cell? ⟨b7, 2, none⟩ = some (.int .u64 (tb : Int)) ∧ w'.cell? ⟨b7, 3, none⟩ = some (.int .i64 0) ∧ w'.cell? ⟨b7, 4, none⟩ = some (.int .i64 0) ∧ w'.cell? ⟨b7, 5, none⟩ = some (.slice none 0 0))) (first | (with_reducible assumption) | (with_reducible exact HS2.out _ x4d) | (with_reducible exact HS2.out _ x8))
                              (first
                              | (go_at_call 36; (with_reducible refine (HVA.out).mono ?_); rintro e w8 ⟨rfl, hb8⟩; have x8 := x4d.next hb8))
                            go_wp2_with fail
                            go_roundw
                            case rel => exact ⟨m + 1, by omega, by go_num, x3.next x8⟩
                            case measure => simp [intOf]; omega
                      · obtain rfl : m = N13 := by omega
                        have D9 := HDV.out.below x2
                        go_wp2_with fail
                        go_roundw
                        case rel => exact ⟨k + 1, by omega, by go_num, D9⟩
                        case measure => simp [intOf]; omega
                  · obtain rfl : k = N9 := by omega
                    have hbel := hb1.trans (D7.kp.mine.below.mono hb1.size)
                    clear D7
                    go_wp2_with fail
                    go_ret
                    exact ⟨rfl, hbel⟩
end Go.Proofs.Ytjkjomooklhdbaa.snapDead
