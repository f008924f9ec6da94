/-
  HeapFree: the walk: the law answers true; of what was there nothing has turned.
-/
import Derived.Test.YtpnkmkenmpbekaaHeapV
import Derived.Test.YtpnkmkenmpbekaaDoorL
namespace Go.Proofs.Ytpnkmkenmpbekaa.heapFree
open Go.RowKit
set_option linter.unusedVariables false

def vF (l : List UInt8) (j : Nat) : Ver := vZ j ((l.getD j 0).toNat % 201)
set_option maxRecDepth 100000 in
set_option maxHeartbeats 4000000 in
theorem walk (A : Option Addr) (c : Nat) (l : List UInt8) (u : Int) (w : World) (hu : 0 ≤ u ∧ u < 256) (ha : Brd w A l) :
    Calls Try.prog 12 #[.slice A l.length c, .int .u8 u] w fun e w' => e = .returned (.bool true) ∧ Below w.heap.size w w' := by
  obtain ⟨i0, hi0, hz0, hz1, hz2⟩ := info_parts4 info_tid
  obtain ⟨hu1, hu2⟩ := hu
  have hum : ∀ m : Nat, u % (m : Int) = ((u.toNat % m : Nat) : Int) := fun m => by
    obtain ⟨x, rfl⟩ : ∃ x : Nat, u = (x : Int) := ⟨u.toNat, by omega⟩
    rw [Int.toNat_natCast]; omega
  have HUM := Lib.hid hum
  clear hum
  go_enter Try.func12, Try.ntmps12
  go_wp2_with fail
  refine (awake7_any w).mono ?_
  rintro e w1 ⟨rfl, hb1⟩
  go_wp2_with fail
  refine (newpool_any w1 256 (Nat.le_refl _)).mono ?_
  rintro e w2 ⟨rfl, hp2, hb2⟩
  go_wp2_with fail
  refine (hs_new (w0 := w) hp2 (hb1.next hb2) hb1.size).mono ?_
  rintro e w3 ⟨h, F0, rfl, J0, hb3⟩
  generalize w1.heap.size = p at *
  have HAR := Lib.hid (fun W (hW : Below w.heap.size w W) => Rd.below ha hW)
  clear hp2 hb2 hb1 hb3 ha
  go_wp2
  go_loopw [8, 28] (fun v iv wr => ∃ (k : Nat) (T : List (Nat × Nat)) (F : Nat → Prop) (Ps : List Pg) (n : Nat), k ≤ l.length ∧ k ≤ 30 ∧ iv = .int .i64 (k : Int) ∧ T.length = k ∧ Hs w wr h p F Ps n ∧ Ps.length + n = 256 ∧ Ps.length ≤ k ∧ Tids wr w.heap.size v T ∧ Lay T Ps (vF l)) (fun _ iv _ => l.length - (intOf iv).toNat)
  case atStart => exact ⟨0, [], F0, [], 256, Nat.zero_le _, by omega, rfl, rfl, J0, rfl, Nat.le_refl _, World.ownsRow_nil _ _ _ _, Lay.nil _⟩
  case round =>
    obtain ⟨k, T, F, Ps, n, hk, hk30, rfl, hT, J, h256, hPk, hTid, hL⟩ := hrel
    subst hT
    clear J0
    by_cases hend : T.length < l.length ∧ T.length < 30
    · obtain ⟨hlt, hlt30⟩ := hend
      have har : Brd wr A l := HAR.out wr J.below
      obtain ⟨ad, rfl, hcell⟩ := har.at_ (k := T.length) hlt
      have hx8 := (l[T.length]'hlt).toNat_lt
      have hvf : vF l T.length = vZ T.length ((l[T.length]'hlt).toNat % 201) := by unfold vF; rw [List.getD_eq_getElem?_getD, List.getElem?_eq_getElem hlt]; rfl
      generalize (l[T.length]'hlt).toNat = x at *
      have hx201 : (x : Int) % 201 = ((x % 201 : Nat) : Int) := by omega
      have hz : x % 201 ≤ 200 := by omega
      have hwk : IntKind.u64.wrap (T.length : Int) = (T.length : Int) := by (have hw : ∀ i : Int, IntKind.u64.wrap i = i % 18446744073709551616 := (fun _ => rfl)); rw [hw]; omega
      have hmk : ∀ W : World, (Instr.makeSlice 42 (.int .i64 ((x : Int) % 201)) (.int .i64 ((x : Int) % 201))).run Try.prog W = .ok (.slice (some ⟨W.heap.size, 0, none⟩) (x % 201) (x % 201)) (W.alloc (.cells (bcells (zer (x % 201))).toArray 5)) := fun W => by
        rw [hx201]
        have := run_make_row' (P := Try.prog) 42 5 (.int .u8 0) 1 Try.underlying42 info_u8 rfl .i64 .i64 (x % 201) (by omega) (by omega) W
        rw [made_zer] at this
        exact this
      have hok : (vZ T.length (x % 201)).ok := vZ_ok (by omega) hz
      have hE := hin_E0 (Ps := Ps) (n := n) hok (by omega)
      have JW := J.step ((Below.refl _ _).alloc (Nat.le_refl _) (.cells (bcells (zer (x % 201))).toArray 5))
      have oW := made_row wr (x % 201) w.heap.size hz J.below.size
      have tW := hTid.alloc (.cells (bcells (zer (x % 201))).toArray 5)
      have HI := Lib.hid (JW.insz (by omega) T.length (x % 201) _ _ oW)
      have HL := Lib.hid (hL.add hE hvf)
      have hput := (hin_put hE).2.2.2
      have hPl : (hinS Ps n (vZ T.length (x % 201))).length ≤ T.length + 1 := by
        have h2 := HI
        unfold hinS hinP
        rw [hE, if_pos rfl]
        cases hfind Ps (vZ T.length (x % 201)).d.length with
        | some i => show (Ps.set _ _).length ≤ _; rw [List.length_set]; omega
        | none => show (Ps ++ _).length ≤ _; simp; omega
      have HPl := Lib.hid hPl
      have HPU := Lib.hid hput
      clear hput hPl hL hTid har hx201 hvf J
      generalize bcells (zer (x % 201)) = bz at *
      generalize x % 201 = z at *
      go_wp2_with fail
      generalize wr.alloc (.cells bz.toArray 5) = W at *
      refine HI.out.mono ?_
      rintro e U ⟨he, F', I, f⟩
      rw [hE] at he
      subst he
      have tU : Tids U w.heap.size _ T := Hs.own JW f tW (by decide) (by decide) (by decide) (by decide) (by decide) (by decide)
      generalize hinS Ps n (vZ T.length z) = Ps2 at *
      generalize hinN Ps n (vZ T.length z) = n2 at *
      generalize hinX Ps n (vZ T.length z) = X at *
      have I2 := I.step ((Below.refl _ _).alloc (Nat.le_refl _) (.cells #[.int .i64 (X.1 : Int), .int .i64 (X.2 : Int)] 41))
      have I3 := I2.step ((Below.refl _ _).alloc (Nat.le_refl _) (.cells #[.int .i64 (X.1 : Int), .int .i64 (X.2 : Int)] 41))
      have t3 := (tU.alloc (.cells #[.int .i64 (X.1 : Int), .int .i64 (X.2 : Int)] 41)).alloc (.cells #[.int .i64 (X.1 : Int), .int .i64 (X.2 : Int)] 41)
      have hs3 := I3.below.size
      obtain ⟨q, cc, rfl, hq1, hq2, hq3⟩ := own_form tU
      clear I tU f JW tW HI I2
      go_wp2_with (at_builtin; refine wpList_append_src _ rfl (.tmp 50) (.tmp 52) 105 105 rfl w.heap.size 41 _ _ 2 16 Try.underlying105 hi0 hz0 hz1 hz2 rfl _ _ _ rfl t3 _ 1 (tidc [X]) rfl (src_rd Try.underlying105 _ (rd_lit (by first | rfl | simp) rfl rfl) (by decide) (tidc_one _)) (by simp only [maxLen]; omega) (by omega) hs3 ?_; intro v4 w4 ho4 hg4 ha4; obtain ⟨g4, c4, hv4, _, hn4, hm4⟩ := own_shape ho4 (by omega); subst hv4)
      have I4 := Hs.other I3 t3 hg4 (by decide) (by decide) (by decide) (by decide) (by decide) (by decide)
      have ho5 : Tids w4 w.heap.size (.slice (some ⟨g4, 0, none⟩) (T.length + 1) c4) (T ++ [X]) := by
        unfold Tids
        rw [tidc_append, List.length_append]
        exact ho4
      clear ho4 hg4 ha4 t3 I3
      go_roundw
      case rel => exact ⟨T.length + 1, T ++ [X], F', Ps2, n2, by omega, by omega, by go_num, by rw [List.length_append]; rfl, I4, by rw [HPU.out]; exact h256, HPl.out, ho5, HL.out⟩
      case measure => simp [intOf]; omega
    · rcases (show T.length = l.length ∨ (T.length < l.length ∧ ¬ T.length < 30) by omega) with hkl | ⟨hlt, h30⟩
      · have hnl : ¬ T.length < l.length := by omega
        clear hend hkl
        rcases Nat.eq_zero_or_pos T.length with hT0 | hT0
        · have hu0 := hL.used
          rw [hT0] at hu0
          have hus := J.used (by omega)
          rw [hu0] at hus
          have HUS := Lib.hid hus
          have hT0' : (T.length : Int) = 0 := by omega
          obtain ⟨q, cc, rfl, _, _, _⟩ := own_form hTid
          have hbJ := J.below
          clear hus hTid hL J hu0
          go_wp2_with (go_at_call 60; (with_reducible refine (HUS.out).mono ?_); rintro e w5 ⟨rfl, hw1⟩; have hw := hw1.symm; subst hw)
          go_ret
          exact ⟨rfl, hbJ⟩
        · obtain ⟨g, hg⟩ : ∃ g : Nat, g = u.toNat % T.length := ⟨_, rfl⟩
          have hgl : g < T.length := by rw [hg]; exact Nat.mod_lt _ hT0
          have hgm : u % (T.length : Int) = (g : Int) := by rw [hg]; exact HUM.out T.length
          have hTne : ((T.length : Int) == 0) = false := beq_eq_false_iff_ne.2 (by omega)
          have hT30 : T.length ≤ 30 := by omega
          clear hg
          obtain ⟨b, cc, rfl, hbb, hcc, hcm⟩ := own_shape hTid hT0
          have ix := idx_tid b T.length cc g hgl
          obtain ⟨k0, k1⟩ := hTid.at_ hgl
          obtain ⟨P, hP, hs, hput, husd⟩ := hfre_put (hL.at_ g T[g] (List.getElem?_eq_getElem hgl))
          have HF1 := Lib.hid (J.free_yes (by omega) T[g].1 (T[g].2 : Int) P hP hs)
          have hlt1 := (List.getElem?_eq_some_iff.1 hP).1
          have hat : ∀ (j : Nat) (hj : j < T.length), hget (Ps.set T[g].1 (freN P (T[g].2 : Int))) T[j] = if j = g then none else some (vF l j) := fun j hj => by
            rw [hput]
            have h1 := hL.at_ j T[j] (List.getElem?_eq_getElem hj)
            by_cases e : j = g
            · subst e; rw [if_pos rfl, if_pos rfl]
            · rw [if_neg e, if_neg (fun e2 => e (by
                have h2 := hL.at_ g T[g] (List.getElem?_eq_getElem hgl)
                rw [e2, h2] at h1
                injection h1 with h1
                have h3 : (vF l g).r = (vF l j).r := by rw [h1]
                exact (show g = j from h3).symm)), h1]
          have HAT := Lib.hid hat
          have husd' : usedL (Ps.set T[g].1 (freN P (T[g].2 : Int))) + 1 = T.length := husd.trans hL.used
          have HUD := Lib.hid husd'
          have hgn : getP (freN P (T[g].2 : Int)) (T[g].2 : Int) = none := by
            have := hat g hgl
            rw [if_pos rfl, hget_at (i := T[g].1) (s := T[g].2) (List.getElem?_set_self hlt1)] at this
            rw [getP_nat]; exact this
          have hq2 : (Ps.set T[g].1 (freN P (T[g].2 : Int)))[T[g].1]? = some (freN P (T[g].2 : Int)) := List.getElem?_set_self hlt1
          have hl2 : (Ps.set T[g].1 (freN P (T[g].2 : Int))).length = Ps.length := List.length_set
          have HQ := Lib.hid (And.intro hgn (And.intro hq2 hl2))
          clear hput husd husd' hat hgn hq2 hl2
          generalize freN P (T[g].2 : Int) = Q at *
          generalize Ps.set T[g].1 Q = Ps2 at *
          go_wp2_with fail
          refine HF1.out.mono ?_
          rintro e W1 ⟨rfl, F1, J1, f1⟩
          have t1 : Tids W1 w.heap.size _ T := Hs.own J f1 hTid (by decide) (by decide) (by decide) (by decide) (by decide) (by decide)
          clear k0 k1 hTid HF1 f1
          obtain ⟨k0, k1⟩ := t1.at_ hgl
          have HF2 := Lib.hid (J1.free_no T[g].1 (T[g].2 : Int) Q HQ.out.2.1 HQ.out.1)
          go_wp2_with fail
          refine HF2.out.mono ?_
          rintro e W2 ⟨rfl, J2, f2⟩
          have t2 : Tids W2 w.heap.size _ T := Hs.own J1 f2 t1 (by decide) (by decide) (by decide) (by decide) (by decide) (by decide)
          clear k0 k1 t1 HF2 f2 J1 J ix
          go_wp2
          go_loopw [84] (fun iv wr => ∃ j : Nat, j ≤ T.length ∧ iv = .int .i64 (j : Int) ∧ Hs w wr h p F1 Ps2 n ∧ Tids wr w.heap.size (.slice (some ⟨b, 0, none⟩) T.length cc) T) (fun iv _ => T.length - (intOf iv).toNat)
          case atStart => exact ⟨0, Nat.zero_le _, rfl, J2, t2⟩
          case round =>
            obtain ⟨j, hj, rfl, J3, t3⟩ := hrel
            clear J2 t2
            by_cases hjl : j < T.length
            · have ix := idx_tid b T.length cc j hjl
              obtain ⟨k0, k1⟩ := t3.at_ hjl
              have hatj := HAT.out j hjl
              have JB := J3.step ((Below.refl _ _).alloc (Nat.le_refl _) (.cells #[.int .i64 (T[j].1 : Int), .int .i64 (T[j].2 : Int)] 41))
              have tB := t3.alloc (.cells #[.int .i64 (T[j].1 : Int), .int .i64 (T[j].2 : Int)] 41)
              have hwj : IntKind.u64.wrap (j : Int) = (j : Int) := by (have hw : ∀ i : Int, IntKind.u64.wrap i = i % 18446744073709551616 := (fun _ => rfl)); rw [hw]; omega
              by_cases e : j = g
              · subst e
                rw [if_pos rfl] at hatj
                have hne : ((j : Int) != (j : Int)) = false := by simp
                have hqn : ∃ P3, Ps2[T[j].1]? = some P3 ∧ getP P3 (T[j].2 : Int) = none := by
                  exact ⟨Q, HQ.out.2.1, HQ.out.1⟩
                obtain ⟨P3, hP3, hg3⟩ := hqn
                have hgc : Calls Try.prog 61 #[.pointer (some ⟨h, 0, none⟩), .agg #[.int .i64 (T[j].1 : Int), .int .i64 (T[j].2 : Int)]] (wr.alloc (.cells #[.int .i64 (T[j].1 : Int), .int .i64 (T[j].2 : Int)] 41)) fun e w' => e = .returned (.tuple #[.agg #[.int .u64 0, .int .u64 0, .int .u64 0, .int .i64 0, .int .i64 0, .slice none 0 0], .bool false]) ∧ Below (wr.alloc (.cells #[.int .i64 (T[j].1 : Int), .int .i64 (T[j].2 : Int)] 41)).heap.size (wr.alloc (.cells #[.int .i64 (T[j].1 : Int), .int .i64 (T[j].2 : Int)] 41)) w' := JB.get_no T[j].1 (T[j].2 : Int) P3 hP3 hg3
                have HG := Lib.hid hgc
                clear hgc hatj
                go_wp2_with fail
                refine HG.out.mono ?_
                rintro e U ⟨rfl, hbU⟩
                have JU := (JB.step hbU).step ((Below.refl _ _).alloc (Nat.le_refl _) (.cells #[.int .u64 0, .int .u64 0, .int .u64 0, .int .i64 0, .int .i64 0, .slice none 0 0] 44))
                have tU := (tB.below hbU).alloc (.cells #[.int .u64 0, .int .u64 0, .int .u64 0, .int .i64 0, .int .i64 0, .slice none 0 0] 44)
                clear JB tB k0 k1 ix J3 t3
                go_wp2
                go_roundw
                case rel => exact ⟨j + 1, by omega, by go_num, JU, tU⟩
                case measure => simp [intOf]; omega
              · rw [if_neg e] at hatj
                have hne : ((j : Int) != (g : Int)) = true := by simp; omega
                obtain ⟨P3, hP3, hg3⟩ := hget_some hatj
                have hgc : Calls Try.prog 61 #[.pointer (some ⟨h, 0, none⟩), .agg #[.int .i64 (T[j].1 : Int), .int .i64 (T[j].2 : Int)]] (wr.alloc (.cells #[.int .i64 (T[j].1 : Int), .int .i64 (T[j].2 : Int)] 41)) fun e w' => ∃ dv, e = .returned (.tuple #[.agg #[.int .u64 (j : Int), .int .u64 1, .int .u64 0, .int .i64 (-1), .int .i64 (-1), dv], .bool true]) ∧ Byt w' (wr.alloc (.cells #[.int .i64 (T[j].1 : Int), .int .i64 (T[j].2 : Int)] 41)).heap.size dv (vF l j).d ∧ Below (wr.alloc (.cells #[.int .i64 (T[j].1 : Int), .int .i64 (T[j].2 : Int)] 41)).heap.size (wr.alloc (.cells #[.int .i64 (T[j].1 : Int), .int .i64 (T[j].2 : Int)] 41)) w' := JB.get_yes T[j].1 (T[j].2 : Int) P3 hP3 (vF l j) hg3
                have HG := Lib.hid hgc
                clear hgc hatj
                go_wp2_with fail
                refine HG.out.mono ?_
                rintro e U ⟨dv, rfl, ho5, hbU⟩
                obtain ⟨A5, c5, rfl, _, _, _⟩ := own_form ho5
                generalize (vF l j).d.length = dl at *
                have JU := (JB.step hbU).step ((Below.refl _ _).alloc (Nat.le_refl _) (.cells #[.int .u64 (j : Int), .int .u64 1, .int .u64 0, .int .i64 (-1), .int .i64 (-1), .slice A5 dl c5] 44))
                have tU := (tB.below hbU).alloc (.cells #[.int .u64 (j : Int), .int .u64 1, .int .u64 0, .int .i64 (-1), .int .i64 (-1), .slice A5 dl c5] 44)
                clear JB tB k0 k1 ix J3 t3 ho5
                go_wp2
                go_roundw
                case rel => exact ⟨j + 1, by omega, by go_num, JU, tU⟩
                case measure => simp [intOf]; omega
            · obtain rfl : j = T.length := by omega
              have hus := J3.used (by rw [HQ.out.2.2]; omega)
              have hud := HUD.out
              have HUS := Lib.hid hus
              have hbJ := J3.below
              have hub : IntKind.i64.wrap ((T.length : Int) - 1) = (usedL Ps2 : Int) := by rw [show (T.length : Int) - 1 = (usedL Ps2 : Int) by omega]; exact IntWalk.i64_in _ (by omega)
              have hub2 : (T.length : Int) - 1 = (usedL Ps2 : Int) := by omega
              clear hus hud t3 J3
              generalize usedL Ps2 = us at *
              go_wp2_with (go_at_call 60; (with_reducible refine (HUS.out).mono ?_); rintro e w5 ⟨rfl, hw1⟩; have hw := hw1.symm; subst hw)
              go_ret
              exact ⟨by simp, hbJ⟩
      · have har : Brd wr A l := HAR.out wr J.below
        obtain ⟨ad, rfl, hcell⟩ := har.at_ (k := T.length) hlt
        have hx8 := (l[T.length]'hlt).toNat_lt
        generalize (l[T.length]'hlt).toNat = x at *
        clear hend har
        rcases Nat.eq_zero_or_pos T.length with hT0 | hT0
        · omega
        · obtain ⟨g, hg⟩ : ∃ g : Nat, g = u.toNat % T.length := ⟨_, rfl⟩
          have hgl : g < T.length := by rw [hg]; exact Nat.mod_lt _ hT0
          have hgm : u % (T.length : Int) = (g : Int) := by rw [hg]; exact HUM.out T.length
          have hTne : ((T.length : Int) == 0) = false := beq_eq_false_iff_ne.2 (by omega)
          have hT30 : T.length ≤ 30 := by omega
          clear hg
          obtain ⟨b, cc, rfl, hbb, hcc, hcm⟩ := own_shape hTid hT0
          have ix := idx_tid b T.length cc g hgl
          obtain ⟨k0, k1⟩ := hTid.at_ hgl
          obtain ⟨P, hP, hs, hput, husd⟩ := hfre_put (hL.at_ g T[g] (List.getElem?_eq_getElem hgl))
          have HF1 := Lib.hid (J.free_yes (by omega) T[g].1 (T[g].2 : Int) P hP hs)
          have hlt1 := (List.getElem?_eq_some_iff.1 hP).1
          have hat : ∀ (j : Nat) (hj : j < T.length), hget (Ps.set T[g].1 (freN P (T[g].2 : Int))) T[j] = if j = g then none else some (vF l j) := fun j hj => by
            rw [hput]
            have h1 := hL.at_ j T[j] (List.getElem?_eq_getElem hj)
            by_cases e : j = g
            · subst e; rw [if_pos rfl, if_pos rfl]
            · rw [if_neg e, if_neg (fun e2 => e (by
                have h2 := hL.at_ g T[g] (List.getElem?_eq_getElem hgl)
                rw [e2, h2] at h1
                injection h1 with h1
                have h3 : (vF l g).r = (vF l j).r := by rw [h1]
                exact (show g = j from h3).symm)), h1]
          have HAT := Lib.hid hat
          have husd' : usedL (Ps.set T[g].1 (freN P (T[g].2 : Int))) + 1 = T.length := husd.trans hL.used
          have HUD := Lib.hid husd'
          have hgn : getP (freN P (T[g].2 : Int)) (T[g].2 : Int) = none := by
            have := hat g hgl
            rw [if_pos rfl, hget_at (i := T[g].1) (s := T[g].2) (List.getElem?_set_self hlt1)] at this
            rw [getP_nat]; exact this
          have hq2 : (Ps.set T[g].1 (freN P (T[g].2 : Int)))[T[g].1]? = some (freN P (T[g].2 : Int)) := List.getElem?_set_self hlt1
          have hl2 : (Ps.set T[g].1 (freN P (T[g].2 : Int))).length = Ps.length := List.length_set
          have HQ := Lib.hid (And.intro hgn (And.intro hq2 hl2))
          clear hput husd husd' hat hgn hq2 hl2
          generalize freN P (T[g].2 : Int) = Q at *
          generalize Ps.set T[g].1 Q = Ps2 at *
          go_wp2_with fail
          refine HF1.out.mono ?_
          rintro e W1 ⟨rfl, F1, J1, f1⟩
          have t1 : Tids W1 w.heap.size _ T := Hs.own J f1 hTid (by decide) (by decide) (by decide) (by decide) (by decide) (by decide)
          clear k0 k1 hTid HF1 f1
          obtain ⟨k0, k1⟩ := t1.at_ hgl
          have HF2 := Lib.hid (J1.free_no T[g].1 (T[g].2 : Int) Q HQ.out.2.1 HQ.out.1)
          go_wp2_with fail
          refine HF2.out.mono ?_
          rintro e W2 ⟨rfl, J2, f2⟩
          have t2 : Tids W2 w.heap.size _ T := Hs.own J1 f2 t1 (by decide) (by decide) (by decide) (by decide) (by decide) (by decide)
          clear k0 k1 t1 HF2 f2 J1 J ix
          go_wp2
          go_loopw [84] (fun iv wr => ∃ j : Nat, j ≤ T.length ∧ iv = .int .i64 (j : Int) ∧ Hs w wr h p F1 Ps2 n ∧ Tids wr w.heap.size (.slice (some ⟨b, 0, none⟩) T.length cc) T) (fun iv _ => T.length - (intOf iv).toNat)
          case atStart => exact ⟨0, Nat.zero_le _, rfl, J2, t2⟩
          case round =>
            obtain ⟨j, hj, rfl, J3, t3⟩ := hrel
            clear J2 t2
            by_cases hjl : j < T.length
            · have ix := idx_tid b T.length cc j hjl
              obtain ⟨k0, k1⟩ := t3.at_ hjl
              have hatj := HAT.out j hjl
              have JB := J3.step ((Below.refl _ _).alloc (Nat.le_refl _) (.cells #[.int .i64 (T[j].1 : Int), .int .i64 (T[j].2 : Int)] 41))
              have tB := t3.alloc (.cells #[.int .i64 (T[j].1 : Int), .int .i64 (T[j].2 : Int)] 41)
              have hwj : IntKind.u64.wrap (j : Int) = (j : Int) := by (have hw : ∀ i : Int, IntKind.u64.wrap i = i % 18446744073709551616 := (fun _ => rfl)); rw [hw]; omega
              by_cases e : j = g
              · subst e
                rw [if_pos rfl] at hatj
                have hne : ((j : Int) != (j : Int)) = false := by simp
                have hqn : ∃ P3, Ps2[T[j].1]? = some P3 ∧ getP P3 (T[j].2 : Int) = none := by
                  exact ⟨Q, HQ.out.2.1, HQ.out.1⟩
                obtain ⟨P3, hP3, hg3⟩ := hqn
                have hgc : Calls Try.prog 61 #[.pointer (some ⟨h, 0, none⟩), .agg #[.int .i64 (T[j].1 : Int), .int .i64 (T[j].2 : Int)]] (wr.alloc (.cells #[.int .i64 (T[j].1 : Int), .int .i64 (T[j].2 : Int)] 41)) fun e w' => e = .returned (.tuple #[.agg #[.int .u64 0, .int .u64 0, .int .u64 0, .int .i64 0, .int .i64 0, .slice none 0 0], .bool false]) ∧ Below (wr.alloc (.cells #[.int .i64 (T[j].1 : Int), .int .i64 (T[j].2 : Int)] 41)).heap.size (wr.alloc (.cells #[.int .i64 (T[j].1 : Int), .int .i64 (T[j].2 : Int)] 41)) w' := JB.get_no T[j].1 (T[j].2 : Int) P3 hP3 hg3
                have HG := Lib.hid hgc
                clear hgc hatj
                go_wp2_with fail
                refine HG.out.mono ?_
                rintro e U ⟨rfl, hbU⟩
                have JU := (JB.step hbU).step ((Below.refl _ _).alloc (Nat.le_refl _) (.cells #[.int .u64 0, .int .u64 0, .int .u64 0, .int .i64 0, .int .i64 0, .slice none 0 0] 44))
                have tU := (tB.below hbU).alloc (.cells #[.int .u64 0, .int .u64 0, .int .u64 0, .int .i64 0, .int .i64 0, .slice none 0 0] 44)
                clear JB tB k0 k1 ix J3 t3
                go_wp2
                go_roundw
                case rel => exact ⟨j + 1, by omega, by go_num, JU, tU⟩
                case measure => simp [intOf]; omega
              · rw [if_neg e] at hatj
                have hne : ((j : Int) != (g : Int)) = true := by simp; omega
                obtain ⟨P3, hP3, hg3⟩ := hget_some hatj
                have hgc : Calls Try.prog 61 #[.pointer (some ⟨h, 0, none⟩), .agg #[.int .i64 (T[j].1 : Int), .int .i64 (T[j].2 : Int)]] (wr.alloc (.cells #[.int .i64 (T[j].1 : Int), .int .i64 (T[j].2 : Int)] 41)) fun e w' => ∃ dv, e = .returned (.tuple #[.agg #[.int .u64 (j : Int), .int .u64 1, .int .u64 0, .int .i64 (-1), .int .i64 (-1), dv], .bool true]) ∧ Byt w' (wr.alloc (.cells #[.int .i64 (T[j].1 : Int), .int .i64 (T[j].2 : Int)] 41)).heap.size dv (vF l j).d ∧ Below (wr.alloc (.cells #[.int .i64 (T[j].1 : Int), .int .i64 (T[j].2 : Int)] 41)).heap.size (wr.alloc (.cells #[.int .i64 (T[j].1 : Int), .int .i64 (T[j].2 : Int)] 41)) w' := JB.get_yes T[j].1 (T[j].2 : Int) P3 hP3 (vF l j) hg3
                have HG := Lib.hid hgc
                clear hgc hatj
                go_wp2_with fail
                refine HG.out.mono ?_
                rintro e U ⟨dv, rfl, ho5, hbU⟩
                obtain ⟨A5, c5, rfl, _, _, _⟩ := own_form ho5
                generalize (vF l j).d.length = dl at *
                have JU := (JB.step hbU).step ((Below.refl _ _).alloc (Nat.le_refl _) (.cells #[.int .u64 (j : Int), .int .u64 1, .int .u64 0, .int .i64 (-1), .int .i64 (-1), .slice A5 dl c5] 44))
                have tU := (tB.below hbU).alloc (.cells #[.int .u64 (j : Int), .int .u64 1, .int .u64 0, .int .i64 (-1), .int .i64 (-1), .slice A5 dl c5] 44)
                clear JB tB k0 k1 ix J3 t3 ho5
                go_wp2
                go_roundw
                case rel => exact ⟨j + 1, by omega, by go_num, JU, tU⟩
                case measure => simp [intOf]; omega
            · obtain rfl : j = T.length := by omega
              have hus := J3.used (by rw [HQ.out.2.2]; omega)
              have hud := HUD.out
              have HUS := Lib.hid hus
              have hbJ := J3.below
              have hub : IntKind.i64.wrap ((T.length : Int) - 1) = (usedL Ps2 : Int) := by rw [show (T.length : Int) - 1 = (usedL Ps2 : Int) by omega]; exact IntWalk.i64_in _ (by omega)
              have hub2 : (T.length : Int) - 1 = (usedL Ps2 : Int) := by omega
              clear hus hud t3 J3
              generalize usedL Ps2 = us at *
              go_wp2_with (go_at_call 60; (with_reducible refine (HUS.out).mono ?_); rintro e w5 ⟨rfl, hw1⟩; have hw := hw1.symm; subst hw)
              go_ret
              exact ⟨by simp, hbJ⟩
end Go.Proofs.Ytpnkmkenmpbekaa.heapFree
