/-
  HeapPools: the walk: the law answers true; of what was there nothing has turned.
-/
import Derived.Test.YtpnkmkenmpbekaaHeapK
import Derived.Deep.DeepCutAuto
import Derived.BigQuiet
import Derived.StillTailTactics
namespace Go.Proofs.Ytpnkmkenmpbekaa.heapPools
open Go.RowKit
set_option linter.unusedVariables false

theorem arr2_len : Try.prog.arrayLen 86 = 2 := by kernel_rfl
theorem arr2_elem : Try.prog.elem 86 = 84 := by kernel_rfl
theorem arr2_under : Try.prog.underlying 86 = some (.array (Try.prog.arrayLen 86) (Try.prog.elem 86)) := by kernel_rfl
theorem size_hp (W : World) : (sizeOf 84).run Try.prog W = .ok 1 W := by kernel_rfl
theorem ix2 (g i : Nat) (hi : i < 2) (x : Int) (hx : x = (i : Int)) (W : World) : (Instr.indexAt 86 (.pointer (some ⟨g, 0, none⟩)) (.int .i64 x)).run Try.prog W = .ok (.pointer (some ⟨g, i, none⟩)) W := by
  subst hx
  rw [run_indexAt_array (h := arr2_under), if_pos (by rw [arr2_len]; omega), arr2_elem, size_hp]
  simp [Result.andThen, Addr.add_lit]
set_option maxRecDepth 100000 in
set_option maxHeartbeats 4000000 in
theorem walk (u : Int) (A : Option Addr) (c : Nat) (l : List Op7) (w : World) (hu : 0 ≤ u ∧ u < 256) (ha : Ord7 w A l) :
    Calls Try.prog 11 #[.int .u8 u, .slice A l.length c] w fun e w' => e = .returned (.bool true) ∧ Below w.heap.size w w' := by
  obtain ⟨kk, hk⟩ : ∃ k : Nat, u % 12 = (k : Int) := ⟨(u % 12).toNat, by omega⟩
  have hk2 : kk ≤ 11 := by omega
  obtain ⟨hu1, hu2⟩ := hu
  have HAR := Lib.hid (fun W (hW : Below w.heap.size w W) => Ord7.below ha hW)
  clear ha
  go_enter Try.func11, Try.ntmps11
  go_wp2_with fail
  refine (awake7_any w).mono ?_
  rintro e w1 ⟨rfl, hb1⟩
  go_upto_region 4 with fail
  simp only [hk]
  clear hk hu1 hu2
  go_wp2_with fail
  refine (newpool_any w1 kk (by omega)).mono ?_
  rintro e w2 ⟨rfl, hp2, hb2⟩
  go_wp2_with fail
  refine (hs_new (w0 := w) hp2 (hb1.next hb2) hb1.size).mono ?_
  rintro e w3 ⟨h0, F0, rfl, J0, hb3⟩
  generalize w1.heap.size = p at *
  clear hp2 hb2 hb1 hb3
  go_wp2_with fail
  refine (hnew_any w3 p).mono ?_
  rintro e w4 ⟨h1, F1, rfl, J1, hb4, hF1⟩
  have T0 : Hh w w4 h0 h1 p F0 F1 [] [] kk := ⟨J0.step hb4, ⟨J1, J0.pool.below hb4, J0.below.next hb4, fun k hk => Nat.le_trans J0.below.size (hF1 k hk), J0.lowp⟩, fun k h h' => by have := J0.heap.lt h; have := hF1 k h'; omega⟩
  have T1 := T0.alloc (.cells #[.pointer (some ⟨h0, 0, none⟩), .pointer (some ⟨h1, 0, none⟩)] 86)
  have bA0 := Bx.new w4 86 _ [.pointer (some ⟨h0, 0, none⟩), .pointer (some ⟨h1, 0, none⟩)] rfl
  clear J0 J1 hb4 hF1 T0
  go_wp2
  generalize w4.alloc (.cells #[.pointer (some ⟨h0, 0, none⟩), .pointer (some ⟨h1, 0, none⟩)] 86) = W1 at *
  generalize w4.heap.size = ba at *
  have i0 := ix2 ba 0 (by omega) 0 rfl
  have i1 := ix2 ba 1 (by omega) 1 rfl
  go_loopw [29] (fun iv wr => ∃ (q : Nat) (F0 F1 : Nat → Prop) (P0 P1 : List Pg) (n : Nat), iv = .int .i64 (q : Int) ∧ q ≤ l.length ∧ P0.length + P1.length + n = kk ∧ Hh w wr h0 h1 p F0 F1 P0 P1 n ∧ Bx wr ba 86 [.pointer (some ⟨h0, 0, none⟩), .pointer (some ⟨h1, 0, none⟩)]) (fun iv _ => l.length - (intOf iv).toNat)
  case atStart => exact ⟨0, F0, F1, [], [], kk, rfl, Nat.zero_le _, by simp, T1, bA0⟩
  case round =>
    obtain ⟨q, F0, F1, P0, P1, n, rfl, hq, hsm, T, bA⟩ := hrel
    clear T1 bA0
    by_cases hlt : q < l.length
    · have har : Ord7 wr A l := HAR.out wr T.s0.below
      obtain ⟨ad, rfl, hc⟩ := har.at_ hlt
      obtain ⟨hbr, hd1, hd2, hdo1, hdo2⟩ := har.2 q hlt
      have ix := idx_op7 ad l.length c q hlt
      have q0 : wr.cell? (ad.add (q * 10)) = some (.int .u8 l[q].do_) := hc 0 _ rfl
      have q1 : wr.cell? ⟨(ad.add (q * 10)).block, (ad.add (q * 10)).off + 1, none⟩ = some (.bool l[q].two) := hc 1 _ rfl
      have q2 : wr.cell? ⟨(ad.add (q * 10)).block, (ad.add (q * 10)).off + 2, none⟩ = some (.int .i64 l[q].a) := hc 2 _ rfl
      have q3 : wr.cell? ⟨(ad.add (q * 10)).block, (ad.add (q * 10)).off + 3, none⟩ = some (.int .i64 l[q].b) := hc 3 _ rfl
      have q4 : wr.cell? ⟨(ad.add (q * 10)).block, (ad.add (q * 10)).off + 4, none⟩ = some (.int .u64 (l[q].r : Int)) := hc 4 _ rfl
      have q5 : wr.cell? ⟨(ad.add (q * 10)).block, (ad.add (q * 10)).off + 5, none⟩ = some (.int .u64 (l[q].x : Int)) := hc 5 _ rfl
      have q6 : wr.cell? ⟨(ad.add (q * 10)).block, (ad.add (q * 10)).off + 6, none⟩ = some (.int .u64 (l[q].m : Int)) := hc 6 _ rfl
      have q7 : wr.cell? ⟨(ad.add (q * 10)).block, (ad.add (q * 10)).off + 7, none⟩ = some (.int .i64 l[q].p) := hc 7 _ rfl
      have q8 : wr.cell? ⟨(ad.add (q * 10)).block, (ad.add (q * 10)).off + 8, none⟩ = some (.int .i64 l[q].s) := hc 8 _ rfl
      have q9 : wr.cell? ⟨(ad.add (q * 10)).block, (ad.add (q * 10)).off + 9, none⟩ = some (.slice l[q].A l[q].d.length l[q].c) := hc 9 _ rfl
      clear hc har
      generalize l[q] = o at *
      by_cases h60 : q < 60
      · cases htw : o.two
        · rw [htw] at q1
          have bO := Bx.new wr 93 _ [.int .u8 o.do_, .bool false, .int .i64 o.a, .int .i64 o.b, .int .u64 (o.r : Int), .int .u64 (o.x : Int), .int .u64 (o.m : Int), .int .i64 o.p, .int .i64 o.s, .slice o.A o.d.length o.c] rfl
          have TW := T.alloc (.cells #[.int .u8 o.do_, .bool false, .int .i64 o.a, .int .i64 o.b, .int .u64 (o.r : Int), .int .u64 (o.x : Int), .int .u64 (o.m : Int), .int .i64 o.p, .int .i64 o.s, .slice o.A o.d.length o.c] 93)
          have bW := Bx.alloc bA (.cells #[.int .u8 o.do_, .bool false, .int .i64 o.a, .int .i64 o.b, .int .u64 (o.r : Int), .int .u64 (o.x : Int), .int .u64 (o.m : Int), .int .i64 o.p, .int .i64 o.s, .slice o.A o.d.length o.c] 93)
          have hbrW := Rd.alloc hbr (.cells #[.int .u8 o.do_, .bool false, .int .i64 o.a, .int .i64 o.b, .int .u64 (o.r : Int), .int .u64 (o.x : Int), .int .u64 (o.m : Int), .int .i64 o.p, .int .i64 o.s, .slice o.A o.d.length o.c] 93)
          clear T bA hbr htw
          have T := TW
          have bA := bW
          have hbr := hbrW
          clear TW bW hbrW
          by_cases h8 : o.do_ % 9 = 8
          · have h8b : (o.do_ % 9 == 8) = true := by rw [h8]; rfl
            clear h8
            go_upto_region 9 with fail
            clear q0 q1 q2 q3 q4 q5 q6 q7 q8 q9 ix
            generalize (wr.alloc (.cells #[.int .u8 o.do_, .bool false, .int .i64 o.a, .int .i64 o.b, .int .u64 (o.r : Int), .int .u64 (o.x : Int), .int .u64 (o.m : Int), .int .i64 o.p, .int .i64 o.s, .slice o.A o.d.length o.c] 93)) = W at *
            generalize wr.heap.size = sl at *
            have x0 := bA.cell 0
            have x1 := bA.cell 1
            have k0 := bO.cell 0
            have k1 := bO.cell 1
            have k2 := bO.cell 2
            have k3 := bO.cell 3
            have k4 := bO.cell 4
            have k5 := bO.cell 5
            have k6 := bO.cell 6
            have k7 := bO.cell 7
            have k8 := bO.cell 8
            have k9 := bO.cell 9
            have HD := Lib.hid (T.drop (by omega))
            go_wp2_with fail
            refine HD.out.mono ?_
            rintro e w5 ⟨rfl, F5, U5, f5⟩
            have b5 := Hs.bx T.s0 f5 bA (by decide) (by decide) (by decide) (by decide) (by decide) (by decide)
            have T5 := U5
            obtain ⟨Q0, hQ0⟩ : ∃ Q : List Pg, Q = [] := ⟨_, rfl⟩
            obtain ⟨Q1, hQ1⟩ : ∃ Q, Q = P1 := ⟨_, rfl⟩
            rw [← hQ0, ← hQ1] at T5
            obtain ⟨n2, hn2⟩ : ∃ m, m = n + P0.length := ⟨_, rfl⟩
            rw [← hn2] at T5
            have hs2 : Q0.length + Q1.length + n2 = kk := by rw [hQ0, hQ1, hn2]; simp; omega
            clear hQ0 hQ1 hn2 U5 f5 HD T bA
            go_wp2_with fail
            refine wp_region_still_lit (by kernel_rfl) (by kernel_rfl) ?_
            have dV : Below w5.heap.size w5 ({ w5 with drawn := w5.drawn + 1 } : World) := ⟨rfl, rfl, rfl, Nat.le_refl _, fun _ _ => rfl⟩
            have TV := T5.below dV
            have bV := Bx.below b5 dV
            clear T5 b5 dV
            generalize ({ w5 with drawn := w5.drawn + 1 } : World) = V at *
            have v0 := bV.cell 0
            have v1 := bV.cell 1
            have hp0 := TV.s0.pages
            have hp1 := TV.s1.pages
            have hL := TV.s0.left
            have hsum : ((Q0.length : Int) + (Q1.length : Int)) + (n2 : Int) = (kk : Int) := by omega
            have hw1 : IntKind.i64.wrap ((Q0.length : Int) + (Q1.length : Int)) = (Q0.length : Int) + (Q1.length : Int) := IntWalk.i64_in _ (by omega)
            have hw2 : IntKind.i64.wrap (((Q0.length : Int) + (Q1.length : Int)) + (n2 : Int)) = (kk : Int) := by rw [hsum]; exact IntWalk.i64_in _ (by omega)
            have hw3 : IntKind.i64.wrap (kk : Int) = (kk : Int) := IntWalk.i64_in _ (by omega)
            have hn0 : ¬ (n2 : Int) < 0 := by omega
            repeat (first | (with_reducible refine wpStill_step ?_; intro K hK; go_simp; with_reducible refine hK _ ?_; clear hK K) | (with_reducible refine wpStill_step ?_; intro K hK; go_simp; with_reducible refine ⟨_, (hp0), hK _ ?_⟩; clear hK K) | (with_reducible refine wpStill_step ?_; intro K hK; go_simp; with_reducible refine ⟨_, (hp1), hK _ ?_⟩; clear hK K) | (with_reducible refine wpStill_step ?_; intro K hK; go_simp; with_reducible refine ⟨_, (hL), hK _ ?_⟩; clear hK K))
            with_reducible refine wpStill_nil ?_
            clear hp0 hp1 hL v0 v1
            go_wp2
            go_roundw
            case rel => exact ⟨q + 1, _, _, Q0, Q1, n2, by go_num, by omega, by omega, TV, bV⟩
            case measure => simp [intOf]; omega
          · have h8b : (o.do_ % 9 == 8) = false := beq_eq_false_iff_ne.2 h8
            clear h8
            go_upto_region 9 with fail
            clear q0 q1 q2 q3 q4 q5 q6 q7 q8 q9 ix
            generalize (wr.alloc (.cells #[.int .u8 o.do_, .bool false, .int .i64 o.a, .int .i64 o.b, .int .u64 (o.r : Int), .int .u64 (o.x : Int), .int .u64 (o.m : Int), .int .i64 o.p, .int .i64 o.s, .slice o.A o.d.length o.c] 93)) = W at *
            generalize wr.heap.size = sl at *
            have x0 := bA.cell 0
            have x1 := bA.cell 1
            have k0 := bO.cell 0
            have k1 := bO.cell 1
            have k2 := bO.cell 2
            have k3 := bO.cell 3
            have k4 := bO.cell 4
            have k5 := bO.cell 5
            have k6 := bO.cell 6
            have k7 := bO.cell 7
            have k8 := bO.cell 8
            have k9 := bO.cell 9
            have hfw : Calls Try.prog 38 #[.agg #[.int .u64 (o.r : Int), .int .u64 (o.x : Int), .int .u64 (o.m : Int), .int .i64 o.p, .int .i64 o.s, .slice o.A o.d.length o.c]] W fun e w' => ∃ v, e = .returned (.agg #[.int .u64 (o.r : Int), .int .u64 (o.x : Int), .int .u64 (o.m : Int), .int .i64 o.p, .int .i64 o.s, v]) ∧ Byt w' W.heap.size v (o.d.take 230) ∧ Below W.heap.size W w' := few_any W o.r o.x o.m o.c o.p o.s o.A o.d hbr hd1 hd2
            generalize o.d.take 230 = dt at hfw
            have HFW := Lib.hid hfw
            clear hfw
            go_wp2_with fail
            refine HFW.out.mono ?_
            rintro e w4 ⟨dv, rfl, ho4, hb4⟩
            obtain ⟨A5, c5, rfl, _, _, _⟩ := own_form ho4
            have T4 := T.below hb4
            have b4 := Bx.below bA hb4
            have hI := T4.insert (by omega) ⟨o.r, o.x, o.m, o.p, o.s, dt⟩ A5 c5 ho4
            dsimp only at hI
            have HI := Lib.hid hI
            clear hI
            clear k4 k5 k6 k7 k8 k9 HFW T bA
            go_wp2_with fail
            refine HI.out.mono ?_
            rintro e w5 ⟨⟨rv, rfl⟩, F5, Q5, n2, U5, hq5, f5⟩
            have b5 := Hs.bx T4.s0 f5 b4 (by decide) (by decide) (by decide) (by decide) (by decide) (by decide)
            have T5 := U5
            obtain ⟨Q0, hQ0⟩ : ∃ Q, Q = Q5 := ⟨_, rfl⟩
            obtain ⟨Q1, hQ1⟩ : ∃ Q, Q = P1 := ⟨_, rfl⟩
            rw [← hQ0, ← hQ1] at T5
            have hs2 : Q0.length + Q1.length + n2 = kk := by rw [hQ0, hQ1]; omega
            clear hQ0 hQ1 U5 f5 HI T4 b4 ho4 hb4 hq5
            go_wp2_with fail
            refine wp_region_still_lit (by kernel_rfl) (by kernel_rfl) ?_
            have dV : Below w5.heap.size w5 ({ w5 with drawn := w5.drawn + 1 } : World) := ⟨rfl, rfl, rfl, Nat.le_refl _, fun _ _ => rfl⟩
            have TV := T5.below dV
            have bV := Bx.below b5 dV
            clear T5 b5 dV
            generalize ({ w5 with drawn := w5.drawn + 1 } : World) = V at *
            have v0 := bV.cell 0
            have v1 := bV.cell 1
            have hp0 := TV.s0.pages
            have hp1 := TV.s1.pages
            have hL := TV.s0.left
            have hsum : ((Q0.length : Int) + (Q1.length : Int)) + (n2 : Int) = (kk : Int) := by omega
            have hw1 : IntKind.i64.wrap ((Q0.length : Int) + (Q1.length : Int)) = (Q0.length : Int) + (Q1.length : Int) := IntWalk.i64_in _ (by omega)
            have hw2 : IntKind.i64.wrap (((Q0.length : Int) + (Q1.length : Int)) + (n2 : Int)) = (kk : Int) := by rw [hsum]; exact IntWalk.i64_in _ (by omega)
            have hw3 : IntKind.i64.wrap (kk : Int) = (kk : Int) := IntWalk.i64_in _ (by omega)
            have hn0 : ¬ (n2 : Int) < 0 := by omega
            repeat (first | (with_reducible refine wpStill_step ?_; intro K hK; go_simp; with_reducible refine hK _ ?_; clear hK K) | (with_reducible refine wpStill_step ?_; intro K hK; go_simp; with_reducible refine ⟨_, (hp0), hK _ ?_⟩; clear hK K) | (with_reducible refine wpStill_step ?_; intro K hK; go_simp; with_reducible refine ⟨_, (hp1), hK _ ?_⟩; clear hK K) | (with_reducible refine wpStill_step ?_; intro K hK; go_simp; with_reducible refine ⟨_, (hL), hK _ ?_⟩; clear hK K))
            with_reducible refine wpStill_nil ?_
            clear hp0 hp1 hL v0 v1
            go_wp2
            go_roundw
            case rel => exact ⟨q + 1, _, _, Q0, Q1, n2, by go_num, by omega, by omega, TV, bV⟩
            case measure => simp [intOf]; omega
        · rw [htw] at q1
          have bO := Bx.new wr 93 _ [.int .u8 o.do_, .bool true, .int .i64 o.a, .int .i64 o.b, .int .u64 (o.r : Int), .int .u64 (o.x : Int), .int .u64 (o.m : Int), .int .i64 o.p, .int .i64 o.s, .slice o.A o.d.length o.c] rfl
          have TW := T.alloc (.cells #[.int .u8 o.do_, .bool true, .int .i64 o.a, .int .i64 o.b, .int .u64 (o.r : Int), .int .u64 (o.x : Int), .int .u64 (o.m : Int), .int .i64 o.p, .int .i64 o.s, .slice o.A o.d.length o.c] 93)
          have bW := Bx.alloc bA (.cells #[.int .u8 o.do_, .bool true, .int .i64 o.a, .int .i64 o.b, .int .u64 (o.r : Int), .int .u64 (o.x : Int), .int .u64 (o.m : Int), .int .i64 o.p, .int .i64 o.s, .slice o.A o.d.length o.c] 93)
          have hbrW := Rd.alloc hbr (.cells #[.int .u8 o.do_, .bool true, .int .i64 o.a, .int .i64 o.b, .int .u64 (o.r : Int), .int .u64 (o.x : Int), .int .u64 (o.m : Int), .int .i64 o.p, .int .i64 o.s, .slice o.A o.d.length o.c] 93)
          clear T bA hbr htw
          have T := TW
          have bA := bW
          have hbr := hbrW
          clear TW bW hbrW
          by_cases h8 : o.do_ % 9 = 8
          · have h8b : (o.do_ % 9 == 8) = true := by rw [h8]; rfl
            clear h8
            go_upto_region 9 with fail
            clear q0 q1 q2 q3 q4 q5 q6 q7 q8 q9 ix
            generalize (wr.alloc (.cells #[.int .u8 o.do_, .bool true, .int .i64 o.a, .int .i64 o.b, .int .u64 (o.r : Int), .int .u64 (o.x : Int), .int .u64 (o.m : Int), .int .i64 o.p, .int .i64 o.s, .slice o.A o.d.length o.c] 93)) = W at *
            generalize wr.heap.size = sl at *
            have x0 := bA.cell 0
            have x1 := bA.cell 1
            have k0 := bO.cell 0
            have k1 := bO.cell 1
            have k2 := bO.cell 2
            have k3 := bO.cell 3
            have k4 := bO.cell 4
            have k5 := bO.cell 5
            have k6 := bO.cell 6
            have k7 := bO.cell 7
            have k8 := bO.cell 8
            have k9 := bO.cell 9
            have HD := Lib.hid (T.symm.drop (by omega))
            go_wp2_with fail
            refine HD.out.mono ?_
            rintro e w5 ⟨rfl, F5, U5, f5⟩
            have b5 := Hs.bx T.symm.s0 f5 bA (by decide) (by decide) (by decide) (by decide) (by decide) (by decide)
            have T5 := U5.symm
            obtain ⟨Q0, hQ0⟩ : ∃ Q, Q = P0 := ⟨_, rfl⟩
            obtain ⟨Q1, hQ1⟩ : ∃ Q : List Pg, Q = [] := ⟨_, rfl⟩
            rw [← hQ0, ← hQ1] at T5
            obtain ⟨n2, hn2⟩ : ∃ m, m = n + P1.length := ⟨_, rfl⟩
            rw [← hn2] at T5
            have hs2 : Q0.length + Q1.length + n2 = kk := by rw [hQ0, hQ1, hn2]; simp; omega
            clear hQ0 hQ1 hn2 U5 f5 HD T bA
            go_wp2_with fail
            refine wp_region_still_lit (by kernel_rfl) (by kernel_rfl) ?_
            have dV : Below w5.heap.size w5 ({ w5 with drawn := w5.drawn + 1 } : World) := ⟨rfl, rfl, rfl, Nat.le_refl _, fun _ _ => rfl⟩
            have TV := T5.below dV
            have bV := Bx.below b5 dV
            clear T5 b5 dV
            generalize ({ w5 with drawn := w5.drawn + 1 } : World) = V at *
            have v0 := bV.cell 0
            have v1 := bV.cell 1
            have hp0 := TV.s0.pages
            have hp1 := TV.s1.pages
            have hL := TV.s0.left
            have hsum : ((Q0.length : Int) + (Q1.length : Int)) + (n2 : Int) = (kk : Int) := by omega
            have hw1 : IntKind.i64.wrap ((Q0.length : Int) + (Q1.length : Int)) = (Q0.length : Int) + (Q1.length : Int) := IntWalk.i64_in _ (by omega)
            have hw2 : IntKind.i64.wrap (((Q0.length : Int) + (Q1.length : Int)) + (n2 : Int)) = (kk : Int) := by rw [hsum]; exact IntWalk.i64_in _ (by omega)
            have hw3 : IntKind.i64.wrap (kk : Int) = (kk : Int) := IntWalk.i64_in _ (by omega)
            have hn0 : ¬ (n2 : Int) < 0 := by omega
            repeat (first | (with_reducible refine wpStill_step ?_; intro K hK; go_simp; with_reducible refine hK _ ?_; clear hK K) | (with_reducible refine wpStill_step ?_; intro K hK; go_simp; with_reducible refine ⟨_, (hp0), hK _ ?_⟩; clear hK K) | (with_reducible refine wpStill_step ?_; intro K hK; go_simp; with_reducible refine ⟨_, (hp1), hK _ ?_⟩; clear hK K) | (with_reducible refine wpStill_step ?_; intro K hK; go_simp; with_reducible refine ⟨_, (hL), hK _ ?_⟩; clear hK K))
            with_reducible refine wpStill_nil ?_
            clear hp0 hp1 hL v0 v1
            go_wp2
            go_roundw
            case rel => exact ⟨q + 1, _, _, Q0, Q1, n2, by go_num, by omega, by omega, TV, bV⟩
            case measure => simp [intOf]; omega
          · have h8b : (o.do_ % 9 == 8) = false := beq_eq_false_iff_ne.2 h8
            clear h8
            go_upto_region 9 with fail
            clear q0 q1 q2 q3 q4 q5 q6 q7 q8 q9 ix
            generalize (wr.alloc (.cells #[.int .u8 o.do_, .bool true, .int .i64 o.a, .int .i64 o.b, .int .u64 (o.r : Int), .int .u64 (o.x : Int), .int .u64 (o.m : Int), .int .i64 o.p, .int .i64 o.s, .slice o.A o.d.length o.c] 93)) = W at *
            generalize wr.heap.size = sl at *
            have x0 := bA.cell 0
            have x1 := bA.cell 1
            have k0 := bO.cell 0
            have k1 := bO.cell 1
            have k2 := bO.cell 2
            have k3 := bO.cell 3
            have k4 := bO.cell 4
            have k5 := bO.cell 5
            have k6 := bO.cell 6
            have k7 := bO.cell 7
            have k8 := bO.cell 8
            have k9 := bO.cell 9
            have hfw : Calls Try.prog 38 #[.agg #[.int .u64 (o.r : Int), .int .u64 (o.x : Int), .int .u64 (o.m : Int), .int .i64 o.p, .int .i64 o.s, .slice o.A o.d.length o.c]] W fun e w' => ∃ v, e = .returned (.agg #[.int .u64 (o.r : Int), .int .u64 (o.x : Int), .int .u64 (o.m : Int), .int .i64 o.p, .int .i64 o.s, v]) ∧ Byt w' W.heap.size v (o.d.take 230) ∧ Below W.heap.size W w' := few_any W o.r o.x o.m o.c o.p o.s o.A o.d hbr hd1 hd2
            generalize o.d.take 230 = dt at hfw
            have HFW := Lib.hid hfw
            clear hfw
            go_wp2_with fail
            refine HFW.out.mono ?_
            rintro e w4 ⟨dv, rfl, ho4, hb4⟩
            obtain ⟨A5, c5, rfl, _, _, _⟩ := own_form ho4
            have T4 := T.below hb4
            have b4 := Bx.below bA hb4
            have hI := T4.symm.insert (by omega) ⟨o.r, o.x, o.m, o.p, o.s, dt⟩ A5 c5 ho4
            dsimp only at hI
            have HI := Lib.hid hI
            clear hI
            clear k4 k5 k6 k7 k8 k9 HFW T bA
            go_wp2_with fail
            refine HI.out.mono ?_
            rintro e w5 ⟨⟨rv, rfl⟩, F5, Q5, n2, U5, hq5, f5⟩
            have b5 := Hs.bx T4.symm.s0 f5 b4 (by decide) (by decide) (by decide) (by decide) (by decide) (by decide)
            have T5 := U5.symm
            obtain ⟨Q0, hQ0⟩ : ∃ Q, Q = P0 := ⟨_, rfl⟩
            obtain ⟨Q1, hQ1⟩ : ∃ Q, Q = Q5 := ⟨_, rfl⟩
            rw [← hQ0, ← hQ1] at T5
            have hs2 : Q0.length + Q1.length + n2 = kk := by rw [hQ0, hQ1]; omega
            clear hQ0 hQ1 U5 f5 HI T4 b4 ho4 hb4 hq5
            go_wp2_with fail
            refine wp_region_still_lit (by kernel_rfl) (by kernel_rfl) ?_
            have dV : Below w5.heap.size w5 ({ w5 with drawn := w5.drawn + 1 } : World) := ⟨rfl, rfl, rfl, Nat.le_refl _, fun _ _ => rfl⟩
            have TV := T5.below dV
            have bV := Bx.below b5 dV
            clear T5 b5 dV
            generalize ({ w5 with drawn := w5.drawn + 1 } : World) = V at *
            have v0 := bV.cell 0
            have v1 := bV.cell 1
            have hp0 := TV.s0.pages
            have hp1 := TV.s1.pages
            have hL := TV.s0.left
            have hsum : ((Q0.length : Int) + (Q1.length : Int)) + (n2 : Int) = (kk : Int) := by omega
            have hw1 : IntKind.i64.wrap ((Q0.length : Int) + (Q1.length : Int)) = (Q0.length : Int) + (Q1.length : Int) := IntWalk.i64_in _ (by omega)
            have hw2 : IntKind.i64.wrap (((Q0.length : Int) + (Q1.length : Int)) + (n2 : Int)) = (kk : Int) := by rw [hsum]; exact IntWalk.i64_in _ (by omega)
            have hw3 : IntKind.i64.wrap (kk : Int) = (kk : Int) := IntWalk.i64_in _ (by omega)
            have hn0 : ¬ (n2 : Int) < 0 := by omega
            repeat (first | (with_reducible refine wpStill_step ?_; intro K hK; go_simp; with_reducible refine hK _ ?_; clear hK K) | (with_reducible refine wpStill_step ?_; intro K hK; go_simp; with_reducible refine ⟨_, (hp0), hK _ ?_⟩; clear hK K) | (with_reducible refine wpStill_step ?_; intro K hK; go_simp; with_reducible refine ⟨_, (hp1), hK _ ?_⟩; clear hK K) | (with_reducible refine wpStill_step ?_; intro K hK; go_simp; with_reducible refine ⟨_, (hL), hK _ ?_⟩; clear hK K))
            with_reducible refine wpStill_nil ?_
            clear hp0 hp1 hL v0 v1
            go_wp2
            go_roundw
            case rel => exact ⟨q + 1, _, _, Q0, Q1, n2, by go_num, by omega, by omega, TV, bV⟩
            case measure => simp [intOf]; omega
      · have TW := T.alloc (.cells #[.int .u8 o.do_, .bool o.two, .int .i64 o.a, .int .i64 o.b, .int .u64 (o.r : Int), .int .u64 (o.x : Int), .int .u64 (o.m : Int), .int .i64 o.p, .int .i64 o.s, .slice o.A o.d.length o.c] 93)
        have bW := Bx.alloc bA (.cells #[.int .u8 o.do_, .bool o.two, .int .i64 o.a, .int .i64 o.b, .int .u64 (o.r : Int), .int .u64 (o.x : Int), .int .u64 (o.m : Int), .int .i64 o.p, .int .i64 o.s, .slice o.A o.d.length o.c] 93)
        clear T bA
        have T := TW
        have bA := bW
        clear TW bW
        have HD0 := Lib.hid (T.drop (by omega))
        have x0 := bA.cell 0
        go_wp2_with fail
        refine HD0.out.mono ?_
        rintro e w5 ⟨rfl, F5, U5, f5⟩
        have b5 := Hs.bx T.s0 f5 bA (by decide) (by decide) (by decide) (by decide) (by decide) (by decide)
        have HD1 := Lib.hid (U5.symm.drop (by omega))
        have x1 := b5.cell 1
        clear x0 HD0 f5 T bA
        go_wp2_with fail
        refine HD1.out.mono ?_
        rintro e w6 ⟨rfl, F6, U6, f6⟩
        have hL := U6.s0.left
        rw [show n + P0.length + P1.length = kk by omega] at hL
        have HL := Lib.hid hL
        have hbe := U6.s0.below
        clear hL U6 f6 U5 b5 x1
        go_wp2_with (go_at_call 44; (with_reducible refine (HL.out).mono ?_); rintro e w7 ⟨rfl, hw1⟩; have hw := hw1.symm; subst hw)
        go_ret
        exact ⟨rfl, hbe⟩
    · obtain rfl : q = l.length := by omega
      clear hlt
      have HD0 := Lib.hid (T.drop (by omega))
      have x0 := bA.cell 0
      go_wp2_with fail
      refine HD0.out.mono ?_
      rintro e w5 ⟨rfl, F5, U5, f5⟩
      have b5 := Hs.bx T.s0 f5 bA (by decide) (by decide) (by decide) (by decide) (by decide) (by decide)
      have HD1 := Lib.hid (U5.symm.drop (by omega))
      have x1 := b5.cell 1
      clear x0 HD0 f5 T bA
      go_wp2_with fail
      refine HD1.out.mono ?_
      rintro e w6 ⟨rfl, F6, U6, f6⟩
      have hL := U6.s0.left
      rw [show n + P0.length + P1.length = kk by omega] at hL
      have HL := Lib.hid hL
      have hbe := U6.s0.below
      clear hL U6 f6 U5 b5 x1
      go_wp2_with (go_at_call 44; (with_reducible refine (HL.out).mono ?_); rintro e w7 ⟨rfl, hw1⟩; have hw := hw1.symm; subst hw)
      go_ret
      exact ⟨rfl, hbe⟩
end Go.Proofs.Ytpnkmkenmpbekaa.heapPools
