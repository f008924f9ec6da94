/-
  SnapStays: the walk: the law answers true; of what was there nothing has turned.
-/
import Derived.Test.YtjkjomooklhdbaaSnapK
import Derived.Test.YtjkjomooklhdbaaSnapF
import Derived.Test.YtjkjomooklhdbaaPlayB
import Derived.Deep.DeepCutAuto
import Derived.Deep.RegionHeld3
import Derived.Deep.AppendLies
namespace Go.Proofs.Ytjkjomooklhdbaa.snapStays
open Go.RowKit
set_option linter.unusedVariables false

/-- What a snapshot saw of the first n transactions. -/
def bcs (S : List Nat) (q : Pn) (n : Nat) : List Value := (List.range n).map fun x => Value.bool (seesB 1 S q.own q.xmax q.R x)
theorem bcs_succ (S : List Nat) (q : Pn) (n : Nat) : bcs S q (n + 1) = bcs S q n ++ [Value.bool (seesB 1 S q.own q.xmax q.R n)] := by simp [bcs, List.range_succ]
theorem bcs_at (S : List Nat) (q : Pn) {n y : Nat} (h : y < n) : (bcs S q n)[y]? = some (Value.bool (seesB 1 S q.own q.xmax q.R y)) := by simp [bcs, h]
/-- The rows of what was seen. -/
structure Ms (w wr : World) (S : List Nat) (A : Option Addr) (N c : Nat) (M : List (Pn × Option Addr × Nat)) : Prop where
  row : wr.ownsRow w.heap.size 87 1 (.slice A N c) M.length (M.map fun m => Value.slice m.2.1 60 m.2.2)
  bs : ∀ m ∈ M, wr.ownsRow w.heap.size 4 1 (.slice m.2.1 60 m.2.2) 60 (bcs S m.1 60)
section
variable {w wr w1 : World} {S : List Nat} {A : Option Addr} {N c g p r f : Nat} {M : List (Pn × Option Addr × Nat)} {F F' : Nat → Prop} {T : List Nat}
theorem Ms.below (h : Ms w wr S A N c M) (hb : Below wr.heap.size wr w1) : Ms w w1 S A N c M := ⟨own_below h.row hb, fun m hm => own_below (h.bs m hm) hb⟩
theorem Ms.step (h : Ms w wr S A N c M) (hl : LG wr g f T F) (hc : Chg F F' wr w1) : Ms w w1 S A N c M :=
  ⟨hc.fr.own h.row fun k e hk => hl.not (own_ty h.row e) (by decide) (by decide) (by decide) hk, fun m hm => hc.fr.own (h.bs m hm) fun k e hk => hl.not (own_ty (h.bs m hm) e) (by decide) (by decide) (by decide) hk⟩
theorem ms_more {i cg gg c10 : Nat} {Aw A10 : Option Addr} {cw : Nat} {q : Pn} (MX : Ms w wr S Aw i cw M) (hMl : M.length = i) (hrX : wr.ownsRow w.heap.size 87 1 (.slice Aw i cw) i (M.map fun m => Value.slice m.2.1 60 m.2.2)) (hg6 : wr.grownBy w1 (Value.slice Aw i cw).ownBlock)
    (o6 : w1.ownsRow w.heap.size 87 1 (.slice (some ⟨gg, 0, none⟩) (i + 1) cg) (i + 1) ((M.map fun m => Value.slice m.2.1 60 m.2.2) ++ [.slice A10 60 c10])) (oX : wr.ownsRow w.heap.size 4 1 (.slice A10 60 c10) 60 (bcs S q 60)) : Ms w w1 S (some ⟨gg, 0, none⟩) (i + 1) cg (M ++ [(q, A10, c10)]) := by
  refine ⟨?_, fun m hm => ?_⟩
  · rw [List.length_append, List.length_singleton, hMl, List.map_append, List.map_cons, List.map_nil]
    exact o6
  · rcases List.mem_append.1 hm with hm | hm
    · exact app_own hrX hg6 (MX.bs m hm) (by decide)
    · rw [List.mem_singleton] at hm
      subst hm
      exact app_own hrX hg6 oX (by decide)
theorem info_bo : (Try.prog.info? 4).map (fun i => (i.zero, i.size, i.bytes)) = some (some (.bool false), 1, 1) := by kernel_rfl
theorem info_bs : (Try.prog.info? 87).map (fun i => (i.zero, i.size, i.bytes)) = some (some (.slice none 0 0), 1, 24) := by kernel_rfl
theorem one1 (v : Value) (hv : v.oneCell' = true) : ∀ u ∈ [v], u.oneCell' = true := fun u hu => by rw [List.mem_singleton] at hu; rw [hu]; exact hv
theorem idx_bs (ad : Addr) (n c k : Nat) (h : k < n) (W : World) : (Instr.indexAt 86 (.slice (some ad) n c) (.int .i64 (k : Int))).run Try.prog W = .ok (.pointer (some (ad.add k))) W := by
  rw [run_indexAt_slice (h := by kernel_rfl), if_pos (by omega)]
  rw [show Try.prog.elem 86 = 87 by kernel_rfl, show (sizeOf 87).run Try.prog W = .ok 1 W by kernel_rfl]
  simp [Result.andThen]
theorem idx_bo (ad : Addr) (n c k : Nat) (h : k < n) (W : World) : (Instr.indexAt 87 (.slice (some ad) n c) (.int .u64 (k : Int))).run Try.prog W = .ok (.pointer (some (ad.add k))) W := by
  rw [run_indexAt_slice (h := by kernel_rfl), if_pos (by omega)]
  rw [show Try.prog.elem 87 = 4 by kernel_rfl, show (sizeOf 4).run Try.prog W = .ok 1 W by kernel_rfl]
  simp [Result.andThen]
end
set_option maxRecDepth 100000 in
set_option maxHeartbeats 4000000 in
theorem walk (A : Option Addr) (cc : Nat) (l : List Op10) (Ab : Option Addr) (cb : Nat) (lb : List Op10) (w : World) (r0 : Rd w 2 A l.length (l.flatMap Op10.e)) (n0 : l.length ≤ cc) (m0 : cc ≤ 9223372036854775807) (r1 : Rd w 2 Ab lb.length (lb.flatMap Op10.e)) (n1 : lb.length ≤ cb) (m1 : cb ≤ 9223372036854775807) :
    Calls Try.prog 8 #[.slice A l.length cc, .slice Ab lb.length cb] w fun e w' => e = .returned (.bool true) ∧ Below w.heap.size w w' := by
  obtain ⟨i1, hi1, hz10, hz11, hz12⟩ := info_parts4 info_bo
  obtain ⟨i2, hi2, hz20, hz21, hz22⟩ := info_parts4 info_bs
  go_enter Try.func8, Try.ntmps8
  go_wp2_with fail
  refine (awake10_any w).mono ?_
  rintro e w1 ⟨rfl, hb1⟩
  have hp := play_any A cc l 30 w1 (by omega) (r0.below hb1) n0 m0
  rw [show ((30 : Nat) : Int) = 30 from rfl] at hp
  have HP := Lib.hid hp
  have R1 := Lib.hid (r1.below hb1)
  clear hp r0 r1
  go_wp2_with fail
  refine (HP.out).mono ?_
  rintro e w2 ⟨p, g, r, S, H, A1, A2, c1, c2, L, rfl, hPy, hSl, hLl, hown⟩
  obtain ⟨F, K0⟩ := hPy.kp
  have hsy0 : ∀ q ∈ L, Sy S S q := fun q hq => sy_refl (hPy.inv q hq)
  clear HP hPy hown
  have hp2 : w2.cell? ⟨p, 2, none⟩ = some (.slice A1 L.length c1) := K0.box.cell 2
  have M0 : Ms w1 w2 S none 0 0 [] := ⟨World.ownsRow_nil _ _ _ _, fun m hm => by cases hm⟩
  have hLN : ∃ N, N = L.length := ⟨_, rfl⟩
  obtain ⟨N, hN⟩ := hLN
  rw [← hN] at hp2 K0
  have HN := Lib.hid hN
  have hN30 : N ≤ 30 := by omega
  clear hN hLl
  go_wp2
  go_loopw [7, 31] (fun wv iv wr => ∃ (i : Nat) (Aw : Option Addr) (cw : Nat) (M : List (Pn × Option Addr × Nat)), i ≤ N ∧ M.length = i ∧ M.map (fun m => m.1) = L.take i ∧ iv = .int .i64 (i : Int) ∧ wv = .slice Aw i cw ∧ Kp w1 wr p g r S F (.slice A1 N c1) (.slice A2 N c2) L ∧ Ms w1 wr S Aw i cw M) (fun _ iv _ => N - (intOf iv).toNat)
  case atStart => exact ⟨0, none, 0, [], Nat.zero_le _, rfl, rfl, rfl, rfl, K0, M0⟩
  case round =>
    obtain ⟨i, Aw, cw, M, hi, hMl, hMt, rfl, rfl, K1, M1⟩ := hrel
    clear K0 M0 hp2
    by_cases hlt : i < N
    · have hiL : i < L.length := by rw [← HN.out]; exact hlt
      obtain ⟨A', c', hv, _, _, hr⟩ := own_form K1.rs
      injection hv with e1 e2 e3
      subst e1 e3
      obtain ⟨ad, rfl, q0, q1, q2, q3⟩ := pn_at hr hiL
      have ix := idx_sn ad N c1 i hlt
      have hT : L.take (i + 1) = L.take i ++ [L[i]] := (List.take_append_getElem hiL).symm
      have hqm : L[i] ∈ L := List.getElem_mem hiL
      generalize L[i] = q at *
      have hrow := (K1.rows q hqm).1
      obtain ⟨own, xmin, xmax, R, As, cs, h0, h1, h2, h3, h4, h5⟩ : ∃ own xmin xmax R As cs, own = q.own ∧ xmin = least q.R q.xmax ∧ xmax = q.xmax ∧ R = q.R ∧ As = q.A ∧ cs = q.c := ⟨_, _, _, _, _, _, rfl, rfl, rfl, rfl, rfl, rfl⟩
      have hbq : ∀ n, bcs S q n = (List.range n).map fun x => Value.bool (seesB 1 S own xmax R x) := fun n => by rw [h0, h2, h3]; rfl
      rw [← h0] at q0
      rw [← h1] at q1
      rw [← h2] at q2
      rw [← h3, ← h4, ← h5] at q3 hrow
      have HM := Lib.hid M1
      have HT := Lib.hid hT
      have HMt := Lib.hid hMt
      have HBQ := Lib.hid hbq
      clear hr e2 hT hMt h0 h1 h2 h3 h4 h5 hbq
      have xV : Below wr.heap.size wr (wr.alloc (.cells #[.int .u64 (own : Int), .int .u64 (xmin : Int), .int .u64 (xmax : Int), .slice As R.length cs] 76)) := (Below.refl _ _).al _
      have KV := K1.below xV
      have bV := Bx.new wr 76 #[.int .u64 (own : Int), .int .u64 (xmin : Int), .int .u64 (xmax : Int), .slice As R.length cs] [.int .u64 (own : Int), .int .u64 (xmin : Int), .int .u64 (xmax : Int), .slice As R.length cs] rfl
      have rV := own_below hrow xV
      have MV := Lib.hid (M1.below xV)
      have hsz : w1.heap.size ≤ (wr.alloc (.cells #[.int .u64 (own : Int), .int .u64 (xmin : Int), .int .u64 (xmax : Int), .slice As R.length cs] 76)).heap.size := KV.mine.size
      clear M1 K1 hrow HM
      go_upto_region 11 with fail
      generalize wr.alloc (.cells #[.int .u64 (own : Int), .int .u64 (xmin : Int), .int .u64 (xmax : Int), .slice As R.length cs] 76) = V at *
      generalize wr.heap.size = b9 at *
      have HS : ∀ w', Below V.heap.size V w' → w'.cell? ⟨p, 0, none⟩ = some (.pointer (some ⟨g, 0, none⟩)) ∧ w'.cell? ⟨b9, 0, none⟩ = some (.int .u64 (own : Int)) ∧ w'.cell? ⟨b9, 1, none⟩ = some (.int .u64 (xmin : Int)) ∧ w'.cell? ⟨b9, 2, none⟩ = some (.int .u64 (xmax : Int)) ∧ w'.cell? ⟨b9, 3, none⟩ = some (.slice As R.length cs) := fun w' hb => ⟨(KV.box.below hb).cell 0, (bV.below hb).cell 0, (bV.below hb).cell 1, (bV.below hb).cell 2, (bV.below hb).cell 3⟩
      have HSE : ∀ (w' : World) (y : Nat), Below V.heap.size V w' → Calls Try.prog 34 #[.pointer (some ⟨g, 0, none⟩), .agg #[.int .u64 (own : Int), .int .u64 (xmin : Int), .int .u64 (xmax : Int), .slice As R.length cs], .int .u64 (y : Int)] w' fun e w'' => e = .returned (.bool (seesB 1 S own xmax R y)) ∧ Below w'.heap.size w' w'' := fun w' y hb =>
        sees_any w' g 1 own xmin xmax y _ S R F _ (KV.log.below hb) (own_below rV hb) (by obtain ⟨_, _, hv, h1, h2, _⟩ := own_form rV; injection hv with _ _ h3; unfold maxLen at h2; omega)
      replace HS := Lib.hid HS
      replace HSE := Lib.hid HSE
      have HKV := Lib.hid KV
      clear KV bV rV q0 q1 q2 q3 ix
      go_wp2
      go_loopw [10, 35] (fun lv xv wr => ∃ (y : Nat) (A10 : Option Addr) (c10 : Nat), y ≤ 60 ∧ xv = .int .u64 (y : Int) ∧ lv = .slice A10 y c10 ∧ wr.ownsRow V.heap.size 4 1 (.slice A10 y c10) y (bcs S q y) ∧ Below V.heap.size V wr) (fun _ xv _ => 60 - (intOf xv).toNat)
      case atStart => exact ⟨0, none, 0, by omega, rfl, rfl, World.ownsRow_nil _ _ _ _, Below.refl _ _⟩
      case round =>
        obtain ⟨y, A10, c10, hy, rfl, rfl, o2, x2⟩ := hrel
        by_cases hy6 : y < 60
        · have x2d : Below V.heap.size V wr.drew := x2.next (below_n wr 1)
          have o2d := World.ownsRow.drew o2
          have hsl := x2d.size
          have hse := HSE.out wr.drew y x2d
          have hbs := bcs_succ S q y
          have hb0 : Value.bool (seesB 1 S q.own q.xmax q.R y) = Value.bool (seesB 1 S own xmax R y) := by
            have h1 := bcs_at S q (n := y + 1) (y := y) (by omega)
            rw [HBQ.out] at h1
            simp at h1
            rw [h1]
          rw [hb0] at hbs
          generalize seesB 1 S own xmax R y = b at *
          have HSE1 := Lib.hid hse
          clear hse o2 x2 hb0
          go_upto_region 14 with fail
          go_region_held3 (fun w' => w'.cell? ⟨p, 0, none⟩ = some (.pointer (some ⟨g, 0, none⟩)) ∧ w'.cell? ⟨b9, 0, none⟩ = some (.int .u64 (own : Int)) ∧ w'.cell? ⟨b9, 1, none⟩ = some (.int .u64 (xmin : Int)) ∧ w'.cell? ⟨b9, 2, none⟩ = some (.int .u64 (xmax : Int)) ∧ w'.cell? ⟨b9, 3, none⟩ = some (.slice As R.length cs)) (first | (with_reducible assumption) | (with_reducible exact HS.out _ x2d) | (with_reducible exact HS.out _ x5) | (with_reducible exact HS.out _ x5a) | (with_reducible exact HS.out _ x6))
            (first
            | (go_at_call 34; (with_reducible refine (HSE1.out).mono ?_); rintro e w5 ⟨rfl, hb5⟩; have x5 := x2d.next hb5; have o5 := own_below o2d hb5; have x5a := x5.al (.cells #[.bool b] 4); have o5a := own_below o5 ((Below.refl _ _).al (.cells #[.bool b] 4)); have l5a := Bx.new w5 4 #[.bool b] [.bool b] rfl; have hsl5 := x5a.size; clear hb5)
            | (refine step_append_lies _ rfl (.tmp 38) (.tmp 46) 87 rfl V.heap.size 4 _ _ 1 1 Try.underlying87 hi1 hz10 hz11 hz12 rfl (by decide) _ _ _ rfl o5a _ 1 1 [.bool b] rfl rfl (bx_news l5a) (one1 _ rfl) (by decide) (by simp only [maxLen]; omega) (by omega) hsl5 _ rfl ?_; intro gg cg w6 o6 hg6 hat6 hlt6; have x6 := x5a.grown hg6 hsl5 (fun k hk => (o5a.lt k hk).1)))
          go_wp2_with fail
          go_roundw
          case rel => exact ⟨y + 1, some ⟨gg, 0, none⟩, cg, by omega, by go_num, rfl, by rw [hbs]; exact o6, x6⟩
          case measure => simp [intOf]; omega
        · obtain rfl : y = 60 := by omega
          have MW := MV.out.below x2
          have KW := HKV.out.below x2
          have oW := own_le o2 hsz
          have xA := (Below.refl wr.heap.size wr).al (.cells #[.slice A10 60 c10] 87)
          have MX := MW.below xA
          have KX := KW.below xA
          have oX := own_below oW xA
          have lX := Bx.new wr 87 #[.slice A10 60 c10] [.slice A10 60 c10] rfl
          have hsX := KX.mine.size
          have hrX := MX.row
          rw [hMl] at hrX
          clear MW KW oW xA
          go_wp2_with (at_builtin; (refine wpList_append_lies _ rfl (.tmp 49) (.tmp 51) 86 rfl w1.heap.size 87 _ _ 1 24 Try.underlying86 hi2 hz20 hz21 hz22 rfl (by decide) _ _ _ rfl hrX _ 1 1 [.slice A10 60 c10] rfl rfl (bx_news lX) (one1 _ rfl) (by decide) (by simp only [maxLen]; omega) (by omega) hsX _ rfl ?_; intro gg cg w6 o6 hg6 hat6 hlt6; have K6 := KX.grown hrX hg6 (by decide) (by decide) (by decide) (by decide) (by decide); have M6 := ms_more MX hMl hrX hg6 o6 oX; clear KX MX oX lX hrX o6 hg6 hat6 hlt6))
          go_roundw
          case rel => exact ⟨i + 1, some ⟨gg, 0, none⟩, cg, M ++ [(q, A10, c10)], by omega, by rw [List.length_append, hMl]; rfl, by rw [HT.out, ← HMt.out, List.map_append]; rfl, by go_num, rfl, K6, M6⟩
          case measure => simp [intOf]; omega
    · obtain rfl : i = N := by omega
      have hMt' : M.map (fun m => m.1) = L := by rw [hMt, HN.out, List.take_length]
      have HMT := Lib.hid hMt'
      clear hMt hMt'
      go_wp2
      go_loopw [56] (fun jv wr => ∃ (j : Nat) (T : List Nat) (F' : Nat → Prop), j ≤ lb.length ∧ j ≤ 30 ∧ T.length ≤ 30 + j ∧ jv = .int .i64 (j : Int) ∧ Kp w1 wr p g r T F' (.slice A1 i c1) (.slice A2 i c2) L ∧ Ms w1 wr S Aw i cw M ∧ ∀ q ∈ L, Sy S T q) (fun jv _ => lb.length - (intOf jv).toNat)
      case atStart => exact ⟨0, S, F, Nat.zero_le _, by omega, by omega, rfl, K1, M1, hsy0⟩
      case round =>
        obtain ⟨j, T, F', hj, hj30, hTl, rfl, K3, M3, hsy⟩ := hrel
        clear K1 M1 hsy0
        have HSY := Lib.hid hsy
        clear hsy
        by_cases hend : j < lb.length ∧ j < 30
        · obtain ⟨hlt, h30⟩ := hend
          obtain ⟨ad, rfl, q0, q1⟩ := op10_at (R1.out.below (K3.mine.below.mono (Nat.le_refl _))) hlt
          have ix := idx_op10 ad lb.length cb j hlt
          have ho2 := lb[j].h2
          generalize lb[j] = o at *
          obtain ⟨d, hd⟩ : ∃ d, d = o.do_ % 4 := ⟨_, rfl⟩
          obtain ⟨x, hx⟩ : ∃ x, x = o.xid % 60 := ⟨_, rfl⟩
          have ed : ((o.do_ : Int)).tmod 4 = (d : Int) := by rw [hd, Int.tmod_eq_emod_of_nonneg (by omega)]; omega
          have ex : ((o.xid : Int)).tmod 60 = (x : Int) := by rw [hx, Int.tmod_eq_emod_of_nonneg (by omega)]; omega
          have hx6 : x < 60 := by omega
          have hd4 : d < 4 := by omega
          clear hd hx
          have xV : Below wr.heap.size wr (wr.alloc (.cells #[.int .u8 (o.do_ : Int), .int .u64 (o.xid : Int)] 89)) := (Below.refl _ _).al _
          have KV := K3.below xV
          have MV := M3.below xV
          have bV := Bx.new wr 89 #[.int .u8 (o.do_ : Int), .int .u64 (o.xid : Int)] [.int .u8 (o.do_ : Int), .int .u64 (o.xid : Int)] rfl
          have c0 := bV.cell 0
          have k0 := KV.box.cell 0
          clear K3 M3
          go_upto_region 24 with fail
          generalize wr.alloc (.cells #[.int .u8 (o.do_ : Int), .int .u64 (o.xid : Int)] 89) = V at *
          generalize wr.heap.size = b9 at *
          by_cases hd0 : d = 0
          · subst hd0
            have hB := lg_begin _ g 1 T F' KV.log
            have hbl : begL 1 T = T ++ [1] := by unfold begL; rw [if_pos (by omega)]
            obtain ⟨ra, rb, hrab⟩ : ∃ a b : Int, begR 1 T = .tuple #[.int .u64 a, .int .i64 b] := by unfold begR; split <;> exact ⟨_, _, rfl⟩
            rw [hbl, hrab] at hB
            have HC := Lib.hid hB
            clear hB hbl hrab
            go_wp2_with fail
            refine (HC.out).mono ?_
            rintro e w5 ⟨rfl, F5, h5, g5⟩
            have K5 := KV.step h5 g5
            have M5 := MV.step KV.log g5
            clear c0 k0 q0 q1 HC
            go_wp2_with fail
            go_roundw
            case rel => exact ⟨j + 1, _, _, by omega, by omega, by simp; omega, by go_num, K5, M5, fun q hq => sy_begin (HSY.out q hq)⟩
            case measure => simp [intOf]; omega
          · have t0 : ((d : Int) == 0) = false := beq_eq_false_iff_ne.2 (by omega)
            by_cases hd1 : d = 1
            · subst hd1
              have HC := Lib.hid (lg_abort V.drew g 1 x T F' (KV.log.below (below_n _ 1)) (by omega))
              have hel : (endL 1 T x 3).length = T.length := by unfold endL; split <;> simp
              have bVd : Bx V.drew b9 89 [.int .u8 (o.do_ : Int), .int .u64 (o.xid : Int)] := bV.below (below_n _ 1)
              have KVd : Kp w1 V.drew p g r T F' (.slice A1 i c1) (.slice A2 i c2) L := KV.below (below_n _ 1)
              have MVd : Ms w1 V.drew S Aw i cw M := MV.below (below_n _ 1)
              have hS0 : V.drew.cell? ⟨p, 0, none⟩ = some (.pointer (some ⟨g, 0, none⟩)) ∧ V.drew.cell? ⟨b9, 1, none⟩ = some (.int .u64 (o.xid : Int)) := ⟨KVd.box.cell 0, bVd.cell 1⟩
              go_upto_region 27 with fail
              go_region_held3 (fun w' => w'.cell? ⟨p, 0, none⟩ = some (.pointer (some ⟨g, 0, none⟩)) ∧ w'.cell? ⟨b9, 1, none⟩ = some (.int .u64 (o.xid : Int))) (first | (with_reducible assumption))
                (first
                | (go_at_call 17; (with_reducible refine (HC.out).mono ?_); rintro e w5 ⟨rfl, F5, h5, g5⟩; have K5 := KVd.step h5 g5; have M5 := MVd.step KVd.log g5; have hS5 : w5.cell? ⟨p, 0, none⟩ = some (.pointer (some ⟨g, 0, none⟩)) ∧ w5.cell? ⟨b9, 1, none⟩ = some (.int .u64 (o.xid : Int)) := (by have hb := g5.fr.bx bVd (KVd.log.not bVd.ty (by decide) (by decide) (by decide)); exact ⟨K5.box.cell 0, hb.cell 1⟩)))
              go_wp2_with fail
              go_roundw
              case rel => exact ⟨j + 1, _, _, by omega, by omega, by omega, by go_num, K5, M5, fun q hq => sy_end (HSY.out q hq) x 3 (by decide)⟩
              case measure => simp [intOf]; omega
            · have t1 : ((d : Int) == 1) = false := beq_eq_false_iff_ne.2 (by omega)
              have HC := Lib.hid (lg_commit V.drew g 1 x T F' (KV.log.below (below_n _ 1)) (by omega))
              have hel : (endL 1 T x 2).length = T.length := by unfold endL; split <;> simp
              have bVd : Bx V.drew b9 89 [.int .u8 (o.do_ : Int), .int .u64 (o.xid : Int)] := bV.below (below_n _ 1)
              have KVd : Kp w1 V.drew p g r T F' (.slice A1 i c1) (.slice A2 i c2) L := KV.below (below_n _ 1)
              have MVd : Ms w1 V.drew S Aw i cw M := MV.below (below_n _ 1)
              have hS0 : V.drew.cell? ⟨p, 0, none⟩ = some (.pointer (some ⟨g, 0, none⟩)) ∧ V.drew.cell? ⟨b9, 1, none⟩ = some (.int .u64 (o.xid : Int)) := ⟨KVd.box.cell 0, bVd.cell 1⟩
              go_upto_region 23 with fail
              go_region_held3 (fun w' => w'.cell? ⟨p, 0, none⟩ = some (.pointer (some ⟨g, 0, none⟩)) ∧ w'.cell? ⟨b9, 1, none⟩ = some (.int .u64 (o.xid : Int))) (first | (with_reducible assumption))
                (first
                | (go_at_call 15; (with_reducible refine (HC.out).mono ?_); rintro e w5 ⟨rfl, F5, h5, g5⟩; have K5 := KVd.step h5 g5; have M5 := MVd.step KVd.log g5; have hS5 : w5.cell? ⟨p, 0, none⟩ = some (.pointer (some ⟨g, 0, none⟩)) ∧ w5.cell? ⟨b9, 1, none⟩ = some (.int .u64 (o.xid : Int)) := (by have hb := g5.fr.bx bVd (KVd.log.not bVd.ty (by decide) (by decide) (by decide)); exact ⟨K5.box.cell 0, hb.cell 1⟩)))
              go_wp2_with fail
              go_roundw
              case rel => exact ⟨j + 1, _, _, by omega, by omega, by omega, by go_num, K5, M5, fun q hq => sy_end (HSY.out q hq) x 2 (by decide)⟩
              case measure => simp [intOf]; omega
        · rcases (show j = lb.length ∨ (j < lb.length ∧ j = 30) by omega) with hil | ⟨hlt2, hil⟩
          · subst hil
            have hk2 : wr.cell? ⟨p, 2, none⟩ = some (.slice A1 i c1) := K3.box.cell 2
            have K4 := K3
            have M4 := M3
            clear K3 M3
            go_wp2
            go_loopw [97] (fun iv wr => ∃ (k : Nat), k ≤ i ∧ iv = .int .i64 (k : Int) ∧ Kp w1 wr p g r T F' (.slice A1 i c1) (.slice A2 i c2) L ∧ Ms w1 wr S Aw i cw M) (fun iv _ => i - (intOf iv).toNat)
            case atStart => exact ⟨0, Nat.zero_le _, rfl, K4, M4⟩
            case round =>
              obtain ⟨k, hk, rfl, K5, M5⟩ := hrel
              clear K4 M4 hk2
              by_cases hlt5 : k < i
              · have hkL : k < L.length := by rw [← HN.out]; exact hlt5
                have hkM : k < M.length := by omega
                obtain ⟨A', c', hv, _, _, hr⟩ := own_form K5.rs
                injection hv with e1 e2 e3
                subst e1 e3
                obtain ⟨ad2, rfl, s0, s1, s2, s3⟩ := pn_at hr hkL
                have ix2 := idx_sn ad2 i c1 k hlt5
                have hqm : L[k] ∈ L := List.getElem_mem hkL
                have hMq : M[k].1 = L[k] := by
                  have h1 : (M.map (fun m => m.1))[k]? = L[k]? := by rw [HMT.out]
                  rw [List.getElem?_map, List.getElem?_eq_getElem hkM, List.getElem?_eq_getElem hkL] at h1
                  simpa using h1
                have hMm : M[k] ∈ M := List.getElem_mem hkM
                have hrw := M5.row
                obtain ⟨A'', c'', hv2, _, _, hr2⟩ := own_form hrw
                injection hv2 with e4 e5 e6
                subst e4 e6
                have hcm : (M.map fun m => Value.slice m.2.1 60 m.2.2)[k]? = some (.slice M[k].2.1 60 M[k].2.2) := by rw [List.getElem?_map, List.getElem?_eq_getElem hkM]; rfl
                obtain ⟨ad3, rfl, u0⟩ := hr2.2 k _ hcm
                have ix3 := idx_bs ad3 i cw k hlt5
                have hbr := M5.bs M[k] hMm
                rw [hMq] at hbr
                generalize M[k].2.1 = Am at *
                generalize M[k].2.2 = cm at *
                have hrow := (K5.rows L[k] hqm).1
                have hsy := HSY.out L[k] hqm
                generalize L[k] = q at *
                obtain ⟨own, xmin, xmax, R, As, cs, h0, h1, h2, h3, h4, h5⟩ : ∃ own xmin xmax R As cs, own = q.own ∧ xmin = least q.R q.xmax ∧ xmax = q.xmax ∧ R = q.R ∧ As = q.A ∧ cs = q.c := ⟨_, _, _, _, _, _, rfl, rfl, rfl, rfl, rfl, rfl⟩
                have hsm := hsy.same
                have hba : ∀ y, y < 60 → (bcs S q 60)[y]? = some (.bool (seesB 1 S own xmax R y)) := fun y hy => by rw [bcs_at S q hy, h0, h2, h3]
                rw [← h0, ← h2, ← h3] at hsm
                rw [← h0] at s0
                rw [← h1] at s1
                rw [← h2] at s2
                rw [← h3, ← h4, ← h5] at s3 hrow
                have HSM := Lib.hid hsm
                clear hr e2 hr2 e5 hcm hMq hMm hrw h0 h1 h2 h3 h4 h5 hsy hsm
                have xV : Below wr.heap.size wr (wr.alloc (.cells #[.int .u64 (own : Int), .int .u64 (xmin : Int), .int .u64 (xmax : Int), .slice As R.length cs] 76)) := (Below.refl _ _).al _
                have KV := K5.below xV
                have MV := M5.below xV
                have bV := Bx.new wr 76 #[.int .u64 (own : Int), .int .u64 (xmin : Int), .int .u64 (xmax : Int), .slice As R.length cs] [.int .u64 (own : Int), .int .u64 (xmin : Int), .int .u64 (xmax : Int), .slice As R.length cs] rfl
                have rV := own_below hrow xV
                have oV := own_below hbr xV
                have u0V : (wr.alloc (.cells #[.int .u64 (own : Int), .int .u64 (xmin : Int), .int .u64 (xmax : Int), .slice As R.length cs] 76)).cell? (ad3.add k) = some (.slice Am 60 cm) := (World.cell?_alloc_lt wr _ _ (World.block_lt_of_cell? _ _ u0)).trans u0
                clear M5 K5 hrow hbr
                go_upto_region 32 with fail
                generalize wr.alloc (.cells #[.int .u64 (own : Int), .int .u64 (xmin : Int), .int .u64 (xmax : Int), .slice As R.length cs] 76) = V at *
                generalize wr.heap.size = b9 at *
                have hlu : (ad3.add k).block < V.heap.size := World.block_lt_of_cell? _ _ u0V
                have HS : ∀ w', Below V.heap.size V w' → w'.cell? ⟨p, 0, none⟩ = some (.pointer (some ⟨g, 0, none⟩)) ∧ w'.cell? ⟨b9, 0, none⟩ = some (.int .u64 (own : Int)) ∧ w'.cell? ⟨b9, 1, none⟩ = some (.int .u64 (xmin : Int)) ∧ w'.cell? ⟨b9, 2, none⟩ = some (.int .u64 (xmax : Int)) ∧ w'.cell? ⟨b9, 3, none⟩ = some (.slice As R.length cs) ∧ w'.cell? (ad3.add k) = some (.slice Am 60 cm) := fun w' hb => ⟨(KV.box.below hb).cell 0, (bV.below hb).cell 0, (bV.below hb).cell 1, (bV.below hb).cell 2, (bV.below hb).cell 3, (hb.cell hlu).trans u0V⟩
                have HSE : ∀ (w' : World) (y : Nat), Below V.heap.size V w' → Calls Try.prog 34 #[.pointer (some ⟨g, 0, none⟩), .agg #[.int .u64 (own : Int), .int .u64 (xmin : Int), .int .u64 (xmax : Int), .slice As R.length cs], .int .u64 (y : Int)] w' fun e w'' => e = .returned (.bool (seesB 1 T own xmax R y)) ∧ Below w'.heap.size w' w'' := fun w' y hb =>
                  sees_any w' g 1 own xmin xmax y _ T R F' _ (KV.log.below hb) (own_below rV hb) (by obtain ⟨_, _, hv, h1, h2, _⟩ := own_form rV; injection hv with _ _ h3; unfold maxLen at h2; omega)
                have HBA : ∀ (w' : World) (y : Nat), y < 60 → Below V.heap.size V w' → ∃ adm : Addr, Am = some adm ∧ w'.cell? (adm.add y) = some (.bool (seesB 1 S own xmax R y)) := fun w' y hy hb => by
                  obtain ⟨A6, c6, hv6, _, _, hr6⟩ := own_form (own_below oV hb)
                  injection hv6 with e7 e8 e9
                  subst e7
                  exact hr6.2 y _ (hba y hy)
                replace HS := Lib.hid HS
                replace HSE := Lib.hid HSE
                have HKV := Lib.hid KV
                have HMV := Lib.hid MV
                clear KV MV bV rV oV s0 s1 s2 s3 ix2 u0V u0 hba
                go_wp2
                go_loopw [102] (fun xv wr => ∃ (y : Nat), y ≤ 60 ∧ xv = .int .u64 (y : Int) ∧ Below V.heap.size V wr) (fun xv _ => 60 - (intOf xv).toNat)
                case atStart => exact ⟨0, by omega, rfl, Below.refl _ _⟩
                case round =>
                  obtain ⟨y, hy, rfl, x2⟩ := hrel
                  by_cases hy6 : y < 60
                  · have x2d : Below V.heap.size V wr.drew := x2.next (below_n wr 1)
                    by_cases hyo : y = own
                    · have hbq : ((y : Int) != (own : Int)) = false := by rw [hyo]; simp
                      have hS0 := HS.out _ x2d
                      go_upto_region 35 with fail
                      refine wp_region_held_drew (S := (fun w' => w'.cell? ⟨p, 0, none⟩ = some (.pointer (some ⟨g, 0, none⟩)) ∧ w'.cell? ⟨b9, 0, none⟩ = some (.int .u64 (own : Int)) ∧ w'.cell? ⟨b9, 1, none⟩ = some (.int .u64 (xmin : Int)) ∧ w'.cell? ⟨b9, 2, none⟩ = some (.int .u64 (xmax : Int)) ∧ w'.cell? ⟨b9, 3, none⟩ = some (.slice As R.length cs) ∧ w'.cell? (ad3.add k) = some (.slice Am 60 cm))) (by kernel_rfl) ?_ (fun hHeld => ?_)
                      · exact hS0
                      refine wpAnyH_take (i := 0) (oi := { dst := some 105, op := Go.Op.move (Go.Operand.tmp 16), type := 22, pos := "law.go:138", after := #[], guard := none }) (v := ?v1) rfl (by kernel_rfl) (by kernel_rfl) (by kernel_rfl) (fun _ _ _ h => h) (Or.inl ⟨by rfl, ?hy1⟩) (by assumption) ?rest1
                      case hy1 => (intro w' hSw; (try dsimp only at hSw); go_simp <;> with_reducible rfl)
                      (try simp only [Act.put, List.setIfInBounds_toArray, List.set_cons_zero, List.set_cons_succ])
                      refine wpAnyH_take (i := 1) (oi := { dst := some 106, op := Go.Op.fieldAddr 76 (Go.Operand.tmp 15) 0, type := 0, pos := "law.go:138", after := #[], guard := none }) (v := ?v2) rfl (by kernel_rfl) (by kernel_rfl) (by kernel_rfl) (fun _ _ _ h => h) (Or.inl ⟨by rfl, ?hy2⟩) (by assumption) ?rest2
                      case hy2 => (intro w' hSw; (try dsimp only at hSw); go_simp <;> with_reducible rfl)
                      (try simp only [Act.put, List.setIfInBounds_toArray, List.set_cons_zero, List.set_cons_succ])
                      refine wpAnyH_take (i := 2) (oi := { dst := some 107, op := Go.Op.load 22 (Go.Operand.tmp 106), type := 22, pos := "law.go:138", after := #[{ on := 1, ground := Go.Ground.data }], guard := none }) (v := ?v3) rfl (by kernel_rfl) (by kernel_rfl) (by kernel_rfl) (fun _ _ _ h => h) (Or.inl ⟨by rfl, ?hy3⟩) (by assumption) ?rest3
                      case hy3 => (intro w' hSw; (try dsimp only at hSw); go_simp <;> with_reducible rfl)
                      (try simp only [Act.put, List.setIfInBounds_toArray, List.set_cons_zero, List.set_cons_succ])
                      refine wpAnyH_take (i := 3) (oi := { dst := some 108, op := Go.Op.binOp Go.BinOp.neq 22 (Go.Operand.tmp 105) (Go.Operand.tmp 107) 22, type := 4, pos := "law.go:138", after := #[{ on := 0, ground := Go.Ground.data }, { on := 2, ground := Go.Ground.data }], guard := none }) (v := ?v4) rfl (by kernel_rfl) (by kernel_rfl) (by kernel_rfl) (fun _ _ _ h => h) (Or.inl ⟨by rfl, ?hy4⟩) (by assumption) ?rest4
                      case hy4 => (intro w' hSw; (try dsimp only at hSw); go_simp <;> with_reducible rfl)
                      (try simp only [Act.put, List.setIfInBounds_toArray, List.set_cons_zero, List.set_cons_succ])
                      refine wpAnyH_take (i := 4) (oi := { dst := some 109, op := Go.Op.move (Go.Operand.tmp 108), type := 4, pos := "law.go:138", after := #[{ on := 3, ground := Go.Ground.data }], guard := none }) (v := ?v5) rfl (by kernel_rfl) (by kernel_rfl) (by kernel_rfl) (fun _ _ _ h => h) (Or.inl ⟨by rfl, ?hy5⟩) (by assumption) ?rest5
                      case hy5 => (intro w' hSw; (try dsimp only at hSw); go_simp <;> with_reducible rfl)
                      (try simp only [Act.put, List.setIfInBounds_toArray, List.set_cons_zero, List.set_cons_succ])
                      refine wpAnyH_take (i := 5) (oi := { dst := some 110, op := Go.Op.move (Go.Operand.tmp 5), type := 58, pos := "law.go:138", after := #[{ on := 4, ground := Go.Ground.guard }], guard := some (4, true) }) (v := undef) rfl (by kernel_rfl) (by kernel_rfl) (by kernel_rfl) (fun _ _ _ h => h) (Or.inr ⟨by rfl, rfl⟩) (by assumption) ?_
                      (try simp only [Act.put, List.setIfInBounds_toArray, List.set_cons_zero, List.set_cons_succ])
                      refine wpAnyH_take (i := 6) (oi := { dst := some 111, op := Go.Op.nilCheck (Go.Operand.tmp 110), type := 0, pos := "law.go:138", after := #[{ on := 5, ground := Go.Ground.data }, { on := 4, ground := Go.Ground.guard }], guard := some (4, true) }) (v := undef) rfl (by kernel_rfl) (by kernel_rfl) (by kernel_rfl) (fun _ _ _ h => h) (Or.inr ⟨by rfl, rfl⟩) (by assumption) ?_
                      (try simp only [Act.put, List.setIfInBounds_toArray, List.set_cons_zero, List.set_cons_succ])
                      refine wpAnyH_take (i := 7) (oi := { dst := some 112, op := Go.Op.fieldAddr 65 (Go.Operand.tmp 111) 0, type := 0, pos := "law.go:138", after := #[{ on := 6, ground := Go.Ground.data }, { on := 4, ground := Go.Ground.guard }], guard := some (4, true) }) (v := undef) rfl (by kernel_rfl) (by kernel_rfl) (by kernel_rfl) (fun _ _ _ h => h) (Or.inr ⟨by rfl, rfl⟩) (by assumption) ?_
                      (try simp only [Act.put, List.setIfInBounds_toArray, List.set_cons_zero, List.set_cons_succ])
                      refine wpAnyH_take (i := 8) (oi := { dst := some 113, op := Go.Op.load 25 (Go.Operand.tmp 112), type := 25, pos := "law.go:138", after := #[{ on := 7, ground := Go.Ground.data }, { on := 4, ground := Go.Ground.guard }], guard := some (4, true) }) (v := undef) rfl (by kernel_rfl) (by kernel_rfl) (by kernel_rfl) (fun _ _ _ h => h) (Or.inr ⟨by rfl, rfl⟩) (by assumption) ?_
                      (try simp only [Act.put, List.setIfInBounds_toArray, List.set_cons_zero, List.set_cons_succ])
                      refine wpAnyH_take (i := 9) (oi := { dst := some 114, op := Go.Op.load 76 (Go.Operand.tmp 15), type := 76, pos := "law.go:138", after := #[{ on := 4, ground := Go.Ground.guard }], guard := some (4, true) }) (v := undef) rfl (by kernel_rfl) (by kernel_rfl) (by kernel_rfl) (fun _ _ _ h => h) (Or.inr ⟨by rfl, rfl⟩) (by assumption) ?_
                      (try simp only [Act.put, List.setIfInBounds_toArray, List.set_cons_zero, List.set_cons_succ])
                      refine wpAnyH_take (i := 10) (oi := { dst := some 115, op := Go.Op.move (Go.Operand.tmp 16), type := 22, pos := "law.go:138", after := #[{ on := 4, ground := Go.Ground.guard }], guard := some (4, true) }) (v := undef) rfl (by kernel_rfl) (by kernel_rfl) (by kernel_rfl) (fun _ _ _ h => h) (Or.inr ⟨by rfl, rfl⟩) (by assumption) ?_
                      (try simp only [Act.put, List.setIfInBounds_toArray, List.set_cons_zero, List.set_cons_succ])
                      refine wpAnyH_take (i := 11) (oi := { dst := some 116, op := Go.Op.call { callee := Go.Callee.value (Go.Operand.func 34), args := #[Go.Operand.tmp 113, Go.Operand.tmp 114, Go.Operand.tmp 115], argTypes := #[25, 76, 22] }, type := 4, pos := "law.go:138", after := #[{ on := 8, ground := Go.Ground.data }, { on := 9, ground := Go.Ground.data }, { on := 10, ground := Go.Ground.data }, { on := 4, ground := Go.Ground.chain }, { on := 4, ground := Go.Ground.guard }], guard := some (4, true) }) (v := undef) rfl (by kernel_rfl) (by kernel_rfl) (by kernel_rfl) (fun _ _ _ h => h) (Or.inr ⟨by rfl, rfl⟩) (by assumption) ?_
                      (try simp only [Act.put, List.setIfInBounds_toArray, List.set_cons_zero, List.set_cons_succ])
                      refine wpAnyH_take (i := 12) (oi := { dst := some 117, op := Go.Op.move (Go.Operand.tmp 7), type := 86, pos := "law.go:138", after := #[{ on := 4, ground := Go.Ground.guard }], guard := some (4, true) }) (v := undef) rfl (by kernel_rfl) (by kernel_rfl) (by kernel_rfl) (fun _ _ _ h => h) (Or.inr ⟨by rfl, rfl⟩) (by assumption) ?_
                      (try simp only [Act.put, List.setIfInBounds_toArray, List.set_cons_zero, List.set_cons_succ])
                      refine wpAnyH_take (i := 13) (oi := { dst := some 118, op := Go.Op.move (Go.Operand.tmp 14), type := 3, pos := "law.go:138", after := #[{ on := 4, ground := Go.Ground.guard }], guard := some (4, true) }) (v := undef) rfl (by kernel_rfl) (by kernel_rfl) (by kernel_rfl) (fun _ _ _ h => h) (Or.inr ⟨by rfl, rfl⟩) (by assumption) ?_
                      (try simp only [Act.put, List.setIfInBounds_toArray, List.set_cons_zero, List.set_cons_succ])
                      refine wpAnyH_take (i := 14) (oi := { dst := some 119, op := Go.Op.indexAddr 86 (Go.Operand.tmp 117) (Go.Operand.tmp 118), type := 0, pos := "law.go:138", after := #[{ on := 12, ground := Go.Ground.data }, { on := 13, ground := Go.Ground.data }, { on := 4, ground := Go.Ground.guard }], guard := some (4, true) }) (v := undef) rfl (by kernel_rfl) (by kernel_rfl) (by kernel_rfl) (fun _ _ _ h => h) (Or.inr ⟨by rfl, rfl⟩) (by assumption) ?_
                      (try simp only [Act.put, List.setIfInBounds_toArray, List.set_cons_zero, List.set_cons_succ])
                      refine wpAnyH_take (i := 15) (oi := { dst := some 120, op := Go.Op.load 87 (Go.Operand.tmp 119), type := 87, pos := "law.go:138", after := #[{ on := 14, ground := Go.Ground.data }, { on := 4, ground := Go.Ground.guard }], guard := some (4, true) }) (v := undef) rfl (by kernel_rfl) (by kernel_rfl) (by kernel_rfl) (fun _ _ _ h => h) (Or.inr ⟨by rfl, rfl⟩) (by assumption) ?_
                      (try simp only [Act.put, List.setIfInBounds_toArray, List.set_cons_zero, List.set_cons_succ])
                      refine wpAnyH_take (i := 16) (oi := { dst := some 121, op := Go.Op.move (Go.Operand.tmp 16), type := 22, pos := "law.go:138", after := #[{ on := 4, ground := Go.Ground.guard }], guard := some (4, true) }) (v := undef) rfl (by kernel_rfl) (by kernel_rfl) (by kernel_rfl) (fun _ _ _ h => h) (Or.inr ⟨by rfl, rfl⟩) (by assumption) ?_
                      (try simp only [Act.put, List.setIfInBounds_toArray, List.set_cons_zero, List.set_cons_succ])
                      refine wpAnyH_take (i := 17) (oi := { dst := some 122, op := Go.Op.indexAddr 87 (Go.Operand.tmp 120) (Go.Operand.tmp 121), type := 0, pos := "law.go:138", after := #[{ on := 15, ground := Go.Ground.data }, { on := 16, ground := Go.Ground.data }, { on := 4, ground := Go.Ground.guard }], guard := some (4, true) }) (v := undef) rfl (by kernel_rfl) (by kernel_rfl) (by kernel_rfl) (fun _ _ _ h => h) (Or.inr ⟨by rfl, rfl⟩) (by assumption) ?_
                      (try simp only [Act.put, List.setIfInBounds_toArray, List.set_cons_zero, List.set_cons_succ])
                      refine wpAnyH_take (i := 18) (oi := { dst := some 123, op := Go.Op.load 4 (Go.Operand.tmp 122), type := 4, pos := "law.go:138", after := #[{ on := 17, ground := Go.Ground.data }, { on := 4, ground := Go.Ground.guard }], guard := some (4, true) }) (v := undef) rfl (by kernel_rfl) (by kernel_rfl) (by kernel_rfl) (fun _ _ _ h => h) (Or.inr ⟨by rfl, rfl⟩) (by assumption) ?_
                      (try simp only [Act.put, List.setIfInBounds_toArray, List.set_cons_zero, List.set_cons_succ])
                      refine wpAnyH_take (i := 19) (oi := { dst := some 124, op := Go.Op.binOp Go.BinOp.neq 4 (Go.Operand.tmp 116) (Go.Operand.tmp 123) 4, type := 4, pos := "law.go:138", after := #[{ on := 11, ground := Go.Ground.data }, { on := 18, ground := Go.Ground.data }, { on := 4, ground := Go.Ground.guard }], guard := some (4, true) }) (v := undef) rfl (by kernel_rfl) (by kernel_rfl) (by kernel_rfl) (fun _ _ _ h => h) (Or.inr ⟨by rfl, rfl⟩) (by assumption) ?_
                      (try simp only [Act.put, List.setIfInBounds_toArray, List.set_cons_zero, List.set_cons_succ])
                      refine wpAnyH_take (i := 20) (oi := { dst := some 125, op := Go.Op.pick (Go.Operand.tmp 109) (Go.Operand.tmp 124) (Go.Operand.const (Go.Value.bool false)), type := 4, pos := "law.go:138", after := #[{ on := 4, ground := Go.Ground.data }, { on := 19, ground := Go.Ground.data }], guard := none }) (v := ?v6) rfl (by kernel_rfl) (by kernel_rfl) (by kernel_rfl) (fun _ _ _ h => h) (Or.inl ⟨by rfl, ?hy6⟩) (by assumption) ?rest6
                      case hy6 => (intro w' hSw; (try dsimp only at hSw); go_simp <;> with_reducible rfl)
                      (try simp only [Act.put, List.setIfInBounds_toArray, List.set_cons_zero, List.set_cons_succ])
                      refine wpAnyH_done (by kernel_rfl) ?_ _
                      go_wp2_with fail
                      go_roundw
                      case rel => exact ⟨y + 1, by omega, by go_num, x2d⟩
                      case measure => simp [intOf]; omega
                    · have hbq : ((y : Int) != (own : Int)) = true := by simp; omega
                      have hse := HSE.out wr.drew y x2d
                      rw [HSM.out y hyo] at hse
                      obtain ⟨adm, hAm, u1⟩ := HBA wr.drew y hy6 x2d
                      subst hAm
                      have ix4 := idx_bo adm 60 cm y hy6
                      have hlm : (adm.add y).block < wr.drew.heap.size := World.block_lt_of_cell? _ _ u1
                      generalize seesB 1 S own xmax R y = b at *
                      have HSE1 := Lib.hid hse
                      have HS1 : ∀ w', Below wr.drew.heap.size wr.drew w' → (w'.cell? ⟨p, 0, none⟩ = some (.pointer (some ⟨g, 0, none⟩)) ∧ w'.cell? ⟨b9, 0, none⟩ = some (.int .u64 (own : Int)) ∧ w'.cell? ⟨b9, 1, none⟩ = some (.int .u64 (xmin : Int)) ∧ w'.cell? ⟨b9, 2, none⟩ = some (.int .u64 (xmax : Int)) ∧ w'.cell? ⟨b9, 3, none⟩ = some (.slice As R.length cs) ∧ w'.cell? (ad3.add k) = some (.slice (some adm) 60 cm)) ∧ w'.cell? (adm.add y) = some (.bool b) := fun w' hb => ⟨HS.out _ (x2d.next hb), (hb.cell hlm).trans u1⟩
                      replace HS1 := Lib.hid HS1
                      clear hse
                      go_upto_region 35 with fail
                      go_region_held3 (fun w' => (w'.cell? ⟨p, 0, none⟩ = some (.pointer (some ⟨g, 0, none⟩)) ∧ w'.cell? ⟨b9, 0, none⟩ = some (.int .u64 (own : Int)) ∧ w'.cell? ⟨b9, 1, none⟩ = some (.int .u64 (xmin : Int)) ∧ w'.cell? ⟨b9, 2, none⟩ = some (.int .u64 (xmax : Int)) ∧ w'.cell? ⟨b9, 3, none⟩ = some (.slice As R.length cs) ∧ w'.cell? (ad3.add k) = some (.slice (some adm) 60 cm)) ∧ w'.cell? (adm.add y) = some (.bool b)) (first | (with_reducible assumption) | (with_reducible exact HS1.out _ (Below.refl _ _)) | (with_reducible exact HS1.out _ hb6))
                        (first
                        | (go_at_call 34; (with_reducible refine (HSE1.out).mono ?_); rintro e w6 ⟨rfl, hb6⟩; have x6 := x2d.next hb6))
                      go_wp2_with fail
                      go_roundw
                      case rel => exact ⟨y + 1, by omega, by go_num, x6⟩
                      case measure => simp [intOf]; omega
                  · obtain rfl : y = 60 := by omega
                    have K6 := HKV.out.below x2
                    have M6 := HMV.out.below x2
                    go_wp2_with fail
                    go_roundw
                    case rel => exact ⟨k + 1, by omega, by go_num, K6, M6⟩
                    case measure => simp [intOf]; omega
              · obtain rfl : k = i := by omega
                have hbel := hb1.trans (K5.mine.below.mono hb1.size)
                clear K5 M5
                go_wp2_with fail
                go_ret
                exact ⟨rfl, hbel⟩
          · obtain ⟨ad, rfl, q0, q1⟩ := op10_at (R1.out.below (K3.mine.below.mono (Nat.le_refl _))) hlt2
            have ix := idx_op10 ad lb.length cb j hlt2
            generalize lb[j] = o at *
            have h30 : (30 : Int) ≤ (j : Int) := by omega
            have xV : Below wr.heap.size wr (wr.alloc (.cells #[.int .u8 (o.do_ : Int), .int .u64 (o.xid : Int)] 89)) := (Below.refl _ _).al _
            have K4 := K3.below xV
            have M4 := M3.below xV
            have hk2 : (wr.alloc (.cells #[.int .u8 (o.do_ : Int), .int .u64 (o.xid : Int)] 89)).cell? ⟨p, 2, none⟩ = some (.slice A1 i c1) := K4.box.cell 2
            clear K3 M3 xV hil hj30
            go_wp2
            go_loopw [97] (fun iv wr => ∃ (k : Nat), k ≤ i ∧ iv = .int .i64 (k : Int) ∧ Kp w1 wr p g r T F' (.slice A1 i c1) (.slice A2 i c2) L ∧ Ms w1 wr S Aw i cw M) (fun iv _ => i - (intOf iv).toNat)
            case atStart => exact ⟨0, Nat.zero_le _, rfl, K4, M4⟩
            case round =>
              obtain ⟨k, hk, rfl, K5, M5⟩ := hrel
              clear K4 M4 hk2
              by_cases hlt5 : k < i
              · have hkL : k < L.length := by rw [← HN.out]; exact hlt5
                have hkM : k < M.length := by omega
                obtain ⟨A', c', hv, _, _, hr⟩ := own_form K5.rs
                injection hv with e1 e2 e3
                subst e1 e3
                obtain ⟨ad2, rfl, s0, s1, s2, s3⟩ := pn_at hr hkL
                have ix2 := idx_sn ad2 i c1 k hlt5
                have hqm : L[k] ∈ L := List.getElem_mem hkL
                have hMq : M[k].1 = L[k] := by
                  have h1 : (M.map (fun m => m.1))[k]? = L[k]? := by rw [HMT.out]
                  rw [List.getElem?_map, List.getElem?_eq_getElem hkM, List.getElem?_eq_getElem hkL] at h1
                  simpa using h1
                have hMm : M[k] ∈ M := List.getElem_mem hkM
                have hrw := M5.row
                obtain ⟨A'', c'', hv2, _, _, hr2⟩ := own_form hrw
                injection hv2 with e4 e5 e6
                subst e4 e6
                have hcm : (M.map fun m => Value.slice m.2.1 60 m.2.2)[k]? = some (.slice M[k].2.1 60 M[k].2.2) := by rw [List.getElem?_map, List.getElem?_eq_getElem hkM]; rfl
                obtain ⟨ad3, rfl, u0⟩ := hr2.2 k _ hcm
                have ix3 := idx_bs ad3 i cw k hlt5
                have hbr := M5.bs M[k] hMm
                rw [hMq] at hbr
                generalize M[k].2.1 = Am at *
                generalize M[k].2.2 = cm at *
                have hrow := (K5.rows L[k] hqm).1
                have hsy := HSY.out L[k] hqm
                generalize L[k] = q at *
                obtain ⟨own, xmin, xmax, R, As, cs, h0, h1, h2, h3, h4, h5⟩ : ∃ own xmin xmax R As cs, own = q.own ∧ xmin = least q.R q.xmax ∧ xmax = q.xmax ∧ R = q.R ∧ As = q.A ∧ cs = q.c := ⟨_, _, _, _, _, _, rfl, rfl, rfl, rfl, rfl, rfl⟩
                have hsm := hsy.same
                have hba : ∀ y, y < 60 → (bcs S q 60)[y]? = some (.bool (seesB 1 S own xmax R y)) := fun y hy => by rw [bcs_at S q hy, h0, h2, h3]
                rw [← h0, ← h2, ← h3] at hsm
                rw [← h0] at s0
                rw [← h1] at s1
                rw [← h2] at s2
                rw [← h3, ← h4, ← h5] at s3 hrow
                have HSM := Lib.hid hsm
                clear hr e2 hr2 e5 hcm hMq hMm hrw h0 h1 h2 h3 h4 h5 hsy hsm
                have xV : Below wr.heap.size wr (wr.alloc (.cells #[.int .u64 (own : Int), .int .u64 (xmin : Int), .int .u64 (xmax : Int), .slice As R.length cs] 76)) := (Below.refl _ _).al _
                have KV := K5.below xV
                have MV := M5.below xV
                have bV := Bx.new wr 76 #[.int .u64 (own : Int), .int .u64 (xmin : Int), .int .u64 (xmax : Int), .slice As R.length cs] [.int .u64 (own : Int), .int .u64 (xmin : Int), .int .u64 (xmax : Int), .slice As R.length cs] rfl
                have rV := own_below hrow xV
                have oV := own_below hbr xV
                have u0V : (wr.alloc (.cells #[.int .u64 (own : Int), .int .u64 (xmin : Int), .int .u64 (xmax : Int), .slice As R.length cs] 76)).cell? (ad3.add k) = some (.slice Am 60 cm) := (World.cell?_alloc_lt wr _ _ (World.block_lt_of_cell? _ _ u0)).trans u0
                clear M5 K5 hrow hbr
                go_upto_region 32 with fail
                generalize wr.alloc (.cells #[.int .u64 (own : Int), .int .u64 (xmin : Int), .int .u64 (xmax : Int), .slice As R.length cs] 76) = V at *
                generalize wr.heap.size = b9 at *
                have hlu : (ad3.add k).block < V.heap.size := World.block_lt_of_cell? _ _ u0V
                have HS : ∀ w', Below V.heap.size V w' → w'.cell? ⟨p, 0, none⟩ = some (.pointer (some ⟨g, 0, none⟩)) ∧ w'.cell? ⟨b9, 0, none⟩ = some (.int .u64 (own : Int)) ∧ w'.cell? ⟨b9, 1, none⟩ = some (.int .u64 (xmin : Int)) ∧ w'.cell? ⟨b9, 2, none⟩ = some (.int .u64 (xmax : Int)) ∧ w'.cell? ⟨b9, 3, none⟩ = some (.slice As R.length cs) ∧ w'.cell? (ad3.add k) = some (.slice Am 60 cm) := fun w' hb => ⟨(KV.box.below hb).cell 0, (bV.below hb).cell 0, (bV.below hb).cell 1, (bV.below hb).cell 2, (bV.below hb).cell 3, (hb.cell hlu).trans u0V⟩
                have HSE : ∀ (w' : World) (y : Nat), Below V.heap.size V w' → Calls Try.prog 34 #[.pointer (some ⟨g, 0, none⟩), .agg #[.int .u64 (own : Int), .int .u64 (xmin : Int), .int .u64 (xmax : Int), .slice As R.length cs], .int .u64 (y : Int)] w' fun e w'' => e = .returned (.bool (seesB 1 T own xmax R y)) ∧ Below w'.heap.size w' w'' := fun w' y hb =>
                  sees_any w' g 1 own xmin xmax y _ T R F' _ (KV.log.below hb) (own_below rV hb) (by obtain ⟨_, _, hv, h1, h2, _⟩ := own_form rV; injection hv with _ _ h3; unfold maxLen at h2; omega)
                have HBA : ∀ (w' : World) (y : Nat), y < 60 → Below V.heap.size V w' → ∃ adm : Addr, Am = some adm ∧ w'.cell? (adm.add y) = some (.bool (seesB 1 S own xmax R y)) := fun w' y hy hb => by
                  obtain ⟨A6, c6, hv6, _, _, hr6⟩ := own_form (own_below oV hb)
                  injection hv6 with e7 e8 e9
                  subst e7
                  exact hr6.2 y _ (hba y hy)
                replace HS := Lib.hid HS
                replace HSE := Lib.hid HSE
                have HKV := Lib.hid KV
                have HMV := Lib.hid MV
                clear KV MV bV rV oV s0 s1 s2 s3 ix2 u0V u0 hba
                go_wp2
                go_loopw [102] (fun xv wr => ∃ (y : Nat), y ≤ 60 ∧ xv = .int .u64 (y : Int) ∧ Below V.heap.size V wr) (fun xv _ => 60 - (intOf xv).toNat)
                case atStart => exact ⟨0, by omega, rfl, Below.refl _ _⟩
                case round =>
                  obtain ⟨y, hy, rfl, x2⟩ := hrel
                  by_cases hy6 : y < 60
                  · have x2d : Below V.heap.size V wr.drew := x2.next (below_n wr 1)
                    by_cases hyo : y = own
                    · have hbq : ((y : Int) != (own : Int)) = false := by rw [hyo]; simp
                      have hS0 := HS.out _ x2d
                      go_upto_region 35 with fail
                      refine wp_region_held_drew (S := (fun w' => w'.cell? ⟨p, 0, none⟩ = some (.pointer (some ⟨g, 0, none⟩)) ∧ w'.cell? ⟨b9, 0, none⟩ = some (.int .u64 (own : Int)) ∧ w'.cell? ⟨b9, 1, none⟩ = some (.int .u64 (xmin : Int)) ∧ w'.cell? ⟨b9, 2, none⟩ = some (.int .u64 (xmax : Int)) ∧ w'.cell? ⟨b9, 3, none⟩ = some (.slice As R.length cs) ∧ w'.cell? (ad3.add k) = some (.slice Am 60 cm))) (by kernel_rfl) ?_ (fun hHeld => ?_)
                      · exact hS0
                      refine wpAnyH_take (i := 0) (oi := { dst := some 105, op := Go.Op.move (Go.Operand.tmp 16), type := 22, pos := "law.go:138", after := #[], guard := none }) (v := ?v7) rfl (by kernel_rfl) (by kernel_rfl) (by kernel_rfl) (fun _ _ _ h => h) (Or.inl ⟨by rfl, ?hy7⟩) (by assumption) ?rest7
                      case hy7 => (intro w' hSw; (try dsimp only at hSw); go_simp <;> with_reducible rfl)
                      (try simp only [Act.put, List.setIfInBounds_toArray, List.set_cons_zero, List.set_cons_succ])
                      refine wpAnyH_take (i := 1) (oi := { dst := some 106, op := Go.Op.fieldAddr 76 (Go.Operand.tmp 15) 0, type := 0, pos := "law.go:138", after := #[], guard := none }) (v := ?v8) rfl (by kernel_rfl) (by kernel_rfl) (by kernel_rfl) (fun _ _ _ h => h) (Or.inl ⟨by rfl, ?hy8⟩) (by assumption) ?rest8
                      case hy8 => (intro w' hSw; (try dsimp only at hSw); go_simp <;> with_reducible rfl)
                      (try simp only [Act.put, List.setIfInBounds_toArray, List.set_cons_zero, List.set_cons_succ])
                      refine wpAnyH_take (i := 2) (oi := { dst := some 107, op := Go.Op.load 22 (Go.Operand.tmp 106), type := 22, pos := "law.go:138", after := #[{ on := 1, ground := Go.Ground.data }], guard := none }) (v := ?v9) rfl (by kernel_rfl) (by kernel_rfl) (by kernel_rfl) (fun _ _ _ h => h) (Or.inl ⟨by rfl, ?hy9⟩) (by assumption) ?rest9
                      case hy9 => (intro w' hSw; (try dsimp only at hSw); go_simp <;> with_reducible rfl)
                      (try simp only [Act.put, List.setIfInBounds_toArray, List.set_cons_zero, List.set_cons_succ])
                      refine wpAnyH_take (i := 3) (oi := { dst := some 108, op := Go.Op.binOp Go.BinOp.neq 22 (Go.Operand.tmp 105) (Go.Operand.tmp 107) 22, type := 4, pos := "law.go:138", after := #[{ on := 0, ground := Go.Ground.data }, { on := 2, ground := Go.Ground.data }], guard := none }) (v := ?v10) rfl (by kernel_rfl) (by kernel_rfl) (by kernel_rfl) (fun _ _ _ h => h) (Or.inl ⟨by rfl, ?hy10⟩) (by assumption) ?rest10
                      case hy10 => (intro w' hSw; (try dsimp only at hSw); go_simp <;> with_reducible rfl)
                      (try simp only [Act.put, List.setIfInBounds_toArray, List.set_cons_zero, List.set_cons_succ])
                      refine wpAnyH_take (i := 4) (oi := { dst := some 109, op := Go.Op.move (Go.Operand.tmp 108), type := 4, pos := "law.go:138", after := #[{ on := 3, ground := Go.Ground.data }], guard := none }) (v := ?v11) rfl (by kernel_rfl) (by kernel_rfl) (by kernel_rfl) (fun _ _ _ h => h) (Or.inl ⟨by rfl, ?hy11⟩) (by assumption) ?rest11
                      case hy11 => (intro w' hSw; (try dsimp only at hSw); go_simp <;> with_reducible rfl)
                      (try simp only [Act.put, List.setIfInBounds_toArray, List.set_cons_zero, List.set_cons_succ])
                      refine wpAnyH_take (i := 5) (oi := { dst := some 110, op := Go.Op.move (Go.Operand.tmp 5), type := 58, pos := "law.go:138", after := #[{ on := 4, ground := Go.Ground.guard }], guard := some (4, true) }) (v := undef) rfl (by kernel_rfl) (by kernel_rfl) (by kernel_rfl) (fun _ _ _ h => h) (Or.inr ⟨by rfl, rfl⟩) (by assumption) ?_
                      (try simp only [Act.put, List.setIfInBounds_toArray, List.set_cons_zero, List.set_cons_succ])
                      refine wpAnyH_take (i := 6) (oi := { dst := some 111, op := Go.Op.nilCheck (Go.Operand.tmp 110), type := 0, pos := "law.go:138", after := #[{ on := 5, ground := Go.Ground.data }, { on := 4, ground := Go.Ground.guard }], guard := some (4, true) }) (v := undef) rfl (by kernel_rfl) (by kernel_rfl) (by kernel_rfl) (fun _ _ _ h => h) (Or.inr ⟨by rfl, rfl⟩) (by assumption) ?_
                      (try simp only [Act.put, List.setIfInBounds_toArray, List.set_cons_zero, List.set_cons_succ])
                      refine wpAnyH_take (i := 7) (oi := { dst := some 112, op := Go.Op.fieldAddr 65 (Go.Operand.tmp 111) 0, type := 0, pos := "law.go:138", after := #[{ on := 6, ground := Go.Ground.data }, { on := 4, ground := Go.Ground.guard }], guard := some (4, true) }) (v := undef) rfl (by kernel_rfl) (by kernel_rfl) (by kernel_rfl) (fun _ _ _ h => h) (Or.inr ⟨by rfl, rfl⟩) (by assumption) ?_
                      (try simp only [Act.put, List.setIfInBounds_toArray, List.set_cons_zero, List.set_cons_succ])
                      refine wpAnyH_take (i := 8) (oi := { dst := some 113, op := Go.Op.load 25 (Go.Operand.tmp 112), type := 25, pos := "law.go:138", after := #[{ on := 7, ground := Go.Ground.data }, { on := 4, ground := Go.Ground.guard }], guard := some (4, true) }) (v := undef) rfl (by kernel_rfl) (by kernel_rfl) (by kernel_rfl) (fun _ _ _ h => h) (Or.inr ⟨by rfl, rfl⟩) (by assumption) ?_
                      (try simp only [Act.put, List.setIfInBounds_toArray, List.set_cons_zero, List.set_cons_succ])
                      refine wpAnyH_take (i := 9) (oi := { dst := some 114, op := Go.Op.load 76 (Go.Operand.tmp 15), type := 76, pos := "law.go:138", after := #[{ on := 4, ground := Go.Ground.guard }], guard := some (4, true) }) (v := undef) rfl (by kernel_rfl) (by kernel_rfl) (by kernel_rfl) (fun _ _ _ h => h) (Or.inr ⟨by rfl, rfl⟩) (by assumption) ?_
                      (try simp only [Act.put, List.setIfInBounds_toArray, List.set_cons_zero, List.set_cons_succ])
                      refine wpAnyH_take (i := 10) (oi := { dst := some 115, op := Go.Op.move (Go.Operand.tmp 16), type := 22, pos := "law.go:138", after := #[{ on := 4, ground := Go.Ground.guard }], guard := some (4, true) }) (v := undef) rfl (by kernel_rfl) (by kernel_rfl) (by kernel_rfl) (fun _ _ _ h => h) (Or.inr ⟨by rfl, rfl⟩) (by assumption) ?_
                      (try simp only [Act.put, List.setIfInBounds_toArray, List.set_cons_zero, List.set_cons_succ])
                      refine wpAnyH_take (i := 11) (oi := { dst := some 116, op := Go.Op.call { callee := Go.Callee.value (Go.Operand.func 34), args := #[Go.Operand.tmp 113, Go.Operand.tmp 114, Go.Operand.tmp 115], argTypes := #[25, 76, 22] }, type := 4, pos := "law.go:138", after := #[{ on := 8, ground := Go.Ground.data }, { on := 9, ground := Go.Ground.data }, { on := 10, ground := Go.Ground.data }, { on := 4, ground := Go.Ground.chain }, { on := 4, ground := Go.Ground.guard }], guard := some (4, true) }) (v := undef) rfl (by kernel_rfl) (by kernel_rfl) (by kernel_rfl) (fun _ _ _ h => h) (Or.inr ⟨by rfl, rfl⟩) (by assumption) ?_
                      (try simp only [Act.put, List.setIfInBounds_toArray, List.set_cons_zero, List.set_cons_succ])
                      refine wpAnyH_take (i := 12) (oi := { dst := some 117, op := Go.Op.move (Go.Operand.tmp 7), type := 86, pos := "law.go:138", after := #[{ on := 4, ground := Go.Ground.guard }], guard := some (4, true) }) (v := undef) rfl (by kernel_rfl) (by kernel_rfl) (by kernel_rfl) (fun _ _ _ h => h) (Or.inr ⟨by rfl, rfl⟩) (by assumption) ?_
                      (try simp only [Act.put, List.setIfInBounds_toArray, List.set_cons_zero, List.set_cons_succ])
                      refine wpAnyH_take (i := 13) (oi := { dst := some 118, op := Go.Op.move (Go.Operand.tmp 14), type := 3, pos := "law.go:138", after := #[{ on := 4, ground := Go.Ground.guard }], guard := some (4, true) }) (v := undef) rfl (by kernel_rfl) (by kernel_rfl) (by kernel_rfl) (fun _ _ _ h => h) (Or.inr ⟨by rfl, rfl⟩) (by assumption) ?_
                      (try simp only [Act.put, List.setIfInBounds_toArray, List.set_cons_zero, List.set_cons_succ])
                      refine wpAnyH_take (i := 14) (oi := { dst := some 119, op := Go.Op.indexAddr 86 (Go.Operand.tmp 117) (Go.Operand.tmp 118), type := 0, pos := "law.go:138", after := #[{ on := 12, ground := Go.Ground.data }, { on := 13, ground := Go.Ground.data }, { on := 4, ground := Go.Ground.guard }], guard := some (4, true) }) (v := undef) rfl (by kernel_rfl) (by kernel_rfl) (by kernel_rfl) (fun _ _ _ h => h) (Or.inr ⟨by rfl, rfl⟩) (by assumption) ?_
                      (try simp only [Act.put, List.setIfInBounds_toArray, List.set_cons_zero, List.set_cons_succ])
                      refine wpAnyH_take (i := 15) (oi := { dst := some 120, op := Go.Op.load 87 (Go.Operand.tmp 119), type := 87, pos := "law.go:138", after := #[{ on := 14, ground := Go.Ground.data }, { on := 4, ground := Go.Ground.guard }], guard := some (4, true) }) (v := undef) rfl (by kernel_rfl) (by kernel_rfl) (by kernel_rfl) (fun _ _ _ h => h) (Or.inr ⟨by rfl, rfl⟩) (by assumption) ?_
                      (try simp only [Act.put, List.setIfInBounds_toArray, List.set_cons_zero, List.set_cons_succ])
                      refine wpAnyH_take (i := 16) (oi := { dst := some 121, op := Go.Op.move (Go.Operand.tmp 16), type := 22, pos := "law.go:138", after := #[{ on := 4, ground := Go.Ground.guard }], guard := some (4, true) }) (v := undef) rfl (by kernel_rfl) (by kernel_rfl) (by kernel_rfl) (fun _ _ _ h => h) (Or.inr ⟨by rfl, rfl⟩) (by assumption) ?_
                      (try simp only [Act.put, List.setIfInBounds_toArray, List.set_cons_zero, List.set_cons_succ])
                      refine wpAnyH_take (i := 17) (oi := { dst := some 122, op := Go.Op.indexAddr 87 (Go.Operand.tmp 120) (Go.Operand.tmp 121), type := 0, pos := "law.go:138", after := #[{ on := 15, ground := Go.Ground.data }, { on := 16, ground := Go.Ground.data }, { on := 4, ground := Go.Ground.guard }], guard := some (4, true) }) (v := undef) rfl (by kernel_rfl) (by kernel_rfl) (by kernel_rfl) (fun _ _ _ h => h) (Or.inr ⟨by rfl, rfl⟩) (by assumption) ?_
                      (try simp only [Act.put, List.setIfInBounds_toArray, List.set_cons_zero, List.set_cons_succ])
                      refine wpAnyH_take (i := 18) (oi := { dst := some 123, op := Go.Op.load 4 (Go.Operand.tmp 122), type := 4, pos := "law.go:138", after := #[{ on := 17, ground := Go.Ground.data }, { on := 4, ground := Go.Ground.guard }], guard := some (4, true) }) (v := undef) rfl (by kernel_rfl) (by kernel_rfl) (by kernel_rfl) (fun _ _ _ h => h) (Or.inr ⟨by rfl, rfl⟩) (by assumption) ?_
                      (try simp only [Act.put, List.setIfInBounds_toArray, List.set_cons_zero, List.set_cons_succ])
                      refine wpAnyH_take (i := 19) (oi := { dst := some 124, op := Go.Op.binOp Go.BinOp.neq 4 (Go.Operand.tmp 116) (Go.Operand.tmp 123) 4, type := 4, pos := "law.go:138", after := #[{ on := 11, ground := Go.Ground.data }, { on := 18, ground := Go.Ground.data }, { on := 4, ground := Go.Ground.guard }], guard := some (4, true) }) (v := undef) rfl (by kernel_rfl) (by kernel_rfl) (by kernel_rfl) (fun _ _ _ h => h) (Or.inr ⟨by rfl, rfl⟩) (by assumption) ?_
                      (try simp only [Act.put, List.setIfInBounds_toArray, List.set_cons_zero, List.set_cons_succ])
                      refine wpAnyH_take (i := 20) (oi := { dst := some 125, op := Go.Op.pick (Go.Operand.tmp 109) (Go.Operand.tmp 124) (Go.Operand.const (Go.Value.bool false)), type := 4, pos := "law.go:138", after := #[{ on := 4, ground := Go.Ground.data }, { on := 19, ground := Go.Ground.data }], guard := none }) (v := ?v12) rfl (by kernel_rfl) (by kernel_rfl) (by kernel_rfl) (fun _ _ _ h => h) (Or.inl ⟨by rfl, ?hy12⟩) (by assumption) ?rest12
                      case hy12 => (intro w' hSw; (try dsimp only at hSw); go_simp <;> with_reducible rfl)
                      (try simp only [Act.put, List.setIfInBounds_toArray, List.set_cons_zero, List.set_cons_succ])
                      refine wpAnyH_done (by kernel_rfl) ?_ _
                      go_wp2_with fail
                      go_roundw
                      case rel => exact ⟨y + 1, by omega, by go_num, x2d⟩
                      case measure => simp [intOf]; omega
                    · have hbq : ((y : Int) != (own : Int)) = true := by simp; omega
                      have hse := HSE.out wr.drew y x2d
                      rw [HSM.out y hyo] at hse
                      obtain ⟨adm, hAm, u1⟩ := HBA wr.drew y hy6 x2d
                      subst hAm
                      have ix4 := idx_bo adm 60 cm y hy6
                      have hlm : (adm.add y).block < wr.drew.heap.size := World.block_lt_of_cell? _ _ u1
                      generalize seesB 1 S own xmax R y = b at *
                      have HSE1 := Lib.hid hse
                      have HS1 : ∀ w', Below wr.drew.heap.size wr.drew w' → (w'.cell? ⟨p, 0, none⟩ = some (.pointer (some ⟨g, 0, none⟩)) ∧ w'.cell? ⟨b9, 0, none⟩ = some (.int .u64 (own : Int)) ∧ w'.cell? ⟨b9, 1, none⟩ = some (.int .u64 (xmin : Int)) ∧ w'.cell? ⟨b9, 2, none⟩ = some (.int .u64 (xmax : Int)) ∧ w'.cell? ⟨b9, 3, none⟩ = some (.slice As R.length cs) ∧ w'.cell? (ad3.add k) = some (.slice (some adm) 60 cm)) ∧ w'.cell? (adm.add y) = some (.bool b) := fun w' hb => ⟨HS.out _ (x2d.next hb), (hb.cell hlm).trans u1⟩
                      replace HS1 := Lib.hid HS1
                      clear hse
                      go_upto_region 35 with fail
                      go_region_held3 (fun w' => (w'.cell? ⟨p, 0, none⟩ = some (.pointer (some ⟨g, 0, none⟩)) ∧ w'.cell? ⟨b9, 0, none⟩ = some (.int .u64 (own : Int)) ∧ w'.cell? ⟨b9, 1, none⟩ = some (.int .u64 (xmin : Int)) ∧ w'.cell? ⟨b9, 2, none⟩ = some (.int .u64 (xmax : Int)) ∧ w'.cell? ⟨b9, 3, none⟩ = some (.slice As R.length cs) ∧ w'.cell? (ad3.add k) = some (.slice (some adm) 60 cm)) ∧ w'.cell? (adm.add y) = some (.bool b)) (first | (with_reducible assumption) | (with_reducible exact HS1.out _ (Below.refl _ _)) | (with_reducible exact HS1.out _ hb6))
                        (first
                        | (go_at_call 34; (with_reducible refine (HSE1.out).mono ?_); rintro e w6 ⟨rfl, hb6⟩; have x6 := x2d.next hb6))
                      go_wp2_with fail
                      go_roundw
                      case rel => exact ⟨y + 1, by omega, by go_num, x6⟩
                      case measure => simp [intOf]; omega
                  · obtain rfl : y = 60 := by omega
                    have K6 := HKV.out.below x2
                    have M6 := HMV.out.below x2
                    go_wp2_with fail
                    go_roundw
                    case rel => exact ⟨k + 1, by omega, by go_num, K6, M6⟩
                    case measure => simp [intOf]; omega
              · obtain rfl : k = i := by omega
                have hbel := hb1.trans (K5.mine.below.mono hb1.size)
                clear K5 M5
                go_wp2_with fail
                go_ret
                exact ⟨rfl, hbel⟩
end Go.Proofs.Ytjkjomooklhdbaa.snapStays
