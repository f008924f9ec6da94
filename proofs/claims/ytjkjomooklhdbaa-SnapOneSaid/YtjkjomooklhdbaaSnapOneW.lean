/-
  SnapOne: the walk: the law answers true; of what was there nothing has turned.
-/
import Derived.Test.YtjkjomooklhdbaaSnapK
import Derived.Test.YtjkjomooklhdbaaSnapF
import Derived.Test.YtjkjomooklhdbaaPlayB
import Derived.Test.YtjkjomooklhdbaaMapU
import Derived.Test.YtjkjomooklhdbaaOpen9
import Derived.Deep.DeepCutAuto
import Derived.Deep.RegionHeld3
import Derived.Deep.AppendLies
namespace Go.Proofs.Ytjkjomooklhdbaa.snapOne
open Go.RowKit Go.Maps
set_option linter.unusedVariables false

set_option maxRecDepth 100000 in
def EU : El 4 Unit where
  L _ := .bool true
  V _ := .bool true
  zl := .bool false
  zv := .bool false
  zero w := Try.zeroValue4 w
  pz := plainElem_bool Try.underlying4 false
  pv a := plainElem_bool Try.underlying4 true
  iz v ps h := by
    unfold plainElem at h
    rw [Try.underlying4] at h
    cases v <;> simp at h
    rw [h.1]
  iv a v ps h := by
    unfold plainElem at h
    rw [Try.underlying4] at h
    cases v <;> simp at h
    rw [h.1]
/-- A row's versions: each ended by who made the next one. -/
def lk (X : List Nat) : List (Nat × Nat) := (List.range X.length).map fun k => (X[k]?.getD 0, X[k + 1]?.getD 0)
def pre (X : List Nat) (a : Nat) : List (Nat × Nat) := (List.range X.length).map fun k => (X[k]?.getD 0, (X ++ [a])[k + 1]?.getD 0)
theorem lk_len (X : List Nat) : (lk X).length = X.length := by simp [lk]
theorem pre_len (X : List Nat) (a : Nat) : (pre X a).length = X.length := by simp [pre]
theorem lk_snoc (X : List Nat) (a : Nat) : lk (X ++ [a]) = pre X a ++ [(a, 0)] := by
  unfold lk pre
  rw [List.length_append, List.length_singleton, List.range_succ, List.map_append, List.map_cons, List.map_nil]
  congr 1
  · refine List.map_congr_left fun k hk => ?_
    rw [List.mem_range] at hk
    rw [List.getElem?_append_left hk]
  · simp
theorem pre_snoc (X : List Nat) (a x : Nat) : pre (X ++ [a]) x = pre X a ++ [(a, x)] := by
  unfold pre
  rw [List.length_append, List.length_singleton, List.range_succ, List.map_append, List.map_cons, List.map_nil]
  congr 1
  · refine List.map_congr_left fun k hk => ?_
    rw [List.mem_range] at hk
    rw [List.getElem?_append_left (l₁ := X) hk, List.getElem?_append_left (l₁ := X ++ [a]) (by simp; omega)]
  · simp
theorem lk_at {X : List Nat} {k : Nat} (hk : k < (lk X).length) : (lk X)[k] = (X[k]?.getD 0, X[k + 1]?.getD 0) := by simp [lk]
/-- How many were seen of the first k. -/
def Inv (bb : Nat → Bool) (k : Nat) (n : Int) (len : Nat) : Prop :=
  -100 ≤ n ∧ n ≤ 1 ∧ (n ≤ -100 + (k : Int) ∨ ((k = 0 → n ≤ 0) ∧ ((k = 0 ∨ bb (k - 1) = true) → k < len → bb k = true → n ≤ 0)))
theorem inv_zero (bb : Nat → Bool) (len : Nat) : Inv bb 0 0 len := ⟨by omega, by omega, .inr ⟨fun _ => by omega, fun _ _ _ => by omega⟩⟩
theorem inv_step {bb : Nat → Bool} {k len : Nat} {n : Int} (h : Inv bb k n len) (hk : k < len) (hl : len ≤ 12) (rise vis : Bool) (hr : rise = (decide (0 < k) && bb k && !bb (k - 1))) (hv : vis = (bb k && (decide (k + 1 = len) || !bb (k + 1)))) :
    Inv bb (k + 1) ((if rise then -100 else n) + if vis then 1 else 0) len := by
  obtain ⟨h1, h2, h3⟩ := h
  subst hr hv
  have hk1 : k + 1 - 1 = k := by omega
  unfold Inv
  rw [hk1]
  cases hb : bb k with
  | false =>
    simp only [Bool.and_false, Bool.false_and, if_false, Bool.false_eq_true, Int.add_zero]
    refine ⟨h1, h2, ?_⟩
    rcases h3 with h3 | h3
    · exact .inl (by omega)
    · exact .inr ⟨fun e => by omega, fun e => by rcases e with e | e <;> first | omega | cases e⟩
  | true =>
    by_cases hr : 0 < k ∧ bb (k - 1) = false
    · have : (decide (0 < k) && true && !bb (k - 1)) = true := by simp [hr.1, hr.2]
      rw [this]
      simp only [if_true]
      split
      · exact ⟨by omega, by omega, .inl (by omega)⟩
      · exact ⟨by omega, by omega, .inl (by omega)⟩
    · have hp : k = 0 ∨ bb (k - 1) = true := by
        by_cases hk0 : k = 0
        · exact .inl hk0
        · right
          cases hb2 : bb (k - 1) with
          | true => rfl
          | false => exact (hr ⟨by omega, hb2⟩).elim
      have : (decide (0 < k) && true && !bb (k - 1)) = false := by
        rcases hp with hp | hp
        · simp [hp]
        · simp [hp]
      rw [this]
      simp only [Bool.false_eq_true, if_false, Bool.true_and]
      rcases h3 with h3 | h3
      · split
        · exact ⟨by omega, by omega, .inl (by omega)⟩
        · exact ⟨by omega, by omega, .inl (by omega)⟩
      · have hn := h3.2 hp hk hb
        split
        · rename_i hv
          refine ⟨by omega, by omega, .inr ⟨fun e => by omega, fun _ e1 e2 => ?_⟩⟩
          simp only [Bool.or_eq_true, decide_eq_true_eq, Bool.not_eq_true'] at hv
          rcases hv with hv | hv
          · omega
          · rw [e2] at hv; cases hv
        · exact ⟨by omega, by omega, .inr ⟨fun e => by omega, fun _ e1 e2 => by omega⟩⟩
/-- What stands between the rounds. -/
structure Ow (w wr : World) (p g r : Nat) (S : List Nat) (F : Nat → Prop) (v1 v2 : Value) (L : List Pn) (m c n : Nat) (f : Nat → Option Unit) (v7 : Value) (D : List (Nat × Nat)) : Prop where
  kp : Kp w wr p g r S F v1 v2 L
  map : MU EU wr m f c n
  m0 : w.heap.size ≤ m
  nF : ¬ F m
  row : wr.ownsRow w.heap.size 71 6 v7 D.length (D.flatMap tpc)
section
variable {w wr w1 : World} {p g r m c n : Nat} {S : List Nat} {F : Nat → Prop} {v1 v2 v7 : Value} {L : List Pn} {f : Nat → Option Unit} {D : List (Nat × Nat)}
theorem Ow.below (h : Ow w wr p g r S F v1 v2 L m c n f v7 D) (hb : Below wr.heap.size wr w1) : Ow w w1 p g r S F v1 v2 L m c n f v7 D :=
  ⟨h.kp.below hb, h.map.below hb, h.m0, h.nF, own_below h.row hb⟩
/-- The map has turned. -/
theorem Ow.put {f' : Nat → Option Unit} {c' n' : Nat} (h : Ow w wr p g r S F v1 v2 L m c n f v7 D) (hm : MU EU w1 m f' c' n') (hf : Fr (fun k => k = m) wr w1) : Ow w w1 p g r S F v1 v2 L m c' n' f' v7 D :=
  ⟨h.kp.fr hf (fun k e => e ▸ h.m0) fun k e => by subst e; exact ⟨h.map.not_ty, h.map.not_ty, h.map.not_ty, h.nF⟩, hm, h.m0, h.nF, hf.own h.row fun k e e' => by subst e'; exact h.map.not_ty (own_ty h.row e)⟩
/-- The row has turned, or grown. -/
theorem Ow.grown {v8 : Value} {D' : List (Nat × Nat)} (h : Ow w wr p g r S F v1 v2 L m c n f v7 D) (hg : wr.grownBy w1 v7.ownBlock) (ho : w1.ownsRow w.heap.size 71 6 v8 D'.length (D'.flatMap tpc)) : Ow w w1 p g r S F v1 v2 L m c n f v8 D' :=
  ⟨h.kp.grown h.row hg (by decide) (by decide) (by decide) (by decide) (by decide), h.map.fr (Fr.of_own (S := fun k => v7.ownBlock = some k) hg fun k e => e) (fun e => h.map.not_ty (own_ty h.row e)), h.m0, h.nF, ho⟩
/-- A version is ended. -/
theorem os_store {W : World} {B M N7 c a : Nat} {ad : Addr} {X : List Nat} (x : Nat) (hN : N7 = M + 1) (h : W.ownsRow B 71 6 (.slice (some ad) N7 c) N7 ((pre X a ++ [(a, 0)]).flatMap tpc)) (hX : X.length = M) :
    W.frozen? ⟨(ad.add (M * 6)).block, (ad.add (M * 6)).off + 2, none⟩ = false ∧ (W.setCell ⟨(ad.add (M * 6)).block, (ad.add (M * 6)).off + 2, none⟩ (.int .u64 (x : Int))).ownsRow B 71 6 (.slice (some ad) N7 c) N7 ((pre X a ++ [(a, x)]).flatMap tpc) ∧
      W.grownBy (W.setCell ⟨(ad.add (M * 6)).block, (ad.add (M * 6)).off + 2, none⟩ (.int .u64 (x : Int))) (Value.slice (some ad) N7 c).ownBlock := by
  subst hN
  obtain ⟨g7, k7, hv, _, _⟩ := h.form (by omega)
  injection hv with e1 e2 e3
  injection e1 with e1
  subst e1 e3
  have ha : (⟨((⟨g7, 0, none⟩ : Addr).add (M * 6)).block, ((⟨g7, 0, none⟩ : Addr).add (M * 6)).off + 2, none⟩ : Addr) = ⟨g7, M * 6 + 2, none⟩ := by
    unfold Addr.add
    split
    · rename_i h; rw [h]
    · simp
  rw [ha]
  have hs := h.stored (M * 6 + 2) (.int .u64 (x : Int))
  have hl : ((pre X a).flatMap tpc).length = M * 6 := by rw [flat_length tpc 6 (fun _ => rfl), pre_len, hX]
  refine ⟨h.frozenAt _, ?_, hs.2⟩
  have h2 := hs.1
  have h3 : ((pre X a).flatMap tpc ++ ([(a, 0)] : List (Nat × Nat)).flatMap tpc).set (M * 6 + 2) (.int .u64 (x : Int)) = (pre X a).flatMap tpc ++ (([(a, 0)] : List (Nat × Nat)).flatMap tpc).set (M * 6 + 2 - ((pre X a).flatMap tpc).length) (.int .u64 (x : Int)) := List.set_append_right _ _ (by rw [hl]; omega)
  rw [List.flatMap_append, h3, hl, show M * 6 + 2 - M * 6 = 2 by omega] at h2
  rw [List.flatMap_append]
  exact h2
theorem row_cell {W : World} {B M N7 c a : Nat} {ad : Addr} {X : List Nat} (h : W.ownsRow B 71 6 (.slice (some ad) N7 c) N7 ((pre X a ++ [(a, 0)]).flatMap tpc)) (hN : N7 = M + 1) (hX : X.length = M) : ∃ u : Nat, W.cell? ⟨(ad.add (M * 6)).block, (ad.add (M * 6)).off + 2, none⟩ = some (.int .u64 (u : Int)) := by
  obtain ⟨A', c', hv, _, _, hr⟩ := own_form h
  injection hv with e1 e2 e3
  subst e1
  have hl : N7 = (pre X a ++ [(a, 0)]).length := by rw [List.length_append, pre_len, hX, hN]; rfl
  rw [hl] at hr
  obtain ⟨ad', e, _, _, k2, _⟩ := tp_at hr (k := M) (by omega)
  injection e with e
  subst e
  exact ⟨_, k2⟩
theorem os_new {W : World} {B N7 x : Nat} {v8 : Value} {X : List Nat} {Y : List (Nat × Nat)} (o : W.ownsRow B 71 6 v8 (N7 + 1) (Y.flatMap tpc ++ tpc (x, 0))) (hY : lk (X ++ [x]) = Y ++ [(x, 0)]) (hN : X.length = N7) : W.ownsRow B 71 6 v8 (lk (X ++ [x])).length ((lk (X ++ [x])).flatMap tpc) := by
  rw [lk_len, List.length_append, List.length_singleton, hN, hY, List.flatMap_append, List.flatMap_cons, List.flatMap_nil, List.append_nil]
  exact o
theorem vis_eq {S : List Nat} {own xmax j N7 : Nat} {R X : List Nat} (hj : j < N7) (hN : N7 = X.length) (hX : ∀ x ∈ X, x ≠ 0) :
    visB 1 S own xmax R (X[j]?.getD 0) (X[j + 1]?.getD 0) = (seesB 1 S own xmax R (X[j]?.getD 0) && (decide (j + 1 = N7) || !seesB 1 S own xmax R (X[j + 1]?.getD 0))) := by
  unfold visB
  by_cases h : j + 1 = N7
  · have : X[j + 1]? = none := List.getElem?_eq_none (by omega)
    rw [this, decide_eq_true h, decide_eq_true (show (none : Option Nat).getD 0 = 0 from rfl)]
  · have h1 : j + 1 < X.length := by omega
    rw [List.getElem?_eq_getElem h1, decide_eq_false h, decide_eq_false]
    exact hX _ (List.getElem_mem h1)
end
set_option maxRecDepth 100000 in
set_option maxHeartbeats 4000000 in
theorem walk (A : Option Addr) (cc : Nat) (l : List Op10) (Ab : Option Addr) (cb : Nat) (lb : List By) (w : World) (r0 : Rd w 2 A l.length (l.flatMap Op10.e)) (n0 : l.length ≤ cc) (m0 : cc ≤ 9223372036854775807) (r1 : Rd w 1 Ab lb.length (lb.flatMap By.e)) (n1 : lb.length ≤ cb) (m1 : cb ≤ 9223372036854775807) :
    Calls Try.prog 11 #[.slice A l.length cc, .slice Ab lb.length cb] w fun e w' => e = .returned (.bool true) ∧ Below w.heap.size w w' := by
  have hmm := (@run_makeMap Try.prog)
  obtain ⟨i6, hi6, hz60, hz61, hz62⟩ := info_parts4 info_tp
  go_enter Try.func11, Try.ntmps11
  go_wp2_with fail
  refine (awake10_any w).mono ?_
  rintro e w1 ⟨rfl, hb1⟩
  have hp := play_any A cc l 40 w1 (by omega) (r0.below hb1) n0 m0
  rw [show ((40 : Nat) : Int) = 40 from rfl] at hp
  have HP := Lib.hid hp
  have R1 := Lib.hid (r1.below hb1)
  clear hp r0 r1
  go_wp2_with fail
  refine (HP.out).mono ?_
  rintro e w2 ⟨p, g, r, S, H, A1, A2, c1, c2, L, rfl, hPy, hSl, hLl, hown⟩
  obtain ⟨F, K0⟩ := hPy.kp
  clear HP hPy hown
  have hLN : ∃ N, N = L.length := ⟨_, rfl⟩
  obtain ⟨N, hN⟩ := hLN
  rw [← hN] at K0
  have HN := Lib.hid hN
  have hN40 : N ≤ 40 := by omega
  clear hN hLl
  have S0 : Ow w1 (w2.alloc (.map #[] 0)) p g r S F (.slice A1 N c1) (.slice A2 N c2) L w2.heap.size 0 0 (fun _ => none) (.slice none 0 0) (lk []) :=
    ⟨K0.below ((Below.refl _ _).al _), mu_made EU w2, K0.mine.size, fun hh => by have := K0.log.lt hh; omega, World.ownsRow_nil _ _ _ _⟩
  clear K0
  go_wp2
  generalize w2.heap.size = m at *
  go_loopw [7, 30] (fun lv iv wr => ∃ (i N7 n c : Nat) (f : Nat → Option Unit) (X : List Nat) (A7 : Option Addr) (c7 : Nat), i ≤ lb.length ∧ N7 = X.length ∧ N7 ≤ 12 ∧ n ≤ i ∧ (∀ x ∈ X, x ≠ 0) ∧ iv = .int .i64 (i : Int) ∧ lv = .slice A7 N7 c7 ∧ Ow w1 wr p g r S F (.slice A1 N c1) (.slice A2 N c2) L m c n f (.slice A7 N7 c7) (lk X) ∧ (N7 ≤ i)) (fun _ iv _ => lb.length - (intOf iv).toNat)
  case atStart => exact ⟨0, 0, 0, 0, _, [], none, 0, Nat.zero_le _, rfl, by omega, Nat.le_refl _, fun x hx => (by cases hx), rfl, rfl, S0, Nat.le_refl _⟩
  case round =>
    obtain ⟨i, N7, n, c, f, X, A7, c7, hi, hNX, hN12, hn, hX0, rfl, rfl, S1, hNi⟩ := hrel
    clear S0
    by_cases hlt : i < lb.length
    · obtain ⟨ad, rfl, q0⟩ := by_at (R1.out.below (S1.kp.mine.below.mono (Nat.le_refl _))) hlt
      have ix := idx_by ad lb.length cb i hlt
      have hb8 := lb[i].lt
      generalize lb[i].n = b8 at *
      obtain ⟨x, hx⟩ : ∃ x, x = b8 % 40 := ⟨_, rfl⟩
      have e8 : ((b8 : Int)).tmod 40 = (x : Int) := by rw [hx, Int.tmod_eq_emod_of_nonneg (by omega)]; omega
      have hx40 : x < 40 := by omega
      have ex : IntKind.u64.wrap (x : Int) = (x : Int) := IntWalk.u64_in _ (by omega)
      have hlen : i ≤ 9223372036854775807 := by omega
      clear hx
      have hget0 := S1.map.get Try.underlying53 (x := x) (by omega)
      by_cases h12 : 12 ≤ i
      · have h12' : (12 : Int) ≤ (i : Int) := by omega
        clear hget0
        go_wp2_with fail
        go_roundw
        case rel => exact ⟨i + 1, N7, n, c, f, X, A7, c7, by omega, hNX, by omega, by omega, hX0, by go_num, rfl, S1, by omega⟩
        case measure => simp [intOf]; omega
      · have h12' : ¬ (12 : Int) ≤ (i : Int) := by omega
        by_cases hx0 : x = 0
        · subst hx0
          clear hget0
          go_wp2_with fail
          go_roundw
          case rel => exact ⟨i + 1, N7, n, c, f, X, A7, c7, by omega, hNX, by omega, by omega, hX0, by go_num, rfl, S1, by omega⟩
          case measure => simp [intOf]; omega
        · have hxb : ((x : Int) == 0) = false := beq_eq_false_iff_ne.2 (by omega)
          cases hfx : f x with
          | some u =>
            rw [hfx] at hget0
            have hget : (Instr.lookup 53 (.map (some m)) (.int .u64 (x : Int)) false).run Try.prog wr = .ok (.bool true) wr := hget0
            clear hget0
            go_wp2_with fail
            go_roundw
            case rel => exact ⟨i + 1, N7, n, c, f, X, A7, c7, by omega, hNX, by omega, by omega, hX0, by go_num, rfl, S1, by omega⟩
            case measure => simp [intOf]; omega
          | none =>
            rw [hfx] at hget0
            have hget : (Instr.lookup 53 (.map (some m)) (.int .u64 (x : Int)) false).run Try.prog wr = .ok (.bool false) wr := hget0
            have hT := fun W => tuple_any W x 0
            unfold tpv at hT
            rw [show ((0 : Nat) : Int) = 0 from rfl] at hT
            have HT := Lib.hid hT
            have u1 := S1.map
            have HS1 := Lib.hid S1
            clear hget0 hT S1
            have hX0' : ∀ y ∈ X ++ [x], y ≠ 0 := fun y hy => (List.mem_append.1 hy).elim (hX0 y) fun h => by rw [List.mem_singleton] at h; rw [h]; exact hx0
            rcases List.eq_nil_or_concat X with hX | ⟨X', a, hX⟩
            · subst hX
              obtain rfl : N7 = 0 := hNX
              go_upto_region 13 with fail
              go_wp2_with (first
                | (at_mapUpdate; refine wpList_mu_put EU _ rfl _ _ _ 53 rfl Try.underlying53 m c n f rfl u1 (by omega) x (by omega) () rfl rfl ?_; intro w4 u4 f4; have S4 := HS1.out.put u4 f4; clear u4 f4)
                | (go_at_call 31; (with_reducible refine (HT.out _).mono ?_); rintro e w5 ⟨rfl, hb5⟩; have S5 := S4.below hb5; have S6 := S5.below ((Below.refl _ _).al (.cells #[.agg #[.int .u64 0, .int .u64 (x : Int), .int .u64 0, .int .i64 0, .int .i64 0, .slice none 0 0]] 71)); clear S6; have S6 := S5.below ((Below.refl _ _).al (.cells #[.int .u64 0, .int .u64 (x : Int), .int .u64 0, .int .i64 0, .int .i64 0, .slice none 0 0] 71)); have l6 := Bx.new w5 71 #[.int .u64 0, .int .u64 (x : Int), .int .u64 0, .int .i64 0, .int .i64 0, .slice none 0 0] (tpc (x, 0)) rfl; have r6 := S6.row; rw [show (lk []).length = 0 from rfl] at r6; have hs6 := S6.kp.mine.size; clear hb5 S5 S4)
                | (at_builtin; refine wpList_append_lies _ rfl (.tmp 61) (.tmp 64) 91 rfl w1.heap.size 71 _ _ 6 64 Try.underlying91 hi6 hz60 hz61 hz62 rfl (by decide) _ _ _ rfl r6 _ 1 1 (tpc (x, 0)) rfl rfl (bx_news l6) (tp_one (x, 0)) (by decide) (by simp only [maxLen]; omega) (by omega) hs6 _ rfl ?_; intro gg cg w7 o7 hg7 hat7 hlt7; have S7 := S6.grown hg7 (os_new o7 (X := []) rfl rfl); clear S6 l6 r6 o7 hg7 hat7 hlt7))
              go_roundw
              case rel => exact ⟨i + 1, 1, n + 1, _, _, [x], some ⟨gg, 0, none⟩, cg, by omega, rfl, by omega, by omega, hX0', by go_num, rfl, S7, by omega⟩
              case measure => simp [intOf]; omega
            · rw [List.concat_eq_append] at hX
              obtain ⟨M, hM⟩ : ∃ M, M = X'.length := ⟨_, rfl⟩
              have hNM : N7 = M + 1 := by rw [hNX, hX, List.length_append, hM]; rfl
              subst hX
              obtain ⟨ad7, hA7⟩ : ∃ ad7, A7 = some ad7 := by
                obtain ⟨g7, k7, hv, _, _⟩ := HS1.out.row.form (by rw [lk_len]; omega)
                injection hv with e1
                exact ⟨_, e1⟩
              subst hA7
              have ix7 := idx_tp ad7 N7 c7 M (by omega)
              have ew : IntKind.i64.wrap ((N7 : Int) - 1) = (M : Int) := by rw [show (N7 : Int) - 1 = (M : Int) by omega]; exact IntWalk.i64_in _ (by omega)
              have hpos : (0 : Int) < (N7 : Int) := by omega
              have hlk : lk (X' ++ [a] ++ [x]) = (pre X' a ++ [(a, x)]) ++ [(x, 0)] := by rw [lk_snoc, pre_snoc]
              have hXl : (X' ++ [a]).length = N7 := hNX.symm
              have HLK := Lib.hid hlk
              have HXL := Lib.hid hXl
              have HM := Lib.hid hM
              have HNM := Lib.hid hNM
              clear hM hNM hlk hXl hNX
              go_upto_region 13 with fail
              go_wp2_with (first
                | (at_mapUpdate; refine wpList_mu_put EU _ rfl _ _ _ 53 rfl Try.underlying53 m c n f rfl u1 (by omega) x (by omega) () rfl rfl ?_; intro w4 u4 f4; have S4a := HS1.out.put u4 f4; have r4 := S4a.row; rw [lk_len, HXL.out, lk_snoc] at r4; have hst := os_store x HNM.out r4 HM.out.symm; have z4 := hst.1; obtain ⟨u4', k4⟩ := row_cell r4 HNM.out HM.out.symm; have S4 := S4a.grown (D' := pre X' a ++ [(a, x)]) hst.2.2 (by rw [List.length_append, pre_len, ← HM.out, List.length_singleton, ← HNM.out]; exact hst.2.1); have HD4 := Lib.hid (show (pre X' a ++ [(a, x)]).length = N7 by rw [List.length_append, pre_len, ← HM.out, List.length_singleton, ← HNM.out]); clear u4 f4 S4a r4 hst)
                | (go_at_call 31; (with_reducible refine (HT.out _).mono ?_); rintro e w5 ⟨rfl, hb5⟩; have S5 := S4.below hb5; have S6 := S5.below ((Below.refl _ _).al (.cells #[.agg #[.int .u64 0, .int .u64 (x : Int), .int .u64 0, .int .i64 0, .int .i64 0, .slice none 0 0]] 71)); clear S6; have S6 := S5.below ((Below.refl _ _).al (.cells #[.int .u64 0, .int .u64 (x : Int), .int .u64 0, .int .i64 0, .int .i64 0, .slice none 0 0] 71)); have l6 := Bx.new w5 71 #[.int .u64 0, .int .u64 (x : Int), .int .u64 0, .int .i64 0, .int .i64 0, .slice none 0 0] (tpc (x, 0)) rfl; have r6 := S6.row; rw [HD4.out] at r6; have hs6 := S6.kp.mine.size; clear hb5 S5 S4)
                | (at_builtin; refine wpList_append_lies _ rfl (.tmp 61) (.tmp 64) 91 rfl w1.heap.size 71 _ _ 6 64 Try.underlying91 hi6 hz60 hz61 hz62 rfl (by decide) _ _ _ rfl r6 _ 1 1 (tpc (x, 0)) rfl rfl (bx_news l6) (tp_one (x, 0)) (by decide) (by simp only [maxLen]; omega) (by omega) hs6 _ rfl ?_; intro gg cg w7 o7 hg7 hat7 hlt7; have S7 := S6.grown hg7 (os_new o7 HLK.out HXL.out); clear S6 l6 r6 o7 hg7 hat7 hlt7))
              go_roundw
              case rel => exact ⟨i + 1, N7 + 1, n + 1, _, _, X' ++ [a] ++ [x], some ⟨gg, 0, none⟩, cg, by omega, by rw [List.length_append, HXL.out]; rfl, by omega, by omega, hX0', by go_num, rfl, S7, by omega⟩
              case measure => simp [intOf]; omega
    · obtain rfl : i = lb.length := by omega
      have hk2 : wr.cell? ⟨p, 2, none⟩ = some (.slice A1 N c1) := S1.kp.box.cell 2
      go_wp2
      go_loopw [72] (fun iv wr => ∃ (k : Nat), k ≤ N ∧ iv = .int .i64 (k : Int) ∧ Ow w1 wr p g r S F (.slice A1 N c1) (.slice A2 N c2) L m c n f (.slice A7 N7 c7) (lk X)) (fun iv _ => N - (intOf iv).toNat)
      case atStart => exact ⟨0, Nat.zero_le _, rfl, S1⟩
      case round =>
        obtain ⟨k, hk, rfl, S5⟩ := hrel
        clear S1 hk2
        by_cases hkN : k < N
        · have hkL : k < L.length := by rw [← HN.out]; exact hkN
          obtain ⟨A', c', hv, _, _, hr⟩ := own_form S5.kp.rs
          injection hv with e1 e2 e3
          subst e1 e3
          obtain ⟨ad2, rfl, s0, s1, s2, s3⟩ := pn_at hr hkL
          have ix2 := idx_sn ad2 N c1 k hkN
          have hqm : L[k] ∈ L := List.getElem_mem hkL
          have hrow := (S5.kp.rows L[k] hqm).1
          generalize L[k] = q at *
          obtain ⟨own, xmin, xmax, R, As, cs, h0, h1, h2, h3, h4, h5⟩ : ∃ own xmin xmax R As cs, own = q.own ∧ xmin = least q.R q.xmax ∧ xmax = q.xmax ∧ R = q.R ∧ As = q.A ∧ cs = q.c := ⟨_, _, _, _, _, _, rfl, rfl, rfl, rfl, rfl, rfl⟩
          rw [← h0] at s0
          rw [← h1] at s1
          rw [← h2] at s2
          rw [← h3, ← h4, ← h5] at s3 hrow
          clear hr e2 h0 h1 h2 h3 h4 h5
          have xV : Below wr.heap.size wr (wr.alloc (.cells #[.int .u64 (own : Int), .int .u64 (xmin : Int), .int .u64 (xmax : Int), .slice As R.length cs] 76)) := (Below.refl _ _).al _
          have SV := S5.below xV
          have bV := Bx.new wr 76 #[.int .u64 (own : Int), .int .u64 (xmin : Int), .int .u64 (xmax : Int), .slice As R.length cs] [.int .u64 (own : Int), .int .u64 (xmin : Int), .int .u64 (xmax : Int), .slice As R.length cs] rfl
          have rV := own_below hrow xV
          clear S5 hrow
          go_upto_region 22 with fail
          generalize wr.alloc (.cells #[.int .u64 (own : Int), .int .u64 (xmin : Int), .int .u64 (xmax : Int), .slice As R.length cs] 76) = V at *
          generalize wr.heap.size = b9 at *
          have HR7 : ∀ w', Below V.heap.size V w' → w'.ownsRow w1.heap.size 71 6 (.slice A7 N7 c7) (lk X).length ((lk X).flatMap tpc) := fun w' hb => own_below SV.row hb
          have HS : ∀ w', Below V.heap.size V w' → w'.cell? ⟨p, 0, none⟩ = some (.pointer (some ⟨g, 0, none⟩)) ∧ w'.cell? ⟨b9, 0, none⟩ = some (.int .u64 (own : Int)) ∧ w'.cell? ⟨b9, 1, none⟩ = some (.int .u64 (xmin : Int)) ∧ w'.cell? ⟨b9, 2, none⟩ = some (.int .u64 (xmax : Int)) ∧ w'.cell? ⟨b9, 3, none⟩ = some (.slice As R.length cs) := fun w' hb => ⟨(SV.kp.box.below hb).cell 0, (bV.below hb).cell 0, (bV.below hb).cell 1, (bV.below hb).cell 2, (bV.below hb).cell 3⟩
          have hRl : R.length ≤ 9223372036854775807 := by obtain ⟨_, _, hv, h1, h2, _⟩ := own_form rV; injection hv with _ _ h3; unfold maxLen at h2; omega
          have HSE : ∀ (w' : World) (y : Nat), Below V.heap.size V w' → Calls Try.prog 34 #[.pointer (some ⟨g, 0, none⟩), .agg #[.int .u64 (own : Int), .int .u64 (xmin : Int), .int .u64 (xmax : Int), .slice As R.length cs], .int .u64 (y : Int)] w' fun e w'' => e = .returned (.bool (seesB 1 S own xmax R y)) ∧ Below w'.heap.size w' w'' := fun w' y hb =>
            sees_any w' g 1 own xmin xmax y _ S R F _ (SV.kp.log.below hb) (own_below rV hb) hRl
          have HVI : ∀ (w' : World) (ta tb : Nat), Below V.heap.size V w' → Calls Try.prog 36 #[.pointer (some ⟨g, 0, none⟩), .agg #[.int .u64 (own : Int), .int .u64 (xmin : Int), .int .u64 (xmax : Int), .slice As R.length cs], .agg #[.int .u64 0, .int .u64 (ta : Int), .int .u64 (tb : Int), .int .i64 0, .int .i64 0, .slice none 0 0]] w' fun e w'' => e = .returned (.bool (visB 1 S own xmax R ta tb)) ∧ Below w'.heap.size w' w'' := fun w' ta tb hb =>
            vis_any w' g 1 own xmin xmax ta tb _ S R F _ (SV.kp.log.below hb) (own_below rV hb) hRl
          replace HS := Lib.hid HS
          replace HSE := Lib.hid HSE
          replace HVI := Lib.hid HVI
          replace HR7 := Lib.hid HR7
          have HSV := Lib.hid SV
          have hNX' := Lib.hid hNX
          obtain ⟨bb, hbb⟩ : ∃ bb : Nat → Bool, bb = fun j => seesB 1 S own xmax R (X[j]?.getD 0) := ⟨_, rfl⟩
          have HBB := Lib.hid hbb
          clear SV bV rV s0 s1 s2 s3 ix2 hbb hNX
          go_wp2
          go_loopw [15, 78] (fun nv jv wr => ∃ (j : Nat) (n : Int), j ≤ N7 ∧ jv = .int .i64 (j : Int) ∧ nv = .int .i64 n ∧ Inv bb j n N7 ∧ Below V.heap.size V wr) (fun _ jv _ => N7 - (intOf jv).toNat)
          case atStart => exact ⟨0, 0, Nat.zero_le _, rfl, rfl, inv_zero bb N7, Below.refl _ _⟩
          case round =>
            obtain ⟨j, n, hj, rfl, rfl, hinv, x2⟩ := hrel
            by_cases hj7 : j < N7
            · obtain ⟨A', c', hv, _, _, hr⟩ := own_form (HR7.out _ x2)
              injection hv with e1 e2 e3
              subst e1 e3
              have hjl : j < (lk X).length := by rw [lk_len, ← hNX'.out]; exact hj7
              obtain ⟨ad7, rfl, t0, t1, t2, t3, t4, t5⟩ := tp_at hr hjl
              have ix7 := idx_tp ad7 N7 c7 j hj7
              rw [lk_at hjl] at t1 t2
              have hvis := vis_eq (S := S) (own := own) (xmax := xmax) (R := R) hj7 hNX'.out hX0
              have hbbj : seesB 1 S own xmax R (X[j]?.getD 0) = bb j := by rw [HBB.out]
              have hbbj1 : seesB 1 S own xmax R (X[j + 1]?.getD 0) = bb (j + 1) := by rw [HBB.out]
              rw [hbbj, hbbj1] at hvis
              have hprev : ∀ jj, j = jj + 1 → wr.cell? ⟨(ad7.add (jj * 6)).block, (ad7.add (jj * 6)).off + 1, none⟩ = some (.int .u64 ((X[jj]?.getD 0 : Nat) : Int)) ∧ seesB 1 S own xmax R (X[jj]?.getD 0) = bb jj := fun jj e => by
                have hjl' : jj < (lk X).length := by omega
                obtain ⟨ad8, e8, _, k1, _⟩ := tp_at hr hjl'
                injection e8 with e8
                subst e8
                rw [lk_at hjl'] at k1
                exact ⟨k1, by rw [HBB.out]⟩
              obtain ⟨ta, hta⟩ : ∃ ta, ta = X[j]?.getD 0 := ⟨_, rfl⟩
              obtain ⟨tb, htb⟩ : ∃ tb, tb = X[j + 1]?.getD 0 := ⟨_, rfl⟩
              rw [← hta] at t1 hbbj hvis
              rw [← htb] at t2 hvis
              have t1 : wr.cell? ⟨(ad7.add (j * 6)).block, (ad7.add (j * 6)).off + 1, none⟩ = some (.int .u64 (ta : Int)) := t1
              have t2 : wr.cell? ⟨(ad7.add (j * 6)).block, (ad7.add (j * 6)).off + 2, none⟩ = some (.int .u64 (tb : Int)) := t2
              have HPV := Lib.hid hprev
              have HVS := Lib.hid hvis
              have HBJ := Lib.hid hbbj
              clear hr e2 hta htb hbbj1 hprev hvis hbbj
              have x3 : Below V.heap.size V (wr.alloc (.cells #[.int .u64 0, .int .u64 (ta : Int), .int .u64 (tb : Int), .int .i64 0, .int .i64 0, .slice none 0 0] 71)) := x2.al _
              have xw : Below wr.heap.size wr (wr.alloc (.cells #[.int .u64 0, .int .u64 (ta : Int), .int .u64 (tb : Int), .int .i64 0, .int .i64 0, .slice none 0 0] 71)) := (Below.refl _ _).al _
              have bT := Bx.new wr 71 #[.int .u64 0, .int .u64 (ta : Int), .int .u64 (tb : Int), .int .i64 0, .int .i64 0, .slice none 0 0] [.int .u64 0, .int .u64 (ta : Int), .int .u64 (tb : Int), .int .i64 0, .int .i64 0, .slice none 0 0] rfl
              have HXW := Lib.hid (fun (a : Addr) (u : Value) (h : wr.cell? a = some u) => (xw.cell (World.block_lt_of_cell? _ _ h)).trans h)
              go_upto_region 26 with fail
              have HPV2 : ∀ jj, j = jj + 1 → (wr.alloc (.cells #[.int .u64 0, .int .u64 (ta : Int), .int .u64 (tb : Int), .int .i64 0, .int .i64 0, .slice none 0 0] 71)).cell? ⟨(ad7.add (jj * 6)).block, (ad7.add (jj * 6)).off + 1, none⟩ = some (.int .u64 ((X[jj]?.getD 0 : Nat) : Int)) ∧ seesB 1 S own xmax R (X[jj]?.getD 0) = bb jj := fun jj e => ⟨HXW.out _ _ (HPV.out jj e).1, (HPV.out jj e).2⟩
              replace HPV2 := Lib.hid HPV2
              clear HPV HXW t0 t1 t2 t3 t4 t5 xw
              generalize wr.alloc (.cells #[.int .u64 0, .int .u64 (ta : Int), .int .u64 (tb : Int), .int .i64 0, .int .i64 0, .slice none 0 0] 71) = W at *
              generalize wr.heap.size = b7 at *
              have x4d : Below W.heap.size W W.drew := below_n W 1
              have HS2 : ∀ w', Below W.heap.size W w' → (w'.cell? ⟨p, 0, none⟩ = some (.pointer (some ⟨g, 0, none⟩)) ∧ w'.cell? ⟨b9, 0, none⟩ = some (.int .u64 (own : Int)) ∧ w'.cell? ⟨b9, 1, none⟩ = some (.int .u64 (xmin : Int)) ∧ w'.cell? ⟨b9, 2, none⟩ = some (.int .u64 (xmax : Int)) ∧ w'.cell? ⟨b9, 3, none⟩ = some (.slice As R.length cs) ∧ w'.cell? ⟨b7, 0, none⟩ = some (.int .u64 0) ∧ w'.cell? ⟨b7, 1, none⟩ = some (.int .u64 (ta : Int)) ∧ w'.cell? ⟨b7, 2, none⟩ = some (.int .u64 (tb : Int)) ∧ w'.cell? ⟨b7, 3, none⟩ = some (.int .i64 0) ∧ w'.cell? ⟨b7, 4, none⟩ = some (.int .i64 0) ∧ w'.cell? ⟨b7, 5, none⟩ = some (.slice none 0 0)) := fun w' hb => by
                obtain ⟨h1, h2, h3, h4, h5⟩ := HS.out _ (x3.next hb)
                exact ⟨h1, h2, h3, h4, h5, (bT.below hb).cell 0, (bT.below hb).cell 1, (bT.below hb).cell 2, (bT.below hb).cell 3, (bT.below hb).cell 4, (bT.below hb).cell 5⟩
              have HSA : ∀ w', Below W.heap.size W w' → Calls Try.prog 34 #[.pointer (some ⟨g, 0, none⟩), .agg #[.int .u64 (own : Int), .int .u64 (xmin : Int), .int .u64 (xmax : Int), .slice As R.length cs], .int .u64 (ta : Int)] w' fun e w'' => e = .returned (.bool (bb j)) ∧ Below w'.heap.size w' w'' := fun w' hb => by
                have := HSE.out w' ta (x3.next hb)
                rw [HBJ.out] at this
                exact this
              replace HS2 := Lib.hid HS2
              replace HSA := Lib.hid HSA
              have hS0 := HS2.out _ x4d
              go_cut [109] (fun s109 wx => s109 = .bool (decide (0 < j) && bb j && !bb (j - 1)) ∧ Below W.heap.size W wx)
              case first =>
                by_cases hj0 : j = 0
                · have hjb : decide ((0 : Int) < (j : Int)) = false := by rw [hj0]; rfl
                  have hjb2 : decide (0 < j) = false := by rw [hj0]; rfl
                  have hjb3 : ¬ (0 : Int) < (j : Int) := by omega
                  have HJ0 := Lib.hid hj0
                  clear hj0
                  refine wp_region_held_drew (S := (fun w' => w'.cell? ⟨p, 0, none⟩ = some (.pointer (some ⟨g, 0, none⟩)) ∧ w'.cell? ⟨b9, 0, none⟩ = some (.int .u64 (own : Int)) ∧ w'.cell? ⟨b9, 1, none⟩ = some (.int .u64 (xmin : Int)) ∧ w'.cell? ⟨b9, 2, none⟩ = some (.int .u64 (xmax : Int)) ∧ w'.cell? ⟨b9, 3, none⟩ = some (.slice As R.length cs) ∧ w'.cell? ⟨b7, 0, none⟩ = some (.int .u64 0) ∧ w'.cell? ⟨b7, 1, none⟩ = some (.int .u64 (ta : Int)) ∧ w'.cell? ⟨b7, 2, none⟩ = some (.int .u64 (tb : Int)) ∧ w'.cell? ⟨b7, 3, none⟩ = some (.int .i64 0) ∧ w'.cell? ⟨b7, 4, none⟩ = some (.int .i64 0) ∧ w'.cell? ⟨b7, 5, none⟩ = some (.slice none 0 0))) (by kernel_rfl) ?_ (fun hHeld => ?_)
                  · first | assumption | exact HS2.out _ x4d | exact HS2.out _ x5
                  refine wpAnyH_take (i := 0) (oi := { dst := some 83, op := Go.Op.move (Go.Operand.tmp 16), type := 3, pos := "law.go:266", after := #[], guard := none }) (v := ?v1) rfl (by kernel_rfl) (by kernel_rfl) (by kernel_rfl) (fun _ _ _ h => h) (Or.inl ⟨by rfl, ?hy1⟩) (by assumption) ?rest1
                  case hy1 => (intro w' hSw; (try dsimp only at hSw); go_simp <;> with_reducible rfl)
                  (try simp only [Act.put, List.setIfInBounds_toArray, List.set_cons_zero, List.set_cons_succ])
                  refine wpAnyH_take (i := 1) (oi := { dst := some 84, op := Go.Op.binOp Go.BinOp.gtr 3 (Go.Operand.tmp 83) (Go.Operand.const (Go.Value.int Go.IntKind.i64 0)) 3, type := 4, pos := "law.go:266", after := #[{ on := 0, ground := Go.Ground.data }], guard := none }) (v := ?v2) rfl (by kernel_rfl) (by kernel_rfl) (by kernel_rfl) (fun _ _ _ h => h) (Or.inl ⟨by rfl, ?hy2⟩) (by assumption) ?rest2
                  case hy2 => (intro w' hSw; (try dsimp only at hSw); go_simp <;> with_reducible rfl)
                  (try simp only [Act.put, List.setIfInBounds_toArray, List.set_cons_zero, List.set_cons_succ])
                  refine wpAnyH_take (i := 2) (oi := { dst := some 85, op := Go.Op.move (Go.Operand.tmp 84), type := 4, pos := "law.go:266", after := #[{ on := 1, ground := Go.Ground.data }], guard := none }) (v := ?v3) rfl (by kernel_rfl) (by kernel_rfl) (by kernel_rfl) (fun _ _ _ h => h) (Or.inl ⟨by rfl, ?hy3⟩) (by assumption) ?rest3
                  case hy3 => (intro w' hSw; (try dsimp only at hSw); go_simp <;> with_reducible rfl)
                  (try simp only [Act.put, List.setIfInBounds_toArray, List.set_cons_zero, List.set_cons_succ])
                  refine wpAnyH_take (i := 3) (oi := { dst := some 86, op := Go.Op.move (Go.Operand.tmp 5), type := 58, pos := "law.go:266", after := #[{ on := 2, ground := Go.Ground.guard }], guard := some (2, true) }) (v := undef) rfl (by kernel_rfl) (by kernel_rfl) (by kernel_rfl) (fun _ _ _ h => h) (Or.inr ⟨by rfl, rfl⟩) (by assumption) ?_
                  (try simp only [Act.put, List.setIfInBounds_toArray, List.set_cons_zero, List.set_cons_succ])
                  refine wpAnyH_take (i := 4) (oi := { dst := some 87, op := Go.Op.nilCheck (Go.Operand.tmp 86), type := 0, pos := "law.go:266", after := #[{ on := 3, ground := Go.Ground.data }, { on := 2, ground := Go.Ground.guard }], guard := some (2, true) }) (v := undef) rfl (by kernel_rfl) (by kernel_rfl) (by kernel_rfl) (fun _ _ _ h => h) (Or.inr ⟨by rfl, rfl⟩) (by assumption) ?_
                  (try simp only [Act.put, List.setIfInBounds_toArray, List.set_cons_zero, List.set_cons_succ])
                  refine wpAnyH_take (i := 5) (oi := { dst := some 88, op := Go.Op.fieldAddr 65 (Go.Operand.tmp 87) 0, type := 0, pos := "law.go:266", after := #[{ on := 4, ground := Go.Ground.data }, { on := 2, ground := Go.Ground.guard }], guard := some (2, true) }) (v := undef) rfl (by kernel_rfl) (by kernel_rfl) (by kernel_rfl) (fun _ _ _ h => h) (Or.inr ⟨by rfl, rfl⟩) (by assumption) ?_
                  (try simp only [Act.put, List.setIfInBounds_toArray, List.set_cons_zero, List.set_cons_succ])
                  refine wpAnyH_take (i := 6) (oi := { dst := some 89, op := Go.Op.load 25 (Go.Operand.tmp 88), type := 25, pos := "law.go:266", after := #[{ on := 5, ground := Go.Ground.data }, { on := 2, ground := Go.Ground.guard }], guard := some (2, true) }) (v := undef) rfl (by kernel_rfl) (by kernel_rfl) (by kernel_rfl) (fun _ _ _ h => h) (Or.inr ⟨by rfl, rfl⟩) (by assumption) ?_
                  (try simp only [Act.put, List.setIfInBounds_toArray, List.set_cons_zero, List.set_cons_succ])
                  refine wpAnyH_take (i := 7) (oi := { dst := some 90, op := Go.Op.load 76 (Go.Operand.tmp 14), type := 76, pos := "law.go:266", after := #[{ on := 2, ground := Go.Ground.guard }], guard := some (2, true) }) (v := undef) rfl (by kernel_rfl) (by kernel_rfl) (by kernel_rfl) (fun _ _ _ h => h) (Or.inr ⟨by rfl, rfl⟩) (by assumption) ?_
                  (try simp only [Act.put, List.setIfInBounds_toArray, List.set_cons_zero, List.set_cons_succ])
                  refine wpAnyH_take (i := 8) (oi := { dst := some 91, op := Go.Op.fieldAddr 71 (Go.Operand.tmp 17) 1, type := 0, pos := "law.go:266", after := #[{ on := 2, ground := Go.Ground.guard }], guard := some (2, true) }) (v := undef) rfl (by kernel_rfl) (by kernel_rfl) (by kernel_rfl) (fun _ _ _ h => h) (Or.inr ⟨by rfl, rfl⟩) (by assumption) ?_
                  (try simp only [Act.put, List.setIfInBounds_toArray, List.set_cons_zero, List.set_cons_succ])
                  refine wpAnyH_take (i := 9) (oi := { dst := some 92, op := Go.Op.load 22 (Go.Operand.tmp 91), type := 22, pos := "law.go:266", after := #[{ on := 8, ground := Go.Ground.data }, { on := 2, ground := Go.Ground.guard }], guard := some (2, true) }) (v := undef) rfl (by kernel_rfl) (by kernel_rfl) (by kernel_rfl) (fun _ _ _ h => h) (Or.inr ⟨by rfl, rfl⟩) (by assumption) ?_
                  (try simp only [Act.put, List.setIfInBounds_toArray, List.set_cons_zero, List.set_cons_succ])
                  refine wpAnyH_take (i := 10) (oi := { dst := some 93, op := Go.Op.call { callee := Go.Callee.value (Go.Operand.func 34), args := #[Go.Operand.tmp 89, Go.Operand.tmp 90, Go.Operand.tmp 92], argTypes := #[25, 76, 22] }, type := 4, pos := "law.go:266", after := #[{ on := 6, ground := Go.Ground.data }, { on := 7, ground := Go.Ground.data }, { on := 9, ground := Go.Ground.data }, { on := 2, ground := Go.Ground.chain }, { on := 2, ground := Go.Ground.guard }], guard := some (2, true) }) (v := undef) rfl (by kernel_rfl) (by kernel_rfl) (by kernel_rfl) (fun _ _ _ h => h) (Or.inr ⟨by rfl, rfl⟩) (by assumption) ?_
                  (try simp only [Act.put, List.setIfInBounds_toArray, List.set_cons_zero, List.set_cons_succ])
                  refine wpAnyH_take (i := 11) (oi := { dst := some 94, op := Go.Op.pick (Go.Operand.tmp 85) (Go.Operand.tmp 93) (Go.Operand.const (Go.Value.bool false)), type := 4, pos := "law.go:266", after := #[{ on := 2, ground := Go.Ground.data }, { on := 10, ground := Go.Ground.data }], guard := none }) (v := ?v4) rfl (by kernel_rfl) (by kernel_rfl) (by kernel_rfl) (fun _ _ _ h => h) (Or.inl ⟨by rfl, ?hy4⟩) (by assumption) ?rest4
                  case hy4 => (intro w' hSw; (try dsimp only at hSw); go_simp <;> with_reducible rfl)
                  (try simp only [Act.put, List.setIfInBounds_toArray, List.set_cons_zero, List.set_cons_succ])
                  refine wpAnyH_take (i := 12) (oi := { dst := some 95, op := Go.Op.move (Go.Operand.tmp 94), type := 4, pos := "law.go:266", after := #[{ on := 11, ground := Go.Ground.data }, { on := 10, ground := Go.Ground.chain }], guard := none }) (v := ?v5) rfl (by kernel_rfl) (by kernel_rfl) (by kernel_rfl) (fun _ _ _ h => h) (Or.inl ⟨by rfl, ?hy5⟩) (by assumption) ?rest5
                  case hy5 => (intro w' hSw; (try dsimp only at hSw); go_simp <;> with_reducible rfl)
                  (try simp only [Act.put, List.setIfInBounds_toArray, List.set_cons_zero, List.set_cons_succ])
                  refine wpAnyH_take (i := 13) (oi := { dst := some 96, op := Go.Op.move (Go.Operand.tmp 5), type := 58, pos := "law.go:266", after := #[{ on := 12, ground := Go.Ground.guard }], guard := some (12, true) }) (v := undef) rfl (by kernel_rfl) (by kernel_rfl) (by kernel_rfl) (fun _ _ _ h => h) (Or.inr ⟨by rfl, rfl⟩) (by assumption) ?_
                  (try simp only [Act.put, List.setIfInBounds_toArray, List.set_cons_zero, List.set_cons_succ])
                  refine wpAnyH_take (i := 14) (oi := { dst := some 97, op := Go.Op.nilCheck (Go.Operand.tmp 96), type := 0, pos := "law.go:266", after := #[{ on := 13, ground := Go.Ground.data }, { on := 12, ground := Go.Ground.guard }], guard := some (12, true) }) (v := undef) rfl (by kernel_rfl) (by kernel_rfl) (by kernel_rfl) (fun _ _ _ h => h) (Or.inr ⟨by rfl, rfl⟩) (by assumption) ?_
                  (try simp only [Act.put, List.setIfInBounds_toArray, List.set_cons_zero, List.set_cons_succ])
                  refine wpAnyH_take (i := 15) (oi := { dst := some 98, op := Go.Op.fieldAddr 65 (Go.Operand.tmp 97) 0, type := 0, pos := "law.go:266", after := #[{ on := 14, ground := Go.Ground.data }, { on := 12, ground := Go.Ground.guard }], guard := some (12, true) }) (v := undef) rfl (by kernel_rfl) (by kernel_rfl) (by kernel_rfl) (fun _ _ _ h => h) (Or.inr ⟨by rfl, rfl⟩) (by assumption) ?_
                  (try simp only [Act.put, List.setIfInBounds_toArray, List.set_cons_zero, List.set_cons_succ])
                  refine wpAnyH_take (i := 16) (oi := { dst := some 99, op := Go.Op.load 25 (Go.Operand.tmp 98), type := 25, pos := "law.go:266", after := #[{ on := 15, ground := Go.Ground.data }, { on := 12, ground := Go.Ground.guard }], guard := some (12, true) }) (v := undef) rfl (by kernel_rfl) (by kernel_rfl) (by kernel_rfl) (fun _ _ _ h => h) (Or.inr ⟨by rfl, rfl⟩) (by assumption) ?_
                  (try simp only [Act.put, List.setIfInBounds_toArray, List.set_cons_zero, List.set_cons_succ])
                  refine wpAnyH_take (i := 17) (oi := { dst := some 100, op := Go.Op.load 76 (Go.Operand.tmp 14), type := 76, pos := "law.go:266", after := #[{ on := 12, ground := Go.Ground.guard }], guard := some (12, true) }) (v := undef) rfl (by kernel_rfl) (by kernel_rfl) (by kernel_rfl) (fun _ _ _ h => h) (Or.inr ⟨by rfl, rfl⟩) (by assumption) ?_
                  (try simp only [Act.put, List.setIfInBounds_toArray, List.set_cons_zero, List.set_cons_succ])
                  refine wpAnyH_take (i := 18) (oi := { dst := some 101, op := Go.Op.move (Go.Operand.tmp 7), type := 91, pos := "law.go:266", after := #[{ on := 12, ground := Go.Ground.guard }], guard := some (12, true) }) (v := undef) rfl (by kernel_rfl) (by kernel_rfl) (by kernel_rfl) (fun _ _ _ h => h) (Or.inr ⟨by rfl, rfl⟩) (by assumption) ?_
                  (try simp only [Act.put, List.setIfInBounds_toArray, List.set_cons_zero, List.set_cons_succ])
                  refine wpAnyH_take (i := 19) (oi := { dst := some 102, op := Go.Op.move (Go.Operand.tmp 16), type := 3, pos := "law.go:266", after := #[{ on := 12, ground := Go.Ground.guard }], guard := some (12, true) }) (v := undef) rfl (by kernel_rfl) (by kernel_rfl) (by kernel_rfl) (fun _ _ _ h => h) (Or.inr ⟨by rfl, rfl⟩) (by assumption) ?_
                  (try simp only [Act.put, List.setIfInBounds_toArray, List.set_cons_zero, List.set_cons_succ])
                  refine wpAnyH_take (i := 20) (oi := { dst := some 103, op := Go.Op.binOp Go.BinOp.sub 3 (Go.Operand.tmp 102) (Go.Operand.const (Go.Value.int Go.IntKind.i64 1)) 3, type := 3, pos := "law.go:266", after := #[{ on := 19, ground := Go.Ground.data }, { on := 12, ground := Go.Ground.guard }], guard := some (12, true) }) (v := undef) rfl (by kernel_rfl) (by kernel_rfl) (by kernel_rfl) (fun _ _ _ h => h) (Or.inr ⟨by rfl, rfl⟩) (by assumption) ?_
                  (try simp only [Act.put, List.setIfInBounds_toArray, List.set_cons_zero, List.set_cons_succ])
                  refine wpAnyH_take (i := 21) (oi := { dst := some 104, op := Go.Op.indexAddr 91 (Go.Operand.tmp 101) (Go.Operand.tmp 103), type := 0, pos := "law.go:266", after := #[{ on := 18, ground := Go.Ground.data }, { on := 20, ground := Go.Ground.data }, { on := 12, ground := Go.Ground.guard }], guard := some (12, true) }) (v := undef) rfl (by kernel_rfl) (by kernel_rfl) (by kernel_rfl) (fun _ _ _ h => h) (Or.inr ⟨by rfl, rfl⟩) (by assumption) ?_
                  (try simp only [Act.put, List.setIfInBounds_toArray, List.set_cons_zero, List.set_cons_succ])
                  refine wpAnyH_take (i := 22) (oi := { dst := some 105, op := Go.Op.fieldAddr 71 (Go.Operand.tmp 104) 1, type := 0, pos := "law.go:266", after := #[{ on := 21, ground := Go.Ground.data }, { on := 12, ground := Go.Ground.guard }], guard := some (12, true) }) (v := undef) rfl (by kernel_rfl) (by kernel_rfl) (by kernel_rfl) (fun _ _ _ h => h) (Or.inr ⟨by rfl, rfl⟩) (by assumption) ?_
                  (try simp only [Act.put, List.setIfInBounds_toArray, List.set_cons_zero, List.set_cons_succ])
                  refine wpAnyH_take (i := 23) (oi := { dst := some 106, op := Go.Op.load 22 (Go.Operand.tmp 105), type := 22, pos := "law.go:266", after := #[{ on := 22, ground := Go.Ground.data }, { on := 12, ground := Go.Ground.guard }], guard := some (12, true) }) (v := undef) rfl (by kernel_rfl) (by kernel_rfl) (by kernel_rfl) (fun _ _ _ h => h) (Or.inr ⟨by rfl, rfl⟩) (by assumption) ?_
                  (try simp only [Act.put, List.setIfInBounds_toArray, List.set_cons_zero, List.set_cons_succ])
                  refine wpAnyH_take (i := 24) (oi := { dst := some 107, op := Go.Op.call { callee := Go.Callee.value (Go.Operand.func 34), args := #[Go.Operand.tmp 99, Go.Operand.tmp 100, Go.Operand.tmp 106], argTypes := #[25, 76, 22] }, type := 4, pos := "law.go:266", after := #[{ on := 16, ground := Go.Ground.data }, { on := 17, ground := Go.Ground.data }, { on := 23, ground := Go.Ground.data }, { on := 12, ground := Go.Ground.chain }, { on := 12, ground := Go.Ground.guard }], guard := some (12, true) }) (v := undef) rfl (by kernel_rfl) (by kernel_rfl) (by kernel_rfl) (fun _ _ _ h => h) (Or.inr ⟨by rfl, rfl⟩) (by assumption) ?_
                  (try simp only [Act.put, List.setIfInBounds_toArray, List.set_cons_zero, List.set_cons_succ])
                  refine wpAnyH_take (i := 25) (oi := { dst := some 108, op := Go.Op.unOp Go.UnOp.not 4 (Go.Operand.tmp 107), type := 4, pos := "law.go:266", after := #[{ on := 24, ground := Go.Ground.data }, { on := 12, ground := Go.Ground.guard }], guard := some (12, true) }) (v := undef) rfl (by kernel_rfl) (by kernel_rfl) (by kernel_rfl) (fun _ _ _ h => h) (Or.inr ⟨by rfl, rfl⟩) (by assumption) ?_
                  (try simp only [Act.put, List.setIfInBounds_toArray, List.set_cons_zero, List.set_cons_succ])
                  refine wpAnyH_take (i := 26) (oi := { dst := some 109, op := Go.Op.pick (Go.Operand.tmp 95) (Go.Operand.tmp 108) (Go.Operand.const (Go.Value.bool false)), type := 4, pos := "law.go:266", after := #[{ on := 12, ground := Go.Ground.data }, { on := 25, ground := Go.Ground.data }], guard := none }) (v := ?v6) rfl (by kernel_rfl) (by kernel_rfl) (by kernel_rfl) (fun _ _ _ h => h) (Or.inl ⟨by rfl, ?hy6⟩) (by assumption) ?rest6
                  case hy6 => (intro w' hSw; (try dsimp only at hSw); go_simp <;> with_reducible rfl)
                  (try simp only [Act.put, List.setIfInBounds_toArray, List.set_cons_zero, List.set_cons_succ])
                  refine wpAnyH_done (by kernel_rfl) ?_ _
                  go_wp2_with fail
                  go_meet
                  exact ⟨by rw [show decide (0 < j) = false by rw [HJ0.out]; rfl]; rfl, x4d⟩
                · have hjb : decide ((0 : Int) < (j : Int)) = true := decide_eq_true (by omega)
                  have hjb2 : decide (0 < j) = true := decide_eq_true (by omega)
                  have hjb3 : (0 : Int) < (j : Int) := by omega
                  have hjb4 : 0 < j := by omega
                  obtain ⟨jj, hjj⟩ : ∃ jj, j = jj + 1 := ⟨j - 1, by omega⟩
                  obtain ⟨pv, hsv⟩ := HPV2.out jj hjj
                  have ew : IntKind.i64.wrap ((j : Int) - 1) = (jj : Int) := by rw [show (j : Int) - 1 = (jj : Int) by omega]; exact IntWalk.i64_in _ (by omega)
                  have ix8 := idx_tp ad7 N7 c7 jj (by omega)
                  have hpb : bb (j - 1) = bb jj := by rw [hjj]; rfl
                  have hd0 : decide (0 < j) = true := decide_eq_true (by omega)
                  generalize X[jj]?.getD 0 = tp at *
                  have HPB := Lib.hid hpb
                  have HD0 := Lib.hid hd0
                  clear hjj hpb hd0 hj0
                  cases hbj : bb j with
                  | false =>
                    rw [hbj] at HSA
                    refine wp_region_held_drew (S := (fun w' => w'.cell? ⟨p, 0, none⟩ = some (.pointer (some ⟨g, 0, none⟩)) ∧ w'.cell? ⟨b9, 0, none⟩ = some (.int .u64 (own : Int)) ∧ w'.cell? ⟨b9, 1, none⟩ = some (.int .u64 (xmin : Int)) ∧ w'.cell? ⟨b9, 2, none⟩ = some (.int .u64 (xmax : Int)) ∧ w'.cell? ⟨b9, 3, none⟩ = some (.slice As R.length cs) ∧ w'.cell? ⟨b7, 0, none⟩ = some (.int .u64 0) ∧ w'.cell? ⟨b7, 1, none⟩ = some (.int .u64 (ta : Int)) ∧ w'.cell? ⟨b7, 2, none⟩ = some (.int .u64 (tb : Int)) ∧ w'.cell? ⟨b7, 3, none⟩ = some (.int .i64 0) ∧ w'.cell? ⟨b7, 4, none⟩ = some (.int .i64 0) ∧ w'.cell? ⟨b7, 5, none⟩ = some (.slice none 0 0))) (by kernel_rfl) ?_ (fun hHeld => ?_)
                    · first | assumption | exact HS2.out _ x4d | exact HS2.out _ x5
                    refine wpAnyH_take (i := 0) (oi := { dst := some 83, op := Go.Op.move (Go.Operand.tmp 16), type := 3, pos := "law.go:266", after := #[], guard := none }) (v := ?v7) rfl (by kernel_rfl) (by kernel_rfl) (by kernel_rfl) (fun _ _ _ h => h) (Or.inl ⟨by rfl, ?hy7⟩) (by assumption) ?rest7
                    case hy7 => (intro w' hSw; (try dsimp only at hSw); go_simp <;> with_reducible rfl)
                    (try simp only [Act.put, List.setIfInBounds_toArray, List.set_cons_zero, List.set_cons_succ])
                    refine wpAnyH_take (i := 1) (oi := { dst := some 84, op := Go.Op.binOp Go.BinOp.gtr 3 (Go.Operand.tmp 83) (Go.Operand.const (Go.Value.int Go.IntKind.i64 0)) 3, type := 4, pos := "law.go:266", after := #[{ on := 0, ground := Go.Ground.data }], guard := none }) (v := ?v8) rfl (by kernel_rfl) (by kernel_rfl) (by kernel_rfl) (fun _ _ _ h => h) (Or.inl ⟨by rfl, ?hy8⟩) (by assumption) ?rest8
                    case hy8 => (intro w' hSw; (try dsimp only at hSw); go_simp <;> with_reducible rfl)
                    (try simp only [Act.put, List.setIfInBounds_toArray, List.set_cons_zero, List.set_cons_succ])
                    refine wpAnyH_take (i := 2) (oi := { dst := some 85, op := Go.Op.move (Go.Operand.tmp 84), type := 4, pos := "law.go:266", after := #[{ on := 1, ground := Go.Ground.data }], guard := none }) (v := ?v9) rfl (by kernel_rfl) (by kernel_rfl) (by kernel_rfl) (fun _ _ _ h => h) (Or.inl ⟨by rfl, ?hy9⟩) (by assumption) ?rest9
                    case hy9 => (intro w' hSw; (try dsimp only at hSw); go_simp <;> with_reducible rfl)
                    (try simp only [Act.put, List.setIfInBounds_toArray, List.set_cons_zero, List.set_cons_succ])
                    refine wpAnyH_take (i := 3) (oi := { dst := some 86, op := Go.Op.move (Go.Operand.tmp 5), type := 58, pos := "law.go:266", after := #[{ on := 2, ground := Go.Ground.guard }], guard := some (2, true) }) (v := ?v10) rfl (by kernel_rfl) (by kernel_rfl) (by kernel_rfl) (fun _ _ _ h => h) (Or.inl ⟨by rfl, ?hy10⟩) (by assumption) ?rest10
                    case hy10 => (intro w' hSw; (try dsimp only at hSw); go_simp <;> with_reducible rfl)
                    (try simp only [Act.put, List.setIfInBounds_toArray, List.set_cons_zero, List.set_cons_succ])
                    refine wpAnyH_take (i := 4) (oi := { dst := some 87, op := Go.Op.nilCheck (Go.Operand.tmp 86), type := 0, pos := "law.go:266", after := #[{ on := 3, ground := Go.Ground.data }, { on := 2, ground := Go.Ground.guard }], guard := some (2, true) }) (v := ?v11) rfl (by kernel_rfl) (by kernel_rfl) (by kernel_rfl) (fun _ _ _ h => h) (Or.inl ⟨by rfl, ?hy11⟩) (by assumption) ?rest11
                    case hy11 => (intro w' hSw; (try dsimp only at hSw); go_simp <;> with_reducible rfl)
                    (try simp only [Act.put, List.setIfInBounds_toArray, List.set_cons_zero, List.set_cons_succ])
                    refine wpAnyH_take (i := 5) (oi := { dst := some 88, op := Go.Op.fieldAddr 65 (Go.Operand.tmp 87) 0, type := 0, pos := "law.go:266", after := #[{ on := 4, ground := Go.Ground.data }, { on := 2, ground := Go.Ground.guard }], guard := some (2, true) }) (v := ?v12) rfl (by kernel_rfl) (by kernel_rfl) (by kernel_rfl) (fun _ _ _ h => h) (Or.inl ⟨by rfl, ?hy12⟩) (by assumption) ?rest12
                    case hy12 => (intro w' hSw; (try dsimp only at hSw); go_simp <;> with_reducible rfl)
                    (try simp only [Act.put, List.setIfInBounds_toArray, List.set_cons_zero, List.set_cons_succ])
                    refine wpAnyH_take (i := 6) (oi := { dst := some 89, op := Go.Op.load 25 (Go.Operand.tmp 88), type := 25, pos := "law.go:266", after := #[{ on := 5, ground := Go.Ground.data }, { on := 2, ground := Go.Ground.guard }], guard := some (2, true) }) (v := ?v13) rfl (by kernel_rfl) (by kernel_rfl) (by kernel_rfl) (fun _ _ _ h => h) (Or.inl ⟨by rfl, ?hy13⟩) (by assumption) ?rest13
                    case hy13 => (intro w' hSw; (try dsimp only at hSw); go_simp <;> with_reducible rfl)
                    (try simp only [Act.put, List.setIfInBounds_toArray, List.set_cons_zero, List.set_cons_succ])
                    refine wpAnyH_take (i := 7) (oi := { dst := some 90, op := Go.Op.load 76 (Go.Operand.tmp 14), type := 76, pos := "law.go:266", after := #[{ on := 2, ground := Go.Ground.guard }], guard := some (2, true) }) (v := ?v14) rfl (by kernel_rfl) (by kernel_rfl) (by kernel_rfl) (fun _ _ _ h => h) (Or.inl ⟨by rfl, ?hy14⟩) (by assumption) ?rest14
                    case hy14 => (intro w' hSw; (try dsimp only at hSw); go_simp <;> with_reducible rfl)
                    (try simp only [Act.put, List.setIfInBounds_toArray, List.set_cons_zero, List.set_cons_succ])
                    refine wpAnyH_take (i := 8) (oi := { dst := some 91, op := Go.Op.fieldAddr 71 (Go.Operand.tmp 17) 1, type := 0, pos := "law.go:266", after := #[{ on := 2, ground := Go.Ground.guard }], guard := some (2, true) }) (v := ?v15) rfl (by kernel_rfl) (by kernel_rfl) (by kernel_rfl) (fun _ _ _ h => h) (Or.inl ⟨by rfl, ?hy15⟩) (by assumption) ?rest15
                    case hy15 => (intro w' hSw; (try dsimp only at hSw); go_simp <;> with_reducible rfl)
                    (try simp only [Act.put, List.setIfInBounds_toArray, List.set_cons_zero, List.set_cons_succ])
                    refine wpAnyH_take (i := 9) (oi := { dst := some 92, op := Go.Op.load 22 (Go.Operand.tmp 91), type := 22, pos := "law.go:266", after := #[{ on := 8, ground := Go.Ground.data }, { on := 2, ground := Go.Ground.guard }], guard := some (2, true) }) (v := ?v16) rfl (by kernel_rfl) (by kernel_rfl) (by kernel_rfl) (fun _ _ _ h => h) (Or.inl ⟨by rfl, ?hy16⟩) (by assumption) ?rest16
                    case hy16 => (intro w' hSw; (try dsimp only at hSw); go_simp <;> with_reducible rfl)
                    (try simp only [Act.put, List.setIfInBounds_toArray, List.set_cons_zero, List.set_cons_succ])
                    refine wpAnyH_ready (rs := [10]) (by kernel_rfl) (by simp) ?_
                    refine AllReadyH.cons (o := { dst := some 93, op := Go.Op.call { callee := Go.Callee.value (Go.Operand.func 34), args := #[Go.Operand.tmp 89, Go.Operand.tmp 90, Go.Operand.tmp 92], argTypes := #[25, 76, 22] }, type := 4, pos := "law.go:266", after := #[{ on := 6, ground := Go.Ground.data }, { on := 7, ground := Go.Ground.data }, { on := 9, ground := Go.Ground.data }, { on := 2, ground := Go.Ground.chain }, { on := 2, ground := Go.Ground.guard }], guard := some (2, true) }) rfl (fun K hK => ?_) AllReadyH.nil
                    go_simp
                    (go_at_call 34; (with_reducible refine (HSA.out _ x4d).mono ?_); rintro e w5 ⟨rfl, hb5⟩; have x5 := x4d.next hb5; have hS5 := HS2.out _ x5)
                    refine hK.out _ _ ?_ (fun hHeld => ?_)
                    · first | assumption | exact HS2.out _ x4d | exact HS2.out _ x5
                    clear hK K
                    (try simp only [Act.put, List.setIfInBounds_toArray, List.set_cons_zero, List.set_cons_succ])
                    refine wpAnyH_take (i := 11) (oi := { dst := some 94, op := Go.Op.pick (Go.Operand.tmp 85) (Go.Operand.tmp 93) (Go.Operand.const (Go.Value.bool false)), type := 4, pos := "law.go:266", after := #[{ on := 2, ground := Go.Ground.data }, { on := 10, ground := Go.Ground.data }], guard := none }) (v := ?v17) rfl (by kernel_rfl) (by kernel_rfl) (by kernel_rfl) (fun _ _ _ h => h) (Or.inl ⟨by rfl, ?hy17⟩) (by assumption) ?rest17
                    case hy17 => (intro w' hSw; (try dsimp only at hSw); go_simp <;> with_reducible rfl)
                    (try simp only [Act.put, List.setIfInBounds_toArray, List.set_cons_zero, List.set_cons_succ])
                    refine wpAnyH_take (i := 12) (oi := { dst := some 95, op := Go.Op.move (Go.Operand.tmp 94), type := 4, pos := "law.go:266", after := #[{ on := 11, ground := Go.Ground.data }, { on := 10, ground := Go.Ground.chain }], guard := none }) (v := ?v18) rfl (by kernel_rfl) (by kernel_rfl) (by kernel_rfl) (fun _ _ _ h => h) (Or.inl ⟨by rfl, ?hy18⟩) (by assumption) ?rest18
                    case hy18 => (intro w' hSw; (try dsimp only at hSw); go_simp <;> with_reducible rfl)
                    (try simp only [Act.put, List.setIfInBounds_toArray, List.set_cons_zero, List.set_cons_succ])
                    refine wpAnyH_take (i := 13) (oi := { dst := some 96, op := Go.Op.move (Go.Operand.tmp 5), type := 58, pos := "law.go:266", after := #[{ on := 12, ground := Go.Ground.guard }], guard := some (12, true) }) (v := undef) rfl (by kernel_rfl) (by kernel_rfl) (by kernel_rfl) (fun _ _ _ h => h) (Or.inr ⟨by rfl, rfl⟩) (by assumption) ?_
                    (try simp only [Act.put, List.setIfInBounds_toArray, List.set_cons_zero, List.set_cons_succ])
                    refine wpAnyH_take (i := 14) (oi := { dst := some 97, op := Go.Op.nilCheck (Go.Operand.tmp 96), type := 0, pos := "law.go:266", after := #[{ on := 13, ground := Go.Ground.data }, { on := 12, ground := Go.Ground.guard }], guard := some (12, true) }) (v := undef) rfl (by kernel_rfl) (by kernel_rfl) (by kernel_rfl) (fun _ _ _ h => h) (Or.inr ⟨by rfl, rfl⟩) (by assumption) ?_
                    (try simp only [Act.put, List.setIfInBounds_toArray, List.set_cons_zero, List.set_cons_succ])
                    refine wpAnyH_take (i := 15) (oi := { dst := some 98, op := Go.Op.fieldAddr 65 (Go.Operand.tmp 97) 0, type := 0, pos := "law.go:266", after := #[{ on := 14, ground := Go.Ground.data }, { on := 12, ground := Go.Ground.guard }], guard := some (12, true) }) (v := undef) rfl (by kernel_rfl) (by kernel_rfl) (by kernel_rfl) (fun _ _ _ h => h) (Or.inr ⟨by rfl, rfl⟩) (by assumption) ?_
                    (try simp only [Act.put, List.setIfInBounds_toArray, List.set_cons_zero, List.set_cons_succ])
                    refine wpAnyH_take (i := 16) (oi := { dst := some 99, op := Go.Op.load 25 (Go.Operand.tmp 98), type := 25, pos := "law.go:266", after := #[{ on := 15, ground := Go.Ground.data }, { on := 12, ground := Go.Ground.guard }], guard := some (12, true) }) (v := undef) rfl (by kernel_rfl) (by kernel_rfl) (by kernel_rfl) (fun _ _ _ h => h) (Or.inr ⟨by rfl, rfl⟩) (by assumption) ?_
                    (try simp only [Act.put, List.setIfInBounds_toArray, List.set_cons_zero, List.set_cons_succ])
                    refine wpAnyH_take (i := 17) (oi := { dst := some 100, op := Go.Op.load 76 (Go.Operand.tmp 14), type := 76, pos := "law.go:266", after := #[{ on := 12, ground := Go.Ground.guard }], guard := some (12, true) }) (v := undef) rfl (by kernel_rfl) (by kernel_rfl) (by kernel_rfl) (fun _ _ _ h => h) (Or.inr ⟨by rfl, rfl⟩) (by assumption) ?_
                    (try simp only [Act.put, List.setIfInBounds_toArray, List.set_cons_zero, List.set_cons_succ])
                    refine wpAnyH_take (i := 18) (oi := { dst := some 101, op := Go.Op.move (Go.Operand.tmp 7), type := 91, pos := "law.go:266", after := #[{ on := 12, ground := Go.Ground.guard }], guard := some (12, true) }) (v := undef) rfl (by kernel_rfl) (by kernel_rfl) (by kernel_rfl) (fun _ _ _ h => h) (Or.inr ⟨by rfl, rfl⟩) (by assumption) ?_
                    (try simp only [Act.put, List.setIfInBounds_toArray, List.set_cons_zero, List.set_cons_succ])
                    refine wpAnyH_take (i := 19) (oi := { dst := some 102, op := Go.Op.move (Go.Operand.tmp 16), type := 3, pos := "law.go:266", after := #[{ on := 12, ground := Go.Ground.guard }], guard := some (12, true) }) (v := undef) rfl (by kernel_rfl) (by kernel_rfl) (by kernel_rfl) (fun _ _ _ h => h) (Or.inr ⟨by rfl, rfl⟩) (by assumption) ?_
                    (try simp only [Act.put, List.setIfInBounds_toArray, List.set_cons_zero, List.set_cons_succ])
                    refine wpAnyH_take (i := 20) (oi := { dst := some 103, op := Go.Op.binOp Go.BinOp.sub 3 (Go.Operand.tmp 102) (Go.Operand.const (Go.Value.int Go.IntKind.i64 1)) 3, type := 3, pos := "law.go:266", after := #[{ on := 19, ground := Go.Ground.data }, { on := 12, ground := Go.Ground.guard }], guard := some (12, true) }) (v := undef) rfl (by kernel_rfl) (by kernel_rfl) (by kernel_rfl) (fun _ _ _ h => h) (Or.inr ⟨by rfl, rfl⟩) (by assumption) ?_
                    (try simp only [Act.put, List.setIfInBounds_toArray, List.set_cons_zero, List.set_cons_succ])
                    refine wpAnyH_take (i := 21) (oi := { dst := some 104, op := Go.Op.indexAddr 91 (Go.Operand.tmp 101) (Go.Operand.tmp 103), type := 0, pos := "law.go:266", after := #[{ on := 18, ground := Go.Ground.data }, { on := 20, ground := Go.Ground.data }, { on := 12, ground := Go.Ground.guard }], guard := some (12, true) }) (v := undef) rfl (by kernel_rfl) (by kernel_rfl) (by kernel_rfl) (fun _ _ _ h => h) (Or.inr ⟨by rfl, rfl⟩) (by assumption) ?_
                    (try simp only [Act.put, List.setIfInBounds_toArray, List.set_cons_zero, List.set_cons_succ])
                    refine wpAnyH_take (i := 22) (oi := { dst := some 105, op := Go.Op.fieldAddr 71 (Go.Operand.tmp 104) 1, type := 0, pos := "law.go:266", after := #[{ on := 21, ground := Go.Ground.data }, { on := 12, ground := Go.Ground.guard }], guard := some (12, true) }) (v := undef) rfl (by kernel_rfl) (by kernel_rfl) (by kernel_rfl) (fun _ _ _ h => h) (Or.inr ⟨by rfl, rfl⟩) (by assumption) ?_
                    (try simp only [Act.put, List.setIfInBounds_toArray, List.set_cons_zero, List.set_cons_succ])
                    refine wpAnyH_take (i := 23) (oi := { dst := some 106, op := Go.Op.load 22 (Go.Operand.tmp 105), type := 22, pos := "law.go:266", after := #[{ on := 22, ground := Go.Ground.data }, { on := 12, ground := Go.Ground.guard }], guard := some (12, true) }) (v := undef) rfl (by kernel_rfl) (by kernel_rfl) (by kernel_rfl) (fun _ _ _ h => h) (Or.inr ⟨by rfl, rfl⟩) (by assumption) ?_
                    (try simp only [Act.put, List.setIfInBounds_toArray, List.set_cons_zero, List.set_cons_succ])
                    refine wpAnyH_take (i := 24) (oi := { dst := some 107, op := Go.Op.call { callee := Go.Callee.value (Go.Operand.func 34), args := #[Go.Operand.tmp 99, Go.Operand.tmp 100, Go.Operand.tmp 106], argTypes := #[25, 76, 22] }, type := 4, pos := "law.go:266", after := #[{ on := 16, ground := Go.Ground.data }, { on := 17, ground := Go.Ground.data }, { on := 23, ground := Go.Ground.data }, { on := 12, ground := Go.Ground.chain }, { on := 12, ground := Go.Ground.guard }], guard := some (12, true) }) (v := undef) rfl (by kernel_rfl) (by kernel_rfl) (by kernel_rfl) (fun _ _ _ h => h) (Or.inr ⟨by rfl, rfl⟩) (by assumption) ?_
                    (try simp only [Act.put, List.setIfInBounds_toArray, List.set_cons_zero, List.set_cons_succ])
                    refine wpAnyH_take (i := 25) (oi := { dst := some 108, op := Go.Op.unOp Go.UnOp.not 4 (Go.Operand.tmp 107), type := 4, pos := "law.go:266", after := #[{ on := 24, ground := Go.Ground.data }, { on := 12, ground := Go.Ground.guard }], guard := some (12, true) }) (v := undef) rfl (by kernel_rfl) (by kernel_rfl) (by kernel_rfl) (fun _ _ _ h => h) (Or.inr ⟨by rfl, rfl⟩) (by assumption) ?_
                    (try simp only [Act.put, List.setIfInBounds_toArray, List.set_cons_zero, List.set_cons_succ])
                    refine wpAnyH_take (i := 26) (oi := { dst := some 109, op := Go.Op.pick (Go.Operand.tmp 95) (Go.Operand.tmp 108) (Go.Operand.const (Go.Value.bool false)), type := 4, pos := "law.go:266", after := #[{ on := 12, ground := Go.Ground.data }, { on := 25, ground := Go.Ground.data }], guard := none }) (v := ?v19) rfl (by kernel_rfl) (by kernel_rfl) (by kernel_rfl) (fun _ _ _ h => h) (Or.inl ⟨by rfl, ?hy19⟩) (by assumption) ?rest19
                    case hy19 => (intro w' hSw; (try dsimp only at hSw); go_simp <;> with_reducible rfl)
                    (try simp only [Act.put, List.setIfInBounds_toArray, List.set_cons_zero, List.set_cons_succ])
                    refine wpAnyH_done (by kernel_rfl) ?_ _
                    go_wp2_with fail
                    go_meet
                    exact ⟨by rw [hbj, HD0.out]; rfl, x5⟩
                  | true =>
                    rw [hbj] at HSA
                    have HSB : ∀ w', Below W.heap.size W w' → Calls Try.prog 34 #[.pointer (some ⟨g, 0, none⟩), .agg #[.int .u64 (own : Int), .int .u64 (xmin : Int), .int .u64 (xmax : Int), .slice As R.length cs], .int .u64 (tp : Int)] w' fun e w'' => e = .returned (.bool (bb jj)) ∧ Below w'.heap.size w' w'' := fun w' hb => by
                      have := HSE.out w' tp (x3.next hb)
                      rw [hsv] at this
                      exact this
                    replace HSB := Lib.hid HSB
                    have hpl := World.block_lt_of_cell? _ _ pv
                    have HS3 : ∀ w', Below W.heap.size W w' → (w'.cell? ⟨p, 0, none⟩ = some (.pointer (some ⟨g, 0, none⟩)) ∧ w'.cell? ⟨b9, 0, none⟩ = some (.int .u64 (own : Int)) ∧ w'.cell? ⟨b9, 1, none⟩ = some (.int .u64 (xmin : Int)) ∧ w'.cell? ⟨b9, 2, none⟩ = some (.int .u64 (xmax : Int)) ∧ w'.cell? ⟨b9, 3, none⟩ = some (.slice As R.length cs) ∧ w'.cell? ⟨b7, 0, none⟩ = some (.int .u64 0) ∧ w'.cell? ⟨b7, 1, none⟩ = some (.int .u64 (ta : Int)) ∧ w'.cell? ⟨b7, 2, none⟩ = some (.int .u64 (tb : Int)) ∧ w'.cell? ⟨b7, 3, none⟩ = some (.int .i64 0) ∧ w'.cell? ⟨b7, 4, none⟩ = some (.int .i64 0) ∧ w'.cell? ⟨b7, 5, none⟩ = some (.slice none 0 0)) ∧ w'.cell? ⟨(ad7.add (jj * 6)).block, (ad7.add (jj * 6)).off + 1, none⟩ = some (.int .u64 (tp : Int)) := fun w' hb => ⟨HS2.out _ hb, (hb.cell (p := ⟨(ad7.add (jj * 6)).block, (ad7.add (jj * 6)).off + 1, none⟩) hpl).trans pv⟩
                    replace HS3 := Lib.hid HS3
                    clear hsv pv hS0
                    go_region_held3 (fun w' => (w'.cell? ⟨p, 0, none⟩ = some (.pointer (some ⟨g, 0, none⟩)) ∧ w'.cell? ⟨b9, 0, none⟩ = some (.int .u64 (own : Int)) ∧ w'.cell? ⟨b9, 1, none⟩ = some (.int .u64 (xmin : Int)) ∧ w'.cell? ⟨b9, 2, none⟩ = some (.int .u64 (xmax : Int)) ∧ w'.cell? ⟨b9, 3, none⟩ = some (.slice As R.length cs) ∧ w'.cell? ⟨b7, 0, none⟩ = some (.int .u64 0) ∧ w'.cell? ⟨b7, 1, none⟩ = some (.int .u64 (ta : Int)) ∧ w'.cell? ⟨b7, 2, none⟩ = some (.int .u64 (tb : Int)) ∧ w'.cell? ⟨b7, 3, none⟩ = some (.int .i64 0) ∧ w'.cell? ⟨b7, 4, none⟩ = some (.int .i64 0) ∧ w'.cell? ⟨b7, 5, none⟩ = some (.slice none 0 0)) ∧ w'.cell? ⟨(ad7.add (jj * 6)).block, (ad7.add (jj * 6)).off + 1, none⟩ = some (.int .u64 (tp : Int))) (first | (with_reducible assumption) | (with_reducible exact HS3.out _ x4d) | (with_reducible exact HS3.out _ x5) | (with_reducible exact HS3.out _ x6))
                      (first
                      | (go_at_call 34; (with_reducible refine (HSA.out _ x4d).mono ?_); rintro e w5 ⟨rfl, hb5⟩; have x5 := x4d.next hb5)
                      | (go_at_call 34; (with_reducible refine (HSB.out _ x5).mono ?_); rintro e w6 ⟨rfl, hb6⟩; have x6 := x5.next hb6))
                    go_wp2_with fail
                    go_meet
                    exact ⟨by rw [hbj, HD0.out, HPB.out]; rfl, x6⟩
              case rest =>
                obtain ⟨rfl, xc⟩ := hcut
                have HVA : Calls Try.prog 36 #[.pointer (some ⟨g, 0, none⟩), .agg #[.int .u64 (own : Int), .int .u64 (xmin : Int), .int .u64 (xmax : Int), .slice As R.length cs], .agg #[.int .u64 0, .int .u64 (ta : Int), .int .u64 (tb : Int), .int .i64 0, .int .i64 0, .slice none 0 0]] wc.drew fun e w'' => e = .returned (.bool (visB 1 S own xmax R ta tb)) ∧ Below wc.drew.heap.size wc.drew w'' := HVI.out wc.drew ta tb ((x3.next xc).next (below_n _ 1))
                have xcd : Below W.heap.size W wc.drew := xc.next (below_n _ 1)
                have hst := fun rise vis hr hv => inv_step (rise := rise) (vis := vis) hinv hj7 hN12 hr hv
                have HST := Lib.hid hst
                have hn1 := hinv.1
                have hn2 := hinv.2.1
                clear hst hinv hS0 HSA
                have hwn : ∀ z : Int, -100 ≤ z → z ≤ 1 → IntKind.i64.wrap (z + 1) = z + 1 := fun z h1 h2 => IntWalk.i64_in _ (by omega)
                have hwn1 := hwn n hn1 hn2
                have hwn2 : IntKind.i64.wrap (-100 + 1) = -99 := by decide
                clear hwn
                obtain ⟨rise, hrise⟩ : ∃ rise, rise = (decide (0 < j) && bb j && !bb (j - 1)) := ⟨_, rfl⟩
                obtain ⟨vis, hvi⟩ : ∃ vis, vis = visB 1 S own xmax R ta tb := ⟨_, rfl⟩
                have hI := HST.out rise vis hrise (hvi.trans HVS.out)
                rw [← hrise]
                rw [← hvi] at HVA
                replace HVA := Lib.hid HVA
                clear hrise hvi
                cases rise with
                | true =>
                  cases vis with
                  | true =>
                    go_upto_region 28 with fail
                    go_region_held3 (fun w' => (w'.cell? ⟨p, 0, none⟩ = some (.pointer (some ⟨g, 0, none⟩)) ∧ w'.cell? ⟨b9, 0, none⟩ = some (.int .u64 (own : Int)) ∧ w'.cell? ⟨b9, 1, none⟩ = some (.int .u64 (xmin : Int)) ∧ w'.cell? ⟨b9, 2, none⟩ = some (.int .u64 (xmax : Int)) ∧ w'.cell? ⟨b9, 3, none⟩ = some (.slice As R.length cs) ∧ w'.cell? ⟨b7, 0, none⟩ = some (.int .u64 0) ∧ w'.cell? ⟨b7, 1, none⟩ = some (.int .u64 (ta : Int)) ∧ w'.cell? ⟨b7, 2, none⟩ = some (.int .u64 (tb : Int)) ∧ w'.cell? ⟨b7, 3, none⟩ = some (.int .i64 0) ∧ w'.cell? ⟨b7, 4, none⟩ = some (.int .i64 0) ∧ w'.cell? ⟨b7, 5, none⟩ = some (.slice none 0 0))) (first | (with_reducible assumption) | (with_reducible exact HS2.out _ xcd) | (with_reducible exact HS2.out _ x8))
                      (first
                      | (go_at_call 36; (with_reducible refine (HVA.out).mono ?_); rintro e w8 ⟨rfl, hb8⟩; have x8 := xcd.next hb8; have x8' := (below_n wc 1).next hb8))
                    go_wp2_with fail
                    go_roundw
                    case rel => exact ⟨j + 1, _, by omega, by go_num, by first | rfl | (simp; done), hI, x3.next x8⟩
                    case measure => simp [intOf]; omega
                  | false =>
                    go_upto_region 28 with fail
                    go_region_held3 (fun w' => (w'.cell? ⟨p, 0, none⟩ = some (.pointer (some ⟨g, 0, none⟩)) ∧ w'.cell? ⟨b9, 0, none⟩ = some (.int .u64 (own : Int)) ∧ w'.cell? ⟨b9, 1, none⟩ = some (.int .u64 (xmin : Int)) ∧ w'.cell? ⟨b9, 2, none⟩ = some (.int .u64 (xmax : Int)) ∧ w'.cell? ⟨b9, 3, none⟩ = some (.slice As R.length cs) ∧ w'.cell? ⟨b7, 0, none⟩ = some (.int .u64 0) ∧ w'.cell? ⟨b7, 1, none⟩ = some (.int .u64 (ta : Int)) ∧ w'.cell? ⟨b7, 2, none⟩ = some (.int .u64 (tb : Int)) ∧ w'.cell? ⟨b7, 3, none⟩ = some (.int .i64 0) ∧ w'.cell? ⟨b7, 4, none⟩ = some (.int .i64 0) ∧ w'.cell? ⟨b7, 5, none⟩ = some (.slice none 0 0))) (first | (with_reducible assumption) | (with_reducible exact HS2.out _ xcd) | (with_reducible exact HS2.out _ x8))
                      (first
                      | (go_at_call 36; (with_reducible refine (HVA.out).mono ?_); rintro e w8 ⟨rfl, hb8⟩; have x8 := xcd.next hb8; have x8' := (below_n wc 1).next hb8))
                    go_wp2_with fail
                    go_roundw
                    case rel => exact ⟨j + 1, _, by omega, by go_num, by first | rfl | (simp; done), hI, x3.next x8⟩
                    case measure => simp [intOf]; omega
                | false =>
                  cases vis with
                  | true =>
                    go_upto_region 28 with fail
                    go_region_held3 (fun w' => (w'.cell? ⟨p, 0, none⟩ = some (.pointer (some ⟨g, 0, none⟩)) ∧ w'.cell? ⟨b9, 0, none⟩ = some (.int .u64 (own : Int)) ∧ w'.cell? ⟨b9, 1, none⟩ = some (.int .u64 (xmin : Int)) ∧ w'.cell? ⟨b9, 2, none⟩ = some (.int .u64 (xmax : Int)) ∧ w'.cell? ⟨b9, 3, none⟩ = some (.slice As R.length cs) ∧ w'.cell? ⟨b7, 0, none⟩ = some (.int .u64 0) ∧ w'.cell? ⟨b7, 1, none⟩ = some (.int .u64 (ta : Int)) ∧ w'.cell? ⟨b7, 2, none⟩ = some (.int .u64 (tb : Int)) ∧ w'.cell? ⟨b7, 3, none⟩ = some (.int .i64 0) ∧ w'.cell? ⟨b7, 4, none⟩ = some (.int .i64 0) ∧ w'.cell? ⟨b7, 5, none⟩ = some (.slice none 0 0))) (first | (with_reducible assumption) | (with_reducible exact HS2.out _ xcd) | (with_reducible exact HS2.out _ x8))
                      (first
                      | (go_at_call 36; (with_reducible refine (HVA.out).mono ?_); rintro e w8 ⟨rfl, hb8⟩; have x8 := xcd.next hb8; have x8' := (below_n wc 1).next hb8))
                    go_wp2_with fail
                    go_roundw
                    case rel => exact ⟨j + 1, _, by omega, by go_num, by first | rfl | (simp; done), hI, x3.next x8⟩
                    case measure => simp [intOf]; omega
                  | false =>
                    go_upto_region 28 with fail
                    go_region_held3 (fun w' => (w'.cell? ⟨p, 0, none⟩ = some (.pointer (some ⟨g, 0, none⟩)) ∧ w'.cell? ⟨b9, 0, none⟩ = some (.int .u64 (own : Int)) ∧ w'.cell? ⟨b9, 1, none⟩ = some (.int .u64 (xmin : Int)) ∧ w'.cell? ⟨b9, 2, none⟩ = some (.int .u64 (xmax : Int)) ∧ w'.cell? ⟨b9, 3, none⟩ = some (.slice As R.length cs) ∧ w'.cell? ⟨b7, 0, none⟩ = some (.int .u64 0) ∧ w'.cell? ⟨b7, 1, none⟩ = some (.int .u64 (ta : Int)) ∧ w'.cell? ⟨b7, 2, none⟩ = some (.int .u64 (tb : Int)) ∧ w'.cell? ⟨b7, 3, none⟩ = some (.int .i64 0) ∧ w'.cell? ⟨b7, 4, none⟩ = some (.int .i64 0) ∧ w'.cell? ⟨b7, 5, none⟩ = some (.slice none 0 0))) (first | (with_reducible assumption) | (with_reducible exact HS2.out _ xcd) | (with_reducible exact HS2.out _ x8))
                      (first
                      | (go_at_call 36; (with_reducible refine (HVA.out).mono ?_); rintro e w8 ⟨rfl, hb8⟩; have x8 := xcd.next hb8; have x8' := (below_n wc 1).next hb8))
                    go_wp2_with fail
                    go_roundw
                    case rel => exact ⟨j + 1, _, by omega, by go_num, by first | rfl | (simp; done), hI, x3.next x8⟩
                    case measure => simp [intOf]; omega
            · obtain rfl : j = N7 := by omega
              have S9 := HSV.out.below x2
              have hn2 := hinv.2.1
              have hle : ¬ (1 : Int) < n := by omega
              clear hinv
              go_wp2_with fail
              go_roundw
              case rel => exact ⟨k + 1, by omega, by go_num, S9⟩
              case measure => simp [intOf]; omega
        · obtain rfl : k = N := by omega
          have hbel := hb1.trans (S5.kp.mine.below.mono hb1.size)
          clear S5
          go_wp2_with fail
          go_ret
          exact ⟨rfl, hbel⟩
end Go.Proofs.Ytjkjomooklhdbaa.snapOne
