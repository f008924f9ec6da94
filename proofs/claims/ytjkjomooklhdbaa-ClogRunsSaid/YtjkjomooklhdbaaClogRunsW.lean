/-
  ClogRuns: the walk: the law answers true; of what was there nothing has turned.
-/
import Derived.Test.YtjkjomooklhdbaaClogOnceW
namespace Go.Proofs.Ytjkjomooklhdbaa.clogRuns
open Go.RowKit Go.Maps Go.Proofs.Ytjkjomooklhdbaa.clogEnds
set_option linter.unusedVariables false

set_option maxRecDepth 100000 in
def EU : El 4 Unit where
  L _ := .bool true
  V _ := .bool true
  zl := .bool false
  zv := .bool false
  zero w := Try.zeroValue4 w
  pz := plainElem_bool Try.underlying4 false
  pv a := plainElem_bool Try.underlying4 true
  iz v ps h := by
    unfold plainElem at h
    rw [Try.underlying4] at h
    cases v <;> simp at h
    rw [h.1]
  iv a v ps h := by
    unfold plainElem at h
    rw [Try.underlying4] at h
    cases v <;> simp at h
    rw [h.1]
/-- What stands between the rounds. -/
structure St (w wr : World) (g m f N n : Nat) (S : List Nat) (F : Nat → Prop) (h : Nat → Option Unit) : Prop where
  log : LG wr g f S F
  mine : Mine w.heap.size w wr F
  map : MU EU wr m h (runs f S).length n
  m0 : w.heap.size ≤ m
  nF : ¬ F m
  len : S.length = N
  st : ∀ x, h x = if stt f S x = 1 then some () else none
section
variable {w wr : World} {g m f N n : Nat} {S : List Nat} {F : Nat → Prop} {h : Nat → Option Unit}
theorem St.below (s : St w wr g m f N n S F h) {w' : World} (hb : Below wr.heap.size wr w') : St w w' g m f N n S F h :=
  ⟨s.log.below hb, s.mine.next hb, s.map.below hb, s.m0, s.nF, s.len, s.st⟩
theorem St.alloc (s : St w wr g m f N n S F h) (o : Obj) : St w (wr.alloc o) g m f N n S F h := s.below ((Below.refl _ _).alloc (Nat.le_refl _) o)
theorem St.drewN (s : St w wr g m f N n S F h) (q : Nat) : St w (wr.drewN q) g m f N n S F h := s.below (below_n _ _)
end
theorem end_len (f : Nat) (S : List Nat) (x s : Nat) : (endL f S x s).length = S.length := by unfold endL; split <;> simp
theorem end_st {f : Nat} {S : List Nat} {h : Nat → Option Unit} (hst : ∀ x, h x = if stt f S x = 1 then some () else none) (x s : Nat) (hs : s ≠ 1) :
    (∀ y, upd h x none y = if stt f (endL f S x s) y = 1 then some () else none) ∧ (if (h x).isSome then (runs f S).length - 1 else (runs f S).length) = (runs f (endL f S x s)).length := by
  unfold endL
  by_cases hx : stt f S x = 1
  · rw [if_pos hx]
    have hr := stt_lt (by rw [hx]; decide : stt f S x ≠ 0)
    refine ⟨fun y => ?_, ?_⟩
    · rw [stt_set hr.1 hr.2]
      unfold upd
      by_cases e : y = x
      · rw [if_pos e, if_pos e, if_neg hs]
      · rw [if_neg e, if_neg e, hst]
    · rw [hst x, if_pos hx]
      have := clogOnce.runs_set_len (s := s) hx hs
      show (runs f S).length - 1 = _
      omega
  · rw [if_neg hx]
    have hn : h x = none := by rw [hst x, if_neg hx]
    refine ⟨fun y => ?_, by rw [hn]; rfl⟩
    unfold upd
    by_cases e : y = x
    · rw [if_pos e, e, if_neg hx]
    · rw [if_neg e, hst]
theorem beg_st {f : Nat} {S : List Nat} {h : Nat → Option Unit} (hst : ∀ x, h x = if stt f S x = 1 then some () else none) :
    h (f + S.length) = none ∧ (∀ y, upd h (f + S.length) (some ()) y = if stt f (S ++ [1]) y = 1 then some () else none) ∧ (runs f S).length + 1 = (runs f (S ++ [1])).length := by
  have h0 : stt f S (f + S.length) ≠ 1 := fun e => by have := stt_lt (by rw [e]; decide : stt f S (f + S.length) ≠ 0); omega
  refine ⟨by rw [hst, if_neg h0], fun y => ?_, by rw [runs_append]; simp⟩
  rw [stt_app]
  unfold upd
  by_cases e : y = f + S.length
  · rw [if_pos e, if_pos e, if_pos rfl]
  · rw [if_neg e, if_neg e, hst]
def w8_fact (W : World) (g5 j x6 : Nat) : Prop := W.cell? ⟨g5, j, none⟩ = some (.int .u64 (x6 : Int))
set_option maxRecDepth 100000 in
set_option maxHeartbeats 2000000 in
theorem walk (a : Nat) (A : Option Addr) (cc : Nat) (l : List Op9) (w : World) (ha : a < 18446744073709551616) (r0 : Rd w 3 A l.length (l.flatMap Op9.e)) (n0 : l.length ≤ cc) (m0 : cc ≤ 9223372036854775807) :
    Calls Try.prog 5 #[.int .u64 (a : Int), .slice A l.length cc] w fun e w' => e = .returned (.bool true) ∧ Below w.heap.size w w' := by
  obtain ⟨z, hz⟩ : ∃ z, z = a % 1000000 := ⟨_, rfl⟩
  have hz0 : z < 1000000 := by omega
  have e1 : ((a : Int)).tmod 1000000 = (z : Int) := by rw [hz, Int.tmod_eq_emod_of_nonneg (by omega)]; omega
  obtain ⟨f, hf⟩ : ∃ f, f = 1 + z := ⟨_, rfl⟩
  have hf0 : 1 ≤ f ∧ f ≤ 1000000 := by omega
  have e2 : IntKind.u64.wrap (1 + (z : Int)) = (f : Int) := by rw [show 1 + (z : Int) = (f : Int) by omega]; exact IntWalk.u64_in _ (by omega)
  have hmm := @run_makeMap Try.prog
  have HF := Lib.hid hf
  clear hz hf
  go_enter Try.func5, Try.ntmps5
  go_wp2_with fail
  refine (awake9_any w).mono ?_
  rintro e w1 ⟨rfl, hb1⟩
  go_wp2_with fail
  refine (lg_new w1 f (by omega) (by omega)).mono ?_
  rintro e w2 ⟨rfl, h2, hb2⟩
  have m2 : Mine w.heap.size w w2 (fun k => k = w1.heap.size) := ⟨fun k hk => by have := hb1.size; omega, hb1.trans (hb2.mono hb1.size), Nat.le_trans hb1.size hb2.size⟩
  clear hb1 hb2
  generalize w1.heap.size = g at *
  have S0 : St w (w2.alloc (.map #[] 0)) g w2.heap.size f 0 0 [] (fun k => k = g) (fun _ => none) :=
    ⟨h2.alloc _, m2.alloc _, mu_made EU w2, m2.size, fun hh => by have := h2.lt hh; omega, rfl, fun x => by rw [if_neg (by unfold stt; split <;> simp)]⟩
  clear h2 m2
  go_wp2
  generalize w2.heap.size = m at *
  go_loopw [8, 32] (fun nv iv wr => ∃ (i N n : Nat) (S : List Nat) (F : Nat → Prop) (h : Nat → Option Unit), i ≤ l.length ∧ i ≤ 60 ∧ n ≤ i ∧ N ≤ i ∧ iv = .int .i64 (i : Int) ∧ nv = .int .i64 (N : Int) ∧ St w wr g m f N n S F h) (fun _ iv _ => l.length - (intOf iv).toNat)
  case atStart => exact ⟨0, 0, 0, _, _, _, Nat.zero_le _, by omega, by omega, by omega, rfl, rfl, S0⟩
  case round =>
    obtain ⟨i, N, n, S, F, h, hi, hi6, hn, hN, rfl, rfl, hS⟩ := hrel
    by_cases hend : i < l.length ∧ i < 60
    · obtain ⟨hlt, h60⟩ := hend
      obtain ⟨ad, rfl, q0, q1, q2⟩ := op9_at (Rd.below r0 (hS.mine.below.mono (Nat.le_refl _))) hlt
      have ix := idx_op9 ad l.length cc i hlt
      have ho1 := l[i].h1
      have ho2 := l[i].h2
      generalize l[i] = o at *
      obtain ⟨d, hd⟩ : ∃ d, d = o.do_ % 5 := ⟨_, rfl⟩
      obtain ⟨y, hy⟩ : ∃ y, y = o.xid % 64 := ⟨_, rfl⟩
      obtain ⟨x, hx⟩ : ∃ x, x = f + y := ⟨_, rfl⟩
      have ed : ((o.do_ : Int)).tmod 5 = (d : Int) := by rw [hd, Int.tmod_eq_emod_of_nonneg (by omega)]; omega
      have ey : ((o.xid : Int)).tmod 64 = (y : Int) := by rw [hy, Int.tmod_eq_emod_of_nonneg (by omega)]; omega
      have hy6 : y < 64 := by omega
      have ex : IntKind.u64.wrap ((f : Int) + (y : Int)) = (x : Int) := by rw [show (f : Int) + (y : Int) = (x : Int) by omega]; exact IntWalk.u64_in _ (by omega)
      have hx6 : x < 2000000 := by omega
      have hd5 : d < 5 := by omega
      clear hd hy hx r0 S0
      have SW := hS.alloc (.cells #[.int .u8 (o.do_ : Int), .int .u64 (o.xid : Int), .bool o.near] 33)
      have b := Bx.new wr 33 #[.int .u8 (o.do_ : Int), .int .u64 (o.xid : Int), .bool o.near] [.int .u8 (o.do_ : Int), .int .u64 (o.xid : Int), .bool o.near] rfl
      have c0 := b.cell 0
      have c1 := b.cell 1
      clear hS b
      have hN6 : S.length = N := SW.len
      by_cases hd3 : d = 3
      · subst hd3
        have HC := Lib.hid (lg_commit _ g f x S F SW.log (by omega))
        have hes := end_st SW.st x 2 (by decide)
        have HES := Lib.hid hes
        clear hes
        go_wp2_with fail
        refine (HC.out).mono ?_
        rintro e w3 ⟨rfl, F3, h3, g3⟩
        have m3 := SW.mine.chg g3
        have u3 := SW.map.fr g3.fr SW.nF
        have nF3 : ¬ F3 m := fun hh => (g3.new m hh).elim SW.nF fun hh => by have := SW.map.lt; omega
        have hm0 := SW.m0
        have hel := end_len f S x 2
        clear g3 SW c0 c1 q0 q1 q2 HC
        go_wp2_with (at_delete; refine wpList_mu_del EU _ rfl _ _ 53 22 rfl rfl Try.underlying53 m _ n h rfl u3 x (by omega) rfl ?_; intro w4 u4' f4; have S4 : St w w4 g m f N n (endL f S x 2) F3 (upd h x none) := ⟨h3.fr f4 (fun k hk e => nF3 (e ▸ hk)), ⟨m3.above, m3.below.trans (f4.below (fun k e => by omega) m3.size), Nat.le_trans m3.size f4.size⟩, (by have := u4'; rw [HES.out.2] at this; exact this), hm0, nF3, (by rw [hel]; exact hN6), HES.out.1⟩; clear u4' f4 u3 h3 m3)
        have hrl := runs_length f (endL f S x 2)
        have hTl : (endL f S x 2).length = N := S4.len
        generalize endL f S x 2 = T at *
        generalize upd h x none = hh at *
        have HR := Lib.hid (show (∀ (k : Nat) (x : Nat), (runs f T)[k]? = some x → stt f T x = 1 ∧ hh x = some () ∧ x < 18446744073709551616) ∧ (runs f T).Pairwise (· < ·) from ⟨fun k x hx => by
          have h1 := (runs_mem f T x).1 (List.mem_of_getElem? hx)
          have h2 := stt_lt (by rw [h1]; decide : stt f T x ≠ 0)
          exact ⟨h1, by rw [S4.st x, if_pos h1], by omega⟩, runs_sorted f T⟩)
        have HA := Lib.hid (lg_all w4 g f T F3 S4.log)
        obtain ⟨y2, hy2⟩ : ∃ y2, y2 = f + (N) := ⟨_, rfl⟩
        have HN : ∀ W, LG W g f T F3 → Calls Try.prog 22 #[.pointer (some ⟨g, 0, none⟩)] W fun e w' => e = .returned (.int .u64 (y2 : Int)) ∧ ∃ q, w' = W.drewN q := fun W hW => by
          have := lg_next W g f T F3 hW
          rw [hTl, ← hy2] at this
          exact this
        have hyw : IntKind.u64.wrap ((f : Int) + (N : Int)) = (y2 : Int) := by rw [show (f : Int) + (N : Int) = (y2 : Int) by omega]; exact IntWalk.u64_in _ (by omega)
        have HN := Lib.hid HN
        have HTL := Lib.hid hTl
        have hRl : (runs f T).length ≤ 61 := by omega
        have HM4 : MU EU w4 m hh (runs f T).length (n) := S4.map
        clear hy2 hTl hrl
        obtain ⟨R, hR⟩ : ∃ R, R = runs f T := ⟨_, rfl⟩
        rw [← hR] at HA HR hRl HM4
        have HRR := Lib.hid hR
        clear hR
        go_wp2_with (first
          | (go_at_call 25; (with_reducible refine (HA.out).mono ?_); rintro e w5 ⟨v5, rfl, o5, b5⟩; have S5 := S4.below b5; have hlen := fun ty => (HM4.below b5).len Try.underlying53 ty; obtain ⟨A5, k5, rfl, _, _, _⟩ := own_form o5; clear b5 S4 HM4)
          | (go_at_call 22; (with_reducible refine (HN.out _ S5.log).mono ?_); rintro e w6 ⟨rfl, q6, hw6⟩; have S6 := S5.drewN q6; have o6 := own_drewN o5 q6; rw [← hw6] at S6 o6; clear hw6 hlen S5 o5))
        go_loopw [103] (fun kv wq => ∃ k : Nat, k ≤ R.length ∧ kv = .int .i64 (k : Int) ∧ St w wq g m f (N) (n) T F3 hh ∧ wq.ownsRow w4.heap.size 22 1 (.slice A5 R.length k5) R.length (ucells .u64 R)) (fun kv _ => R.length - (intOf kv).toNat)
        case atStart => exact ⟨0, Nat.zero_le _, rfl, S6, o6⟩
        case round =>
          obtain ⟨k, hk, rfl, S7, o7⟩ := hrel
          clear S6 o6
          by_cases hkR : k < R.length
          · obtain ⟨g5, c5, hv5, _, _, _⟩ := own_shape o7 (by omega)
            injection hv5 with hA5 _ hc5
            subst hA5 hc5
            have hx := HR.out.1 k R[k] (List.getElem?_eq_getElem hkR)
            have hcell := (o7.cellAt k (by omega)).trans (ucells_get .u64 R k hkR)
            have ix7 := idx_u64 g5 R.length k5 k hkR
            have HS : Calls Try.prog 20 #[.pointer (some ⟨g, 0, none⟩), .int .u64 (R[k] : Int)] wr fun e w' => e = .returned (.int .i64 1) ∧ ∃ n, w' = wr.drewN n := by
              have := lg_state wr g f R[k] _ _ S7.log
              rw [hx.1] at this
              exact this
            have hget : (Instr.lookup 53 (.map (some m)) (.int .u64 (R[k] : Int)) false).run Try.prog wr = .ok (.bool true) wr := by
              have := S7.map.get Try.underlying53 (x := R[k]) hx.2.2
              rw [hx.2.1] at this
              exact this
            replace HS := Lib.hid HS
            cases k with
            | zero =>
              clear hx
              generalize R[0] = x7 at *
              have H7 := Lib.hid S7
              have O7 := Lib.hid o7
              clear S7 o7
              go_wp2_with (go_at_call 20; (with_reducible refine (HS.out).mono ?_); rintro e w8 ⟨rfl, q8, hw8⟩; have S8 := H7.out.drewN q8; have o8 := own_drewN O7.out q8; rw [← hw8] at S8 o8; clear hw8)
              go_roundw
              case rel => exact ⟨1, by omega, by go_num, S8, o8⟩
              case measure => simp [intOf]; omega
            | succ j =>
              have hjR : j < R.length := by omega
              have hlt7 := (sorted_lt HR.out.2 (List.getElem?_eq_getElem hjR) (List.getElem?_eq_getElem hkR)).2 (by omega)
              have hcellj := (o7.cellAt j (by omega)).trans (ucells_get .u64 R j hjR)
              have ixj := idx_u64 g5 R.length k5 j hjR
              clear hx
              generalize R[j + 1] = x7 at *
              generalize R[j] = x6 at *
              have hge : ¬ (x7 : Int) ≤ (x6 : Int) := by omega
              have hcj : w8_fact wr g5 j x6 := hcellj
              have H7 := Lib.hid S7
              have O7 := Lib.hid o7
              clear S7 o7 hlt7
              go_wp2_with (go_at_call 20; (with_reducible refine (HS.out).mono ?_); rintro e w8 ⟨rfl, q8, hw8⟩; have S8 := H7.out.drewN q8; have o8 := own_drewN O7.out q8; rw [← hw8] at S8 o8; have hc8 := (o8.cellAt j (by omega)).trans (by exact (O7.out.cellAt j (by omega)).symm.trans hcj); clear hw8)
              go_roundw
              case rel => exact ⟨j + 2, by omega, by go_num, S8, o8⟩
              case measure => simp [intOf]; omega
          · obtain rfl : k = R.length := by omega
            clear o7
            go_wp2_with fail
            go_roundw
            case rel => exact ⟨i + 1, _, _, _, _, _, by omega, by omega, by omega, by omega, by go_num, by go_num, S7⟩
            case measure => simp [intOf]; omega
      · by_cases hd4 : d = 4
        · subst hd4
          have HC := Lib.hid (lg_abort _ g f x S F SW.log (by omega))
          have hes := end_st SW.st x 3 (by decide)
          have HES := Lib.hid hes
          clear hes
          go_wp2_with fail
          refine (HC.out).mono ?_
          rintro e w3 ⟨rfl, F3, h3, g3⟩
          have m3 := SW.mine.chg g3
          have u3 := SW.map.fr g3.fr SW.nF
          have nF3 : ¬ F3 m := fun hh => (g3.new m hh).elim SW.nF fun hh => by have := SW.map.lt; omega
          have hm0 := SW.m0
          have hel := end_len f S x 3
          clear g3 SW c0 c1 q0 q1 q2 HC
          go_wp2_with (at_delete; refine wpList_mu_del EU _ rfl _ _ 53 22 rfl rfl Try.underlying53 m _ n h rfl u3 x (by omega) rfl ?_; intro w4 u4' f4; have S4 : St w w4 g m f N n (endL f S x 3) F3 (upd h x none) := ⟨h3.fr f4 (fun k hk e => nF3 (e ▸ hk)), ⟨m3.above, m3.below.trans (f4.below (fun k e => by omega) m3.size), Nat.le_trans m3.size f4.size⟩, (by have := u4'; rw [HES.out.2] at this; exact this), hm0, nF3, (by rw [hel]; exact hN6), HES.out.1⟩; clear u4' f4 u3 h3 m3)
          have hrl := runs_length f (endL f S x 3)
          have hTl : (endL f S x 3).length = N := S4.len
          generalize endL f S x 3 = T at *
          generalize upd h x none = hh at *
          have HR := Lib.hid (show (∀ (k : Nat) (x : Nat), (runs f T)[k]? = some x → stt f T x = 1 ∧ hh x = some () ∧ x < 18446744073709551616) ∧ (runs f T).Pairwise (· < ·) from ⟨fun k x hx => by
            have h1 := (runs_mem f T x).1 (List.mem_of_getElem? hx)
            have h2 := stt_lt (by rw [h1]; decide : stt f T x ≠ 0)
            exact ⟨h1, by rw [S4.st x, if_pos h1], by omega⟩, runs_sorted f T⟩)
          have HA := Lib.hid (lg_all w4 g f T F3 S4.log)
          obtain ⟨y2, hy2⟩ : ∃ y2, y2 = f + (N) := ⟨_, rfl⟩
          have HN : ∀ W, LG W g f T F3 → Calls Try.prog 22 #[.pointer (some ⟨g, 0, none⟩)] W fun e w' => e = .returned (.int .u64 (y2 : Int)) ∧ ∃ q, w' = W.drewN q := fun W hW => by
            have := lg_next W g f T F3 hW
            rw [hTl, ← hy2] at this
            exact this
          have hyw : IntKind.u64.wrap ((f : Int) + (N : Int)) = (y2 : Int) := by rw [show (f : Int) + (N : Int) = (y2 : Int) by omega]; exact IntWalk.u64_in _ (by omega)
          have HN := Lib.hid HN
          have HTL := Lib.hid hTl
          have hRl : (runs f T).length ≤ 61 := by omega
          have HM4 : MU EU w4 m hh (runs f T).length (n) := S4.map
          clear hy2 hTl hrl
          obtain ⟨R, hR⟩ : ∃ R, R = runs f T := ⟨_, rfl⟩
          rw [← hR] at HA HR hRl HM4
          have HRR := Lib.hid hR
          clear hR
          go_wp2_with (first
            | (go_at_call 25; (with_reducible refine (HA.out).mono ?_); rintro e w5 ⟨v5, rfl, o5, b5⟩; have S5 := S4.below b5; have hlen := fun ty => (HM4.below b5).len Try.underlying53 ty; obtain ⟨A5, k5, rfl, _, _, _⟩ := own_form o5; clear b5 S4 HM4)
            | (go_at_call 22; (with_reducible refine (HN.out _ S5.log).mono ?_); rintro e w6 ⟨rfl, q6, hw6⟩; have S6 := S5.drewN q6; have o6 := own_drewN o5 q6; rw [← hw6] at S6 o6; clear hw6 hlen S5 o5))
          go_loopw [103] (fun kv wq => ∃ k : Nat, k ≤ R.length ∧ kv = .int .i64 (k : Int) ∧ St w wq g m f (N) (n) T F3 hh ∧ wq.ownsRow w4.heap.size 22 1 (.slice A5 R.length k5) R.length (ucells .u64 R)) (fun kv _ => R.length - (intOf kv).toNat)
          case atStart => exact ⟨0, Nat.zero_le _, rfl, S6, o6⟩
          case round =>
            obtain ⟨k, hk, rfl, S7, o7⟩ := hrel
            clear S6 o6
            by_cases hkR : k < R.length
            · obtain ⟨g5, c5, hv5, _, _, _⟩ := own_shape o7 (by omega)
              injection hv5 with hA5 _ hc5
              subst hA5 hc5
              have hx := HR.out.1 k R[k] (List.getElem?_eq_getElem hkR)
              have hcell := (o7.cellAt k (by omega)).trans (ucells_get .u64 R k hkR)
              have ix7 := idx_u64 g5 R.length k5 k hkR
              have HS : Calls Try.prog 20 #[.pointer (some ⟨g, 0, none⟩), .int .u64 (R[k] : Int)] wr fun e w' => e = .returned (.int .i64 1) ∧ ∃ n, w' = wr.drewN n := by
                have := lg_state wr g f R[k] _ _ S7.log
                rw [hx.1] at this
                exact this
              have hget : (Instr.lookup 53 (.map (some m)) (.int .u64 (R[k] : Int)) false).run Try.prog wr = .ok (.bool true) wr := by
                have := S7.map.get Try.underlying53 (x := R[k]) hx.2.2
                rw [hx.2.1] at this
                exact this
              replace HS := Lib.hid HS
              cases k with
              | zero =>
                clear hx
                generalize R[0] = x7 at *
                have H7 := Lib.hid S7
                have O7 := Lib.hid o7
                clear S7 o7
                go_wp2_with (go_at_call 20; (with_reducible refine (HS.out).mono ?_); rintro e w8 ⟨rfl, q8, hw8⟩; have S8 := H7.out.drewN q8; have o8 := own_drewN O7.out q8; rw [← hw8] at S8 o8; clear hw8)
                go_roundw
                case rel => exact ⟨1, by omega, by go_num, S8, o8⟩
                case measure => simp [intOf]; omega
              | succ j =>
                have hjR : j < R.length := by omega
                have hlt7 := (sorted_lt HR.out.2 (List.getElem?_eq_getElem hjR) (List.getElem?_eq_getElem hkR)).2 (by omega)
                have hcellj := (o7.cellAt j (by omega)).trans (ucells_get .u64 R j hjR)
                have ixj := idx_u64 g5 R.length k5 j hjR
                clear hx
                generalize R[j + 1] = x7 at *
                generalize R[j] = x6 at *
                have hge : ¬ (x7 : Int) ≤ (x6 : Int) := by omega
                have hcj : w8_fact wr g5 j x6 := hcellj
                have H7 := Lib.hid S7
                have O7 := Lib.hid o7
                clear S7 o7 hlt7
                go_wp2_with (go_at_call 20; (with_reducible refine (HS.out).mono ?_); rintro e w8 ⟨rfl, q8, hw8⟩; have S8 := H7.out.drewN q8; have o8 := own_drewN O7.out q8; rw [← hw8] at S8 o8; have hc8 := (o8.cellAt j (by omega)).trans (by exact (O7.out.cellAt j (by omega)).symm.trans hcj); clear hw8)
                go_roundw
                case rel => exact ⟨j + 2, by omega, by go_num, S8, o8⟩
                case measure => simp [intOf]; omega
            · obtain rfl : k = R.length := by omega
              clear o7
              go_wp2_with fail
              go_roundw
              case rel => exact ⟨i + 1, _, _, _, _, _, by omega, by omega, by omega, by omega, by go_num, by go_num, S7⟩
              case measure => simp [intOf]; omega
        · have t3 : ((d : Int) == 3) = false := beq_eq_false_iff_ne.2 (by omega)
          have t4 : ((d : Int) == 4) = false := beq_eq_false_iff_ne.2 (by omega)
          have hB := lg_begin _ g f S F SW.log
          have hbl : begL f S = S ++ [1] := by unfold begL; rw [if_pos (by omega)]
          obtain ⟨y1, hy1⟩ : ∃ y1, y1 = f + N := ⟨_, rfl⟩
          have hbr : begR f S = .tuple #[.int .u64 (y1 : Int), .int .i64 0] := by unfold begR; rw [if_pos (by omega), hN6, ← hy1]
          rw [hbl, hbr] at hB
          have HC := Lib.hid hB
          have hes := beg_st SW.st
          rw [hN6, ← hy1] at hes
          have HES := Lib.hid hes
          have hy1w : IntKind.u64.wrap ((f : Int) + (N : Int)) = (y1 : Int) := by rw [show (f : Int) + (N : Int) = (y1 : Int) by omega]; exact IntWalk.u64_in _ (by omega)
          have hy16 : y1 < 2000000 := by omega
          clear hes hB hbl hbr hy1
          go_wp2_with fail
          refine (HC.out).mono ?_
          rintro e w3 ⟨rfl, F3, h3, g3⟩
          have m3 := SW.mine.chg g3
          have u3 := SW.map.fr g3.fr SW.nF
          have nF3 : ¬ F3 m := fun hh => (g3.new m hh).elim SW.nF fun hh => by have := SW.map.lt; omega
          have hm0 := SW.m0
          have hgetb : (Instr.lookup 53 (.map (some m)) (.int .u64 (y1 : Int)) false).run Try.prog w3 = .ok (.bool false) w3 := by
            have := u3.get Try.underlying53 (x := y1) (by omega)
            rw [HES.out.1] at this
            exact this
          clear g3 SW c0 c1 q0 q1 q2 HC
          go_wp2_with (at_mapUpdate; refine wpList_mu_put EU _ rfl _ _ _ 53 rfl Try.underlying53 m _ n h rfl u3 (by omega) y1 (by omega) () rfl rfl ?_; intro w4 u4' f4; have S4 : St w w4 g m f (N + 1) (n + 1) (S ++ [1]) F3 (upd h y1 (some ())) := ⟨h3.fr f4 (fun k hk e => nF3 (e ▸ hk)), ⟨m3.above, m3.below.trans (f4.below (fun k e => by omega) m3.size), Nat.le_trans m3.size f4.size⟩, (by have := u4'; rw [← HES.out.2.2]; rw [HES.out.1] at this; exact this), hm0, nF3, (by rw [List.length_append, hN6]; rfl), HES.out.2.1⟩; clear u4' f4 u3 h3 m3 hgetb)
          have hrl := runs_length f (S ++ [1])
          have hTl : (S ++ [1]).length = N + 1 := S4.len
          generalize S ++ [1] = T at *
          generalize upd h y1 (some ()) = hh at *
          have HR := Lib.hid (show (∀ (k : Nat) (x : Nat), (runs f T)[k]? = some x → stt f T x = 1 ∧ hh x = some () ∧ x < 18446744073709551616) ∧ (runs f T).Pairwise (· < ·) from ⟨fun k x hx => by
            have h1 := (runs_mem f T x).1 (List.mem_of_getElem? hx)
            have h2 := stt_lt (by rw [h1]; decide : stt f T x ≠ 0)
            exact ⟨h1, by rw [S4.st x, if_pos h1], by omega⟩, runs_sorted f T⟩)
          have HA := Lib.hid (lg_all w4 g f T F3 S4.log)
          obtain ⟨y2, hy2⟩ : ∃ y2, y2 = f + (N + 1) := ⟨_, rfl⟩
          have HN : ∀ W, LG W g f T F3 → Calls Try.prog 22 #[.pointer (some ⟨g, 0, none⟩)] W fun e w' => e = .returned (.int .u64 (y2 : Int)) ∧ ∃ q, w' = W.drewN q := fun W hW => by
            have := lg_next W g f T F3 hW
            rw [hTl, ← hy2] at this
            exact this
          have hyw : IntKind.u64.wrap ((f : Int) + ((N : Int) + 1)) = (y2 : Int) := by rw [show (f : Int) + ((N : Int) + 1) = (y2 : Int) by omega]; exact IntWalk.u64_in _ (by omega)
          have HN := Lib.hid HN
          have HTL := Lib.hid hTl
          have hRl : (runs f T).length ≤ 61 := by omega
          have HM4 : MU EU w4 m hh (runs f T).length (n + 1) := S4.map
          clear hy2 hTl hrl
          obtain ⟨R, hR⟩ : ∃ R, R = runs f T := ⟨_, rfl⟩
          rw [← hR] at HA HR hRl HM4
          have HRR := Lib.hid hR
          clear hR
          go_wp2_with (first
            | (go_at_call 25; (with_reducible refine (HA.out).mono ?_); rintro e w5 ⟨v5, rfl, o5, b5⟩; have S5 := S4.below b5; have hlen := fun ty => (HM4.below b5).len Try.underlying53 ty; obtain ⟨A5, k5, rfl, _, _, _⟩ := own_form o5; clear b5 S4 HM4)
            | (go_at_call 22; (with_reducible refine (HN.out _ S5.log).mono ?_); rintro e w6 ⟨rfl, q6, hw6⟩; have S6 := S5.drewN q6; have o6 := own_drewN o5 q6; rw [← hw6] at S6 o6; clear hw6 hlen S5 o5))
          go_loopw [103] (fun kv wq => ∃ k : Nat, k ≤ R.length ∧ kv = .int .i64 (k : Int) ∧ St w wq g m f (N + 1) (n + 1) T F3 hh ∧ wq.ownsRow w4.heap.size 22 1 (.slice A5 R.length k5) R.length (ucells .u64 R)) (fun kv _ => R.length - (intOf kv).toNat)
          case atStart => exact ⟨0, Nat.zero_le _, rfl, S6, o6⟩
          case round =>
            obtain ⟨k, hk, rfl, S7, o7⟩ := hrel
            clear S6 o6
            by_cases hkR : k < R.length
            · obtain ⟨g5, c5, hv5, _, _, _⟩ := own_shape o7 (by omega)
              injection hv5 with hA5 _ hc5
              subst hA5 hc5
              have hx := HR.out.1 k R[k] (List.getElem?_eq_getElem hkR)
              have hcell := (o7.cellAt k (by omega)).trans (ucells_get .u64 R k hkR)
              have ix7 := idx_u64 g5 R.length k5 k hkR
              have HS : Calls Try.prog 20 #[.pointer (some ⟨g, 0, none⟩), .int .u64 (R[k] : Int)] wr fun e w' => e = .returned (.int .i64 1) ∧ ∃ n, w' = wr.drewN n := by
                have := lg_state wr g f R[k] _ _ S7.log
                rw [hx.1] at this
                exact this
              have hget : (Instr.lookup 53 (.map (some m)) (.int .u64 (R[k] : Int)) false).run Try.prog wr = .ok (.bool true) wr := by
                have := S7.map.get Try.underlying53 (x := R[k]) hx.2.2
                rw [hx.2.1] at this
                exact this
              replace HS := Lib.hid HS
              cases k with
              | zero =>
                clear hx
                generalize R[0] = x7 at *
                have H7 := Lib.hid S7
                have O7 := Lib.hid o7
                clear S7 o7
                go_wp2_with (go_at_call 20; (with_reducible refine (HS.out).mono ?_); rintro e w8 ⟨rfl, q8, hw8⟩; have S8 := H7.out.drewN q8; have o8 := own_drewN O7.out q8; rw [← hw8] at S8 o8; clear hw8)
                go_roundw
                case rel => exact ⟨1, by omega, by go_num, S8, o8⟩
                case measure => simp [intOf]; omega
              | succ j =>
                have hjR : j < R.length := by omega
                have hlt7 := (sorted_lt HR.out.2 (List.getElem?_eq_getElem hjR) (List.getElem?_eq_getElem hkR)).2 (by omega)
                have hcellj := (o7.cellAt j (by omega)).trans (ucells_get .u64 R j hjR)
                have ixj := idx_u64 g5 R.length k5 j hjR
                clear hx
                generalize R[j + 1] = x7 at *
                generalize R[j] = x6 at *
                have hge : ¬ (x7 : Int) ≤ (x6 : Int) := by omega
                have hcj : w8_fact wr g5 j x6 := hcellj
                have H7 := Lib.hid S7
                have O7 := Lib.hid o7
                clear S7 o7 hlt7
                go_wp2_with (go_at_call 20; (with_reducible refine (HS.out).mono ?_); rintro e w8 ⟨rfl, q8, hw8⟩; have S8 := H7.out.drewN q8; have o8 := own_drewN O7.out q8; rw [← hw8] at S8 o8; have hc8 := (o8.cellAt j (by omega)).trans (by exact (O7.out.cellAt j (by omega)).symm.trans hcj); clear hw8)
                go_roundw
                case rel => exact ⟨j + 2, by omega, by go_num, S8, o8⟩
                case measure => simp [intOf]; omega
            · obtain rfl : k = R.length := by omega
              clear o7
              go_wp2_with fail
              go_roundw
              case rel => exact ⟨i + 1, _, _, _, _, _, by omega, by omega, by omega, by omega, by go_num, by go_num, S7⟩
              case measure => simp [intOf]; omega
    · rcases (show i = l.length ∨ (i < l.length ∧ i = 60) by omega) with hil | ⟨hlt2, hil⟩
      · subst hil
        have hbel := hS.mine.below
        clear r0 S0 hS
        go_wp2_with fail
        go_ret
        exact ⟨rfl, hbel⟩
      · obtain ⟨ad, rfl, q0, q1, q2⟩ := op9_at (Rd.below r0 (hS.mine.below.mono (Nat.le_refl _))) hlt2
        have ix := idx_op9 ad l.length cc i hlt2
        generalize l[i] = o at *
        have h60 : ¬ i < 60 := by omega
        have hbel := (hS.mine.alloc (.cells #[.int .u8 (o.do_ : Int), .int .u64 (o.xid : Int), .bool o.near] 33)).below
        clear r0 S0 hS hil hi6
        go_wp2_with fail
        go_ret
        exact ⟨rfl, hbel⟩
end Go.Proofs.Ytjkjomooklhdbaa.clogRuns
