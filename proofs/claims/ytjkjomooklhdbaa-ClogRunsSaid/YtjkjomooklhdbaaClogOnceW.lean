/-
  ClogOnce: the walk: the law answers true; of what was there nothing has turned.
-/
import Derived.Test.YtjkjomooklhdbaaClogEndsW
import Derived.Test.YtjkjomooklhdbaaMapU
import Derived.Test.YtjkjomooklhdbaaOpen9
import Derived.Deep.DeepCutAuto
namespace Go.Proofs.Ytjkjomooklhdbaa.clogOnce
open Go.RowKit Go.Maps Go.Proofs.Ytjkjomooklhdbaa.clogEnds
set_option linter.unusedVariables false

def nB (a : Bool) : Int := if a then 3 else 2
set_option maxRecDepth 100000 in
def EB : El 3 Bool where
  L a := .int .i64 (nB a)
  V a := .int .i64 (nB a)
  zl := .int .i64 0
  zv := .int .i64 0
  zero w := Try.zeroValue3 w
  pz := plainElem_int Try.underlying3 (by decide)
  pv a := plainElem_int Try.underlying3 (by cases a <;> decide)
  iz v ps h := by
    obtain ⟨a, rfl, e, _⟩ := plainElem_int_inv Try.underlying3 h
    injection e with e _
    injection e with e
    injection e with _ e
    rw [e]
  iv a v ps h := by
    obtain ⟨a, rfl, e, _⟩ := plainElem_int_inv Try.underlying3 h
    injection e with e _
    injection e with e
    injection e with _ e
    rw [e]
/-- What the law's map keeps, and the log's states. -/
structure Onc (S : List Nat) (f : Nat → Option Bool) (k c : Nat) : Prop where
  len : S.length = k
  st : ∀ x, 1 ≤ x → x ≤ k → stt 1 S x = (match f x with | none => 1 | some false => 2 | some true => 3)
  cnt : (runs 1 S).length + c = k
theorem runs_set_len {f : Nat} {S : List Nat} {x s : Nat} (hx : stt f S x = 1) (hs : s ≠ 1) : (runs f (S.set (x - f) s)).length + 1 = (runs f S).length := by
  obtain ⟨i, hi⟩ := runs_pos hx
  have hlt := (List.getElem?_eq_some_iff.1 hi).1
  rw [runs_set hx hs, filter_at (runs_sorted f S) hi]
  simp
  omega
theorem onc_yes {S : List Nat} {f : Nat → Option Bool} {k c x : Nat} (h : Onc S f k c) (h1 : 1 ≤ x) (h2 : x ≤ k) (hf : f x = none) (b : Bool) :
    endE 1 S x = 0 ∧ Onc (endL 1 S x (if b then 3 else 2)) (upd f x (some b)) k (c + 1) := by
  have hs := h.st x h1 h2
  rw [hf] at hs
  have hs : stt 1 S x = 1 := hs
  unfold endE endL
  rw [if_pos hs, if_pos hs]
  refine ⟨rfl, by rw [List.length_set]; exact h.len, fun y y1 y2 => ?_, ?_⟩
  · rw [stt_set h1 (by rw [h.len]; omega)]
    unfold upd
    by_cases e : y = x
    · rw [if_pos e, if_pos e]; cases b <;> rfl
    · rw [if_neg e, if_neg e]; exact h.st y y1 y2
  · have := runs_set_len (s := if b then 3 else 2) hs (by cases b <;> decide)
    have := h.cnt
    omega
theorem onc_no {S : List Nat} {f : Nat → Option Bool} {k c x : Nat} (h : Onc S f k c) (h1 : 1 ≤ x) (h2 : x ≤ k) {b' : Bool} (hf : f x = some b') (s : Nat) :
    endE 1 S x = 15 ∧ endL 1 S x s = S := by
  have hs := h.st x h1 h2
  rw [hf] at hs
  have hs : stt 1 S x ≠ 1 := by rw [hs]; cases b' <;> decide
  unfold endE endL
  rw [if_neg hs, if_neg hs]
  exact ⟨rfl, rfl⟩
/-- What stands between the rounds. -/
structure St (w wr : World) (g k m n : Nat) (S : List Nat) (F : Nat → Prop) (f : Nat → Option Bool) (c : Nat) : Prop where
  log : LG wr g 1 S F
  mine : Mine w.heap.size w wr F
  map : MU EB wr m f c n
  m0 : w.heap.size ≤ m
  nF : ¬ F m
  onc : Onc S f k c
set_option maxRecDepth 100000 in
set_option maxHeartbeats 1000000 in
theorem walk (a : Nat) (A : Option Addr) (cc : Nat) (l : List By) (w : World) (ha : a < 256) (r0 : Rd w 1 A l.length (l.flatMap By.e)) (n0 : l.length ≤ cc) (m0 : cc ≤ 9223372036854775807) :
    Calls Try.prog 4 #[.int .u8 (a : Int), .slice A l.length cc] w fun e w' => e = .returned (.bool true) ∧ Below w.heap.size w w' := by
  obtain ⟨q, hq⟩ : ∃ q, q = a % 40 := ⟨_, rfl⟩
  have hq0 : q < 40 := by omega
  have e1 : ((a : Int)).tmod 40 = (q : Int) := by rw [hq, Int.tmod_eq_emod_of_nonneg (by omega)]; omega
  have hmm := @run_makeMap Try.prog
  clear hq
  go_enter Try.func4, Try.ntmps4
  go_wp2_with fail
  refine (awake9_any w).mono ?_
  rintro e w1 ⟨rfl, hb1⟩
  go_wp2_with fail
  refine (lg_new w1 1 (by decide) (by decide)).mono ?_
  rintro e w2 ⟨rfl, h2, hb2⟩
  have m2 : Mine w.heap.size w w2 (fun k => k = w1.heap.size) := ⟨fun k hk => by have := hb1.size; omega, hb1.trans (hb2.mono hb1.size), Nat.le_trans hb1.size hb2.size⟩
  clear hb1 hb2
  generalize w1.heap.size = g at *
  have H2 := Lib.hid h2
  clear h2
  go_wp2
  go_loopw [25] (fun iv wr => ∃ (j : Nat) (F : Nat → Prop), j ≤ 1 + q ∧ iv = .int .u64 (j : Int) ∧ LG wr g 1 (List.replicate j 1) F ∧ Mine w.heap.size w wr F) (fun iv _ => 1 + q - (intOf iv).toNat)
  case atStart => exact ⟨0, _, by omega, rfl, H2.out, m2⟩
  case round =>
    obtain ⟨j, F, hj, rfl, hL, hM⟩ := hrel
    by_cases hlt : j < 1 + q
    · have hB := lg_begin wr g 1 _ _ hL
      have hbl : begL 1 (List.replicate j 1) = List.replicate (j + 1) 1 := by unfold begL; rw [List.length_replicate, if_pos (by omega), ← List.replicate_succ']
      rw [hbl] at hB
      have HB := Lib.hid hB
      clear hB hL hbl
      go_wp2_with (go_at_call 18; (with_reducible refine (HB.out).mono ?_); rintro e w3 ⟨he3, F3, h3, c3⟩; rw [begR, List.length_replicate, if_pos (by omega)] at he3; subst he3; have m3 := hM.chg c3; clear c3)
      go_roundw
      case rel => exact ⟨j + 1, F3, by omega, by go_num, h3, m3⟩
      case measure => simp [intOf]; omega
    · have hjq : j = 1 + q := by omega
      rw [hjq] at hL
      clear hjq
      have S0 : St w (wr.alloc (.map #[] 0)) g (1 + q) wr.heap.size 0 (List.replicate (1 + q) 1) F (fun _ => none) 0 :=
        ⟨hL.alloc _, hM.alloc _, mu_made EB wr, hM.size, fun hh => by have := hL.lt hh; omega, ⟨by simp, fun x x1 x2 => by rw [stt_ones, if_pos (by omega)], by rw [runs_ones]; rfl⟩⟩
      clear hL hM H2 m2
      go_wp2
      generalize wr.heap.size = m at *
      go_loopw [33] (fun iv wr => ∃ (i n : Nat) (S : List Nat) (F : Nat → Prop) (f : Nat → Option Bool) (c : Nat), i ≤ l.length ∧ i ≤ 80 ∧ n ≤ i ∧ iv = .int .i64 (i : Int) ∧ St w wr g (1 + q) m n S F f c) (fun iv _ => l.length - (intOf iv).toNat)
      case atStart => exact ⟨0, 0, _, _, _, _, Nat.zero_le _, by omega, by omega, rfl, S0⟩
      case round =>
        obtain ⟨i, n, S, F, f, c, hi, hi8, hn, rfl, hS⟩ := hrel
        by_cases hend : i < l.length ∧ i < 80
        · obtain ⟨hlt2, h80⟩ := hend
          obtain ⟨ad, rfl, hcell⟩ := by_at (Rd.below r0 (hS.mine.below.mono (Nat.le_refl _))) hlt2
          have ix := idx_by ad l.length cc i hlt2
          have hb := l[i].lt
          generalize l[i].n = b at *
          obtain ⟨x, hx⟩ : ∃ x, x = 1 + b / 2 % (1 + q) := ⟨_, rfl⟩
          have hx1 : 1 ≤ x ∧ x ≤ 1 + q := ⟨by omega, by have := Nat.mod_lt (b / 2) (show 0 < 1 + q by omega); omega⟩
          have ex : IntKind.u64.wrap (1 + (b : Int) / 2 % (1 + (q : Int))) = (x : Int) := by
            rw [show 1 + (b : Int) / 2 % (1 + (q : Int)) = (x : Int) by rw [hx]; push_cast; rfl]
            exact IntWalk.u64_in _ (by omega)
          have HX := Lib.hid hx
          have hxi : 1 ≤ (x : Int) ∧ (x : Int) ≤ 1 + (q : Int) := by omega
          clear hx r0 S0
          cases hbit : (bits BinOp.and IntKind.u8 (b : Int) 1 == 1) <;> rcases hf : f x with _ | b'
          · -- Commit, not there
            obtain ⟨hE, hO⟩ := onc_yes hS.onc hx1.1 hx1.2 hf false
            have hC := lg_commit wr g 1 x S F hS.log (by omega)
            rw [hE] at hC
            have HC := Lib.hid hC
            have HO := Lib.hid hO
            have HF := Lib.hid hf
            have hgx : (f x).elim EB.zv EB.V = .int .i64 0 := by rw [hf]; rfl
            clear hE hO hC hf
            go_wp2_with fail
            refine (HC.out).mono ?_
            rintro e w3 ⟨rfl, F3, h3, c3⟩
            have m3 := hS.mine.chg c3
            have u3 := hS.map.fr c3.fr hS.nF
            have nF3 : ¬ F3 m := fun hh => (c3.new m hh).elim hS.nF fun hh => by have := hS.map.lt; omega
            have hget := u3.get Try.underlying50 (x := x) (by omega)
            rw [hgx] at hget
            have hm0 := hS.m0
            clear c3 hS hcell hgx
            go_wp2_with (first
              | (at_mapUpdate; refine wpList_mu_put EB _ rfl _ _ _ 50 rfl Try.underlying50 m c n f rfl u3 (by omega) x (by omega) false rfl rfl ?_; intro w4 u4' f4)
              | go_in)
            have u4 : MU EB w4 m (upd f x (some false)) (c + 1) (n + 1) := by have := u4'; rw [HF.out] at this; exact this
            have h4 := h3.fr f4 (fun k hk e => nF3 (e ▸ hk))
            have m4 : Mine w.heap.size w w4 F3 := ⟨m3.above, m3.below.trans (f4.below (fun k e => by omega) m3.size), Nat.le_trans m3.size f4.size⟩
            have hst := HO.out.st x hx1.1 hx1.2
            rw [show upd f x (some false) x = some false from if_pos rfl] at hst
            have hst : stt 1 (endL 1 S x 2) x = 2 := hst
            have HG : ∀ W : World, MU EB W m (upd f x (some false)) (c + 1) (n + 1) → (Instr.lookup 50 (.map (some m)) (.int .u64 (x : Int)) false).run Try.prog W = .ok (.int .i64 2) W := fun W h => by
              have := h.get Try.underlying50 (x := x) (by omega)
              rw [show upd f x (some false) x = some false from if_pos rfl] at this
              exact this
            have HS : ∀ W : World, LG W g 1 (endL 1 S x 2) F3 → Calls Try.prog 20 #[.pointer (some ⟨g, 0, none⟩), .int .u64 (x : Int)] W fun e w' => e = .returned (.int .i64 2) ∧ ∃ n, w' = W.drewN n := fun W h => by
              have := lg_state W g 1 x _ _ h
              rw [hst] at this
              exact this
            have S4 : ∀ nq, St w (w4.drewN nq) g (1 + q) m (n + 1) (endL 1 S x 2) F3 (upd f x (some false)) (c + 1) := fun nq => ⟨h4.drewN nq, m4.drewN nq, u4.below (below_n _ _), hm0, nF3, HO.out⟩
            have SS := Lib.hid S4
            have hq1 := fun nq => HG (w4.drewN nq) (S4 nq).map
            have hq2 := Lib.hid fun nq => HS (w4.drewN nq) (S4 nq).log
            clear S4 HG HS h4 m4 u4 u4' f4 h3 m3 u3 hst hget
            go_wp2_with fail
            go_quiet ((go_at_call 20; exact Calls.quiet_of (hq2.out _)))
            go_wp2
            go_roundw
            case rel => exact ⟨i + 1, _, _, _, _, _, by omega, by omega, by omega, by go_num, SS.out _⟩
            case measure => simp [intOf]; omega
          · -- Commit, there
            obtain ⟨hE, hL⟩ := onc_no hS.onc hx1.1 hx1.2 hf 2
            have hC := lg_commit wr g 1 x S F hS.log (by omega)
            rw [hE, hL] at hC
            have HC := Lib.hid hC
            have hgx : (f x).elim EB.zv EB.V = .int .i64 (nB b') := by rw [hf]; rfl
            have hnz : (nB b' == 0) = false := by cases b' <;> rfl
            have hst := hS.onc.st x hx1.1 hx1.2
            rw [hf] at hst
            have hst : stt 1 S x = (nB b').toNat := by rw [hst]; cases b' <;> rfl
            have hnb : ((nB b').toNat : Int) = nB b' := by cases b' <;> rfl
            clear hE hL hC hf
            go_wp2_with fail
            refine (HC.out).mono ?_
            rintro e w4 ⟨rfl, F3, h3, c3⟩
            have m3 := hS.mine.chg c3
            have u3 := hS.map.fr c3.fr hS.nF
            have nF3 : ¬ F3 m := fun hh => (c3.new m hh).elim hS.nF fun hh => by have := hS.map.lt; omega
            have S4 : ∀ nq, St w (w4.drewN nq) g (1 + q) m n S F3 f c := fun nq => ⟨h3.drewN nq, m3.drewN nq, u3.below (below_n _ _), hS.m0, nF3, hS.onc⟩
            have hget := u3.get Try.underlying50 (x := x) (by omega)
            rw [hgx] at hget
            have HG : ∀ W : World, MU EB W m f c n → (Instr.lookup 50 (.map (some m)) (.int .u64 (x : Int)) false).run Try.prog W = .ok (.int .i64 (nB b')) W := fun W h => by
              have := h.get Try.underlying50 (x := x) (by omega)
              rw [hgx] at this
              exact this
            have HS : ∀ W : World, LG W g 1 S F3 → Calls Try.prog 20 #[.pointer (some ⟨g, 0, none⟩), .int .u64 (x : Int)] W fun e w' => e = .returned (.int .i64 (nB b')) ∧ ∃ n, w' = W.drewN n := fun W h => by
              have := lg_state W g 1 x _ _ h
              rw [hst, hnb] at this
              exact this
            have SS := Lib.hid S4
            have hq1 := fun nq => HG (w4.drewN nq) (S4 nq).map
            have hq2 := Lib.hid fun nq => HS (w4.drewN nq) (S4 nq).log
            clear S4 HG HS h3 m3 u3 hst hgx hnb c3 hS hcell
            generalize nB b' = z at *
            go_wp2_with fail
            go_quiet ((go_at_call 20; exact Calls.quiet_of (hq2.out _)))
            go_wp2
            go_roundw
            case rel => exact ⟨i + 1, _, _, _, _, _, by omega, by omega, by omega, by go_num, SS.out _⟩
            case measure => simp [intOf]; omega
          · -- Abort, not there
            obtain ⟨hE, hO⟩ := onc_yes hS.onc hx1.1 hx1.2 hf true
            have hC := lg_abort wr g 1 x S F hS.log (by omega)
            rw [hE] at hC
            have HC := Lib.hid hC
            have HO := Lib.hid hO
            have HF := Lib.hid hf
            have hgx : (f x).elim EB.zv EB.V = .int .i64 0 := by rw [hf]; rfl
            clear hE hO hC hf
            go_wp2_with fail
            refine (HC.out).mono ?_
            rintro e w3 ⟨rfl, F3, h3, c3⟩
            have m3 := hS.mine.chg c3
            have u3 := hS.map.fr c3.fr hS.nF
            have nF3 : ¬ F3 m := fun hh => (c3.new m hh).elim hS.nF fun hh => by have := hS.map.lt; omega
            have hget := u3.get Try.underlying50 (x := x) (by omega)
            rw [hgx] at hget
            have hm0 := hS.m0
            clear c3 hS hcell hgx
            go_wp2_with (first
              | (at_mapUpdate; refine wpList_mu_put EB _ rfl _ _ _ 50 rfl Try.underlying50 m c n f rfl u3 (by omega) x (by omega) true rfl rfl ?_; intro w4 u4' f4)
              | go_in)
            have u4 : MU EB w4 m (upd f x (some true)) (c + 1) (n + 1) := by have := u4'; rw [HF.out] at this; exact this
            have h4 := h3.fr f4 (fun k hk e => nF3 (e ▸ hk))
            have m4 : Mine w.heap.size w w4 F3 := ⟨m3.above, m3.below.trans (f4.below (fun k e => by omega) m3.size), Nat.le_trans m3.size f4.size⟩
            have hst := HO.out.st x hx1.1 hx1.2
            rw [show upd f x (some true) x = some true from if_pos rfl] at hst
            have hst : stt 1 (endL 1 S x 3) x = 3 := hst
            have HG : ∀ W : World, MU EB W m (upd f x (some true)) (c + 1) (n + 1) → (Instr.lookup 50 (.map (some m)) (.int .u64 (x : Int)) false).run Try.prog W = .ok (.int .i64 3) W := fun W h => by
              have := h.get Try.underlying50 (x := x) (by omega)
              rw [show upd f x (some true) x = some true from if_pos rfl] at this
              exact this
            have HS : ∀ W : World, LG W g 1 (endL 1 S x 3) F3 → Calls Try.prog 20 #[.pointer (some ⟨g, 0, none⟩), .int .u64 (x : Int)] W fun e w' => e = .returned (.int .i64 3) ∧ ∃ n, w' = W.drewN n := fun W h => by
              have := lg_state W g 1 x _ _ h
              rw [hst] at this
              exact this
            have S4 : ∀ nq, St w (w4.drewN nq) g (1 + q) m (n + 1) (endL 1 S x 3) F3 (upd f x (some true)) (c + 1) := fun nq => ⟨h4.drewN nq, m4.drewN nq, u4.below (below_n _ _), hm0, nF3, HO.out⟩
            have SS := Lib.hid S4
            have hq1 := fun nq => HG (w4.drewN nq) (S4 nq).map
            have hq2 := Lib.hid fun nq => HS (w4.drewN nq) (S4 nq).log
            clear S4 HG HS h4 m4 u4 u4' f4 h3 m3 u3 hst hget
            go_wp2_with fail
            go_quiet ((go_at_call 20; exact Calls.quiet_of (hq2.out _)))
            go_wp2
            go_roundw
            case rel => exact ⟨i + 1, _, _, _, _, _, by omega, by omega, by omega, by go_num, SS.out _⟩
            case measure => simp [intOf]; omega
          · -- Abort, there
            obtain ⟨hE, hL⟩ := onc_no hS.onc hx1.1 hx1.2 hf 3
            have hC := lg_abort wr g 1 x S F hS.log (by omega)
            rw [hE, hL] at hC
            have HC := Lib.hid hC
            have hgx : (f x).elim EB.zv EB.V = .int .i64 (nB b') := by rw [hf]; rfl
            have hnz : (nB b' == 0) = false := by cases b' <;> rfl
            have hst := hS.onc.st x hx1.1 hx1.2
            rw [hf] at hst
            have hst : stt 1 S x = (nB b').toNat := by rw [hst]; cases b' <;> rfl
            have hnb : ((nB b').toNat : Int) = nB b' := by cases b' <;> rfl
            clear hE hL hC hf
            go_wp2_with fail
            refine (HC.out).mono ?_
            rintro e w4 ⟨rfl, F3, h3, c3⟩
            have m3 := hS.mine.chg c3
            have u3 := hS.map.fr c3.fr hS.nF
            have nF3 : ¬ F3 m := fun hh => (c3.new m hh).elim hS.nF fun hh => by have := hS.map.lt; omega
            have S4 : ∀ nq, St w (w4.drewN nq) g (1 + q) m n S F3 f c := fun nq => ⟨h3.drewN nq, m3.drewN nq, u3.below (below_n _ _), hS.m0, nF3, hS.onc⟩
            have hget := u3.get Try.underlying50 (x := x) (by omega)
            rw [hgx] at hget
            have HG : ∀ W : World, MU EB W m f c n → (Instr.lookup 50 (.map (some m)) (.int .u64 (x : Int)) false).run Try.prog W = .ok (.int .i64 (nB b')) W := fun W h => by
              have := h.get Try.underlying50 (x := x) (by omega)
              rw [hgx] at this
              exact this
            have HS : ∀ W : World, LG W g 1 S F3 → Calls Try.prog 20 #[.pointer (some ⟨g, 0, none⟩), .int .u64 (x : Int)] W fun e w' => e = .returned (.int .i64 (nB b')) ∧ ∃ n, w' = W.drewN n := fun W h => by
              have := lg_state W g 1 x _ _ h
              rw [hst, hnb] at this
              exact this
            have SS := Lib.hid S4
            have hq1 := fun nq => HG (w4.drewN nq) (S4 nq).map
            have hq2 := Lib.hid fun nq => HS (w4.drewN nq) (S4 nq).log
            clear S4 HG HS h3 m3 u3 hst hgx hnb c3 hS hcell
            generalize nB b' = z at *
            go_wp2_with fail
            go_quiet ((go_at_call 20; exact Calls.quiet_of (hq2.out _)))
            go_wp2
            go_roundw
            case rel => exact ⟨i + 1, _, _, _, _, _, by omega, by omega, by omega, by go_num, SS.out _⟩
            case measure => simp [intOf]; omega
        · have hsz := hS.onc.cnt
          have hl1 := hS.onc.len
          have hl2 := runs_length 1 S
          have HA := Lib.hid (lg_all wr g 1 _ _ hS.log)
          have HM := Lib.hid hS
          have hwr : IntKind.u64.wrap (1 + (q : Int) - (c : Int)) = ((runs 1 S).length : Int) := by
            rw [show 1 + (q : Int) - (c : Int) = ((runs 1 S).length : Int) by omega]
            exact IntWalk.u64_in _ (by omega)
          have hrl : (runs 1 S).length ≤ 40 := by omega
          have hc : c ≤ 40 := by omega
          generalize (runs 1 S).length = r at *
          rcases (show i = l.length ∨ (i < l.length ∧ i = 80) by omega) with hil | ⟨hlt2, hil⟩
          · subst hil
            clear r0 S0 hS hsz hl1 hl2
            go_wp2_with (first
              | (go_at_call 25; (with_reducible refine (HA.out).mono ?_); rintro e w4 ⟨v4, rfl, o4, b4⟩; have m4 := HM.out.mine.next b4; have hlen := fun ty => (HM.out.map.below b4).len Try.underlying50 ty; obtain ⟨A4, c4, rfl, _, _, _⟩ := own_form o4; clear b4 o4)
              | go_in)
            go_ret
            exact ⟨by simp, m4.below⟩
          · obtain ⟨ad, rfl, hcell⟩ := by_at (Rd.below r0 (hS.mine.below.mono (Nat.le_refl _))) hlt2
            have ix := idx_by ad l.length cc i hlt2
            generalize l[i].n = b at *
            have h80 : ¬ i < 80 := by omega
            clear r0 S0 hS hsz hl1 hl2 hil hi8
            go_wp2_with (first
              | (go_at_call 25; (with_reducible refine (HA.out).mono ?_); rintro e w4 ⟨v4, rfl, o4, b4⟩; have m4 := HM.out.mine.next b4; have hlen := fun ty => (HM.out.map.below b4).len Try.underlying50 ty; obtain ⟨A4, c4, rfl, _, _, _⟩ := own_form o4; clear b4 o4)
              | go_in)
            go_ret
            exact ⟨by simp, m4.below⟩
end Go.Proofs.Ytjkjomooklhdbaa.clogOnce
