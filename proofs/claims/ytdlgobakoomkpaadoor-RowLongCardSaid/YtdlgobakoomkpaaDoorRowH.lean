/-
  Package row: Read.
-/
import Derived.Test.YtdlgobakoomkpaaDoorRowG
import Derived.Test.YtdlgobakoomkpaaDoorKeyRead
import Derived.OwnWalk
namespace Go.Proofs.YtdlgobakoomkpaaDoor
open Go.RowKit

/-- A row of values as they are made: none of them is anything. -/
def nuls (n : Nat) : List Val := List.replicate n nulv
theorem nuls_next (acc : List Val) (n : Nat) : acc ++ nuls (n + 1) = (acc ++ [nulv]) ++ nuls n := by
  unfold nuls; rw [List.replicate_succ]; simp
theorem set_next (acc : List Val) (n : Nat) (v : Val) {k : Nat} (hk : acc.length = k) : (acc ++ nuls (n + 1)).set k v = (acc ++ [v]) ++ nuls n := by
  subst hk
  unfold nuls; rw [List.replicate_succ]; simp
theorem vcells_cons (a : Val) (l : List Val) : vcells (a :: l) = .int .u8 a.k :: .int .i64 a.i :: .string a.s :: .bool a.b :: vcells l := rfl
theorem vcells_set (v : Val) : ∀ (l : List Val) (k : Nat), k < l.length → ((((vcells l).set (k * 4) (.int .u8 v.k)).set (k * 4 + 1) (.int .i64 v.i)).set (k * 4 + 2) (.string v.s)).set (k * 4 + 3) (.bool v.b) = vcells (l.set k v)
  | [], k, h => by simp at h
  | a :: l, 0, _ => rfl
  | a :: l, k + 1, h => by
    have ih := vcells_set v l k (by simpa using h)
    have e : ∀ j, (k + 1) * 4 + j = (k * 4 + j) + 1 + 1 + 1 + 1 := fun j => by omega
    have e0 : (k + 1) * 4 = (k * 4) + 1 + 1 + 1 + 1 := by omega
    rw [List.set_cons_succ, vcells_cons, vcells_cons, e, e, e, e0]
    simp only [List.set_cons_succ]
    rw [ih]
theorem made_nuls (z : Value) (hz : z.cells = #[.int .u8 0, .int .i64 0, .string ⟨#[]⟩, .bool false]) (n : Nat) : (madeCells z.cells (n * 4)).toList = vcells (nuls n) := by
  rw [hz]
  apply List.ext_getElem?
  intro j
  by_cases hj : j < n * 4
  · obtain ⟨q, r, hq, hr⟩ : ∃ q r, j = q * 4 + r ∧ r < 4 := ⟨j / 4, j % 4, by omega, by omega⟩
    subst hq
    have hqn : q < n := by omega
    rw [vcells_at _ q (by unfold nuls; simpa using hqn) r hr]
    have e : (nuls n)[q]'(by unfold nuls; simpa using hqn) = nulv := by unfold nuls; simp
    rw [e]
    have hm : (madeCells #[.int .u8 0, .int .i64 0, .string ⟨#[]⟩, .bool false] (n * 4)).toList[q * 4 + r]? = some ((#[.int .u8 0, .int .i64 0, .string ⟨#[]⟩, .bool false] : Array Value)[(q * 4 + r) % 4]!) := by
      unfold madeCells
      rw [Array.getElem?_toList, Array.getElem?_map, Array.getElem?_range, if_pos hj]
      rfl
    have h4 : (q * 4 + r) % 4 = r := by omega
    rw [hm, h4]
    have : r = 0 ∨ r = 1 ∨ r = 2 ∨ r = 3 := by omega
    rcases this with rfl | rfl | rfl | rfl <;> rfl
  · rw [List.getElem?_eq_none (by simp [madeCells]; omega), List.getElem?_eq_none (by rw [vcells_length]; unfold nuls; simp; omega)]
theorem vls_shape {w : World} {base : Nat} {g n cap : Nat} {l : List Val} (h : Vls w base (.slice (some ⟨g, 0, none⟩) n cap) l) (hn : l.length = n) : w.ownsRow base 43 4 (.slice (some ⟨g, 0, none⟩) n cap) n (vcells l) := by
  subst hn; exact h
theorem own_four {w : World} {base g n cap : Nat} {l : List Val} (h : w.ownsRow base 43 4 (.slice (some ⟨g, 0, none⟩) n cap) n (vcells l)) {k : Nat} (hk : k < l.length) (hn : l.length = n) :
    (w.cell? ⟨g, k * 4, none⟩ = some (.int .u8 l[k].k) ∧ w.cell? ⟨g, k * 4 + 1, none⟩ = some (.int .i64 l[k].i) ∧ w.cell? ⟨g, k * 4 + 2, none⟩ = some (.string l[k].s) ∧ w.cell? ⟨g, k * 4 + 3, none⟩ = some (.bool l[k].b)) ∧
      w.frozen? ⟨g, k * 4, none⟩ = false ∧ w.frozen? ⟨g, k * 4 + 1, none⟩ = false ∧ w.frozen? ⟨g, k * 4 + 2, none⟩ = false ∧ w.frozen? ⟨g, k * 4 + 3, none⟩ = false :=
  ⟨⟨(h.cellAt (k * 4) (by omega)).trans (by have := vcells_at l k hk 0 (by decide); rw [Nat.add_zero] at this; rw [this]; rfl), (h.cellAt (k * 4 + 1) (by omega)).trans (by rw [vcells_at l k hk 1 (by decide)]; rfl), (h.cellAt (k * 4 + 2) (by omega)).trans (by rw [vcells_at l k hk 2 (by decide)]; rfl), (h.cellAt (k * 4 + 3) (by omega)).trans (by rw [vcells_at l k hk 3 (by decide)]; rfl)⟩,
    h.frozenAt _, h.frozenAt _, h.frozenAt _, h.frozenAt _⟩
theorem own_set4 {w : World} {base g n cap : Nat} {l : List Val} (h : w.ownsRow base 43 4 (.slice (some ⟨g, 0, none⟩) n cap) n (vcells l)) {k : Nat} (hk : k < l.length) (v : Val) :
    ((((w.setCell ⟨g, k * 4, none⟩ (.int .u8 v.k)).setCell ⟨g, k * 4 + 1, none⟩ (.int .i64 v.i)).setCell ⟨g, k * 4 + 2, none⟩ (.string v.s)).setCell ⟨g, k * 4 + 3, none⟩ (.bool v.b)).ownsRow base 43 4 (.slice (some ⟨g, 0, none⟩) n cap) n (vcells (l.set k v)) := by
  rw [← vcells_set v l k hk]
  exact ((((h.stored (k * 4) _).1.stored (k * 4 + 1) _).1.stored (k * 4 + 2) _).1.stored (k * 4 + 3) _).1
theorem below_set4 {B g : Nat} {a w : World} (h : Below B a w) (hg : B ≤ g) (j : Nat) (u0 u1 u2 u3 : Value) :
    Below B a ((((w.setCell ⟨g, j, none⟩ u0).setCell ⟨g, j + 1, none⟩ u1).setCell ⟨g, j + 2, none⟩ u2).setCell ⟨g, j + 3, none⟩ u3) :=
  (((h.setCell (p := ⟨g, j, none⟩) hg u0).setCell (p := ⟨g, j + 1, none⟩) hg u1).setCell (p := ⟨g, j + 2, none⟩) hg u2).setCell (p := ⟨g, j + 3, none⟩) hg u3
theorem idx_own (g n c k : Nat) (h : k < n) (W : World) : (Instr.indexAt 22 (.slice (some ⟨g, 0, none⟩) n c) (.int .i64 (k : Int))).run Tryd.prog W = .ok (.pointer (some ⟨g, k * 4, none⟩)) W := by
  rw [idx_val _ _ _ _ h, Addr.add_lit, Nat.zero_add]
theorem and_bit {b k : Nat} (hb : b < 256) : bits .and .u8 ((b : Int) / 2 ^ k) 1 = ((b / 2 ^ k % 2 : Nat) : Int) := by
  have e : ((b : Int) / 2 ^ k) = ((b / 2 ^ k : Nat) : Int) := by push_cast; rfl
  have h1 : b / 2 ^ k < 256 := Nat.lt_of_le_of_lt (Nat.div_le_self _ _) hb
  rw [e]
  generalize b / 2 ^ k = q at *
  rw [show (1 : Int) = ((1 : Nat) : Int) from rfl, u8_and_nat _ _ h1 (by decide), Nat.and_one_is_mod]
theorem rrE_eq {ks p : List UInt8} (h : kok ks = true) : rrE ks p = if (rrB ks p).isSome = true then 0 else 3 := if_pos h
theorem rrL_eq {ks p : List UInt8} (h : kok ks = true) : rrL ks p = (rrB ks p).getD [] := if_pos h
theorem rr_no {ks p : List UInt8} (h : kok ks = true) (hn : rrB ks p = none) : rrE ks p = 3 ∧ rrL ks p = [] := by
  rw [rrE_eq h, rrL_eq h, hn]; exact ⟨rfl, rfl⟩
theorem rr_yes {ks p : List UInt8} {l : List Val} (h : kok ks = true) (hn : rrB ks p = some l) : rrE ks p = 0 ∧ rrL ks p = l := by
  rw [rrE_eq h, rrL_eq h, hn]; exact ⟨rfl, rfl⟩
theorem div_bit (b k : Nat) : b / 2 ^ k / 2 = b / 2 ^ (k + 1) := by rw [Nat.div_div_eq_div_mul, Nat.pow_succ]

set_option maxRecDepth 100000 in
set_option maxHeartbeats 4000000 in
theorem rowread_any (K A : Option Addr) (kc c : Nat) (ks p : List UInt8) (w : World) (hk : Brd w K ks) (hkl : ks.length ≤ 9223372036854775807) (ha : Brd w A p) (hc : p.length ≤ c) (hm : c ≤ 9223372036854775807) (hE : Env w) :
    Calls Tryd.prog 36 #[.slice K ks.length kc, .slice A p.length c] w fun e w' => ∃ v', e = .returned (.tuple #[v', .int .i64 (rrE ks p)]) ∧ Vls w' w.heap.size v' (rrL ks p) ∧ Below w.heap.size w w' := by
  obtain ⟨i4, hi4, hv0, hv1, hv2⟩ := info_parts info_val
  have gk := rowright_any K kc ks w hk hkl
  cases hK : kok ks with
  | false =>
    rw [hK] at gk
    have e1 : rrE ks p = 1 := by unfold rrE; rw [hK]; rfl
    have e2 : rrL ks p = [] := by unfold rrL; rw [hK]; rfl
    rw [e1, e2]
    have GK := Lib.hid gk
    clear gk hK hE hk ha e1 e2
    go_enter Tryd.func36, Tryd.ntmps36
    go_wp2_with (go_at_call 49; (with_reducible refine (GK.out).mono ?_); rintro e w1 ⟨rfl, hw1⟩; have hw := hw1.symm; subst hw)
    go_ret2
    exact ⟨.slice none 0 0, rfl, vls_nil _ _, Below.refl _ _⟩
  | true =>
    rw [hK] at gk
    have GK := Lib.hid gk
    have hk8 := (kok_parts hK).2.1
    clear gk
    cases p with
    | nil =>
      have e := rr_no hK (show rrB ks [] = none from rfl)
      rw [e.1, e.2]
      clear hK hE hk ha e
      go_enter Tryd.func36, Tryd.ntmps36
      go_wp2_with (go_at_call 49; (with_reducible refine (GK.out).mono ?_); rintro e w1 ⟨rfl, hw1⟩; have hw := hw1.symm; subst hw)
      go_ret2
      exact ⟨.slice none 0 0, rfl, vls_nil _ _, Below.refl _ _⟩
    | cons b t =>
      rw [List.length_cons] at hc ⊢
      by_cases h200 : 199 < t.length
      · have e := rr_no hK (show rrB ks (b :: t) = none from if_pos h200)
        rw [e.1, e.2]
        clear hK hE hk ha e
        go_enter Tryd.func36, Tryd.ntmps36
        go_wp2_with (go_at_call 49; (with_reducible refine (GK.out).mono ?_); rintro e w1 ⟨rfl, hw1⟩; have hw := hw1.symm; subst hw)
        go_ret2
        exact ⟨.slice none 0 0, rfl, vls_nil _ _, Below.refl _ _⟩
      · obtain ⟨ad, rfl, h0, h0o⟩ := at0 ha
        have hbl := b.toNat_lt
        have hrb : rrB ks (b :: t) = rrd ks b.toNat t := if_neg h200
        by_cases hbig : 2 ^ ks.length ≤ b.toNat
        · have e := rr_no hK (hrb.trans (rrd_big _ _ _ hbig))
          rw [e.1, e.2]
          have hq : ((b.toNat : Int) / 2 ^ ks.length != 0) = true := by
            have h1 : 1 ≤ b.toNat / 2 ^ ks.length := (Nat.one_le_div_iff (Nat.two_pow_pos _)).2 hbig
            have h2 : ((b.toNat : Int) / 2 ^ ks.length) = ((b.toNat / 2 ^ ks.length : Nat) : Int) := by push_cast; rfl
            rw [h2]; simp; omega
          generalize b.toNat = bn at *
          clear hK hE hk ha e hrb hbig h0o
          go_enter Tryd.func36, Tryd.ntmps36
          go_wp2_with (go_at_call 49; (with_reducible refine (GK.out).mono ?_); rintro e w1 ⟨rfl, hw1⟩; have hw := hw1.symm; subst hw)
          go_ret2
          exact ⟨.slice none 0 0, rfl, vls_nil _ _, Below.refl _ _⟩
        · have hq : ((b.toNat : Int) / 2 ^ ks.length != 0) = false := by
            have h1 : b.toNat / 2 ^ ks.length = 0 := Nat.div_eq_of_lt (by omega)
            have h2 : ((b.toNat : Int) / 2 ^ ks.length) = ((b.toNat / 2 ^ ks.length : Nat) : Int) := by push_cast; rfl
            rw [h2, h1]; rfl
          obtain ⟨A0, hcut0, hB00⟩ := cut_bytes (some ad) t.length c 1 hc
          have hB0 : Brd w A0 t := hB00 w _ ha rfl
          have hcut : ∀ W, (Instr.slice 24 (.slice (some ad) (t.length + 1) c) (some (.int .i64 1)) none none).run Tryd.prog W = .ok (.slice A0 t.length (c - 1)) W := hcut0
          have hyes := fun l h => rr_yes (l := l) hK (hrb.trans h)
          have hno := fun h => rr_no hK (hrb.trans h)
          have hlt0 : b.toNat < 2 ^ ks.length := by omega
          have hg1' : ((t.length : Int) + 1 == 0) = false := by simp; omega
          have hg2' : decide (200 < (t.length : Int) + 1) = false := decide_eq_false (by omega)
          have hand := fun k => and_bit (k := k) hbl
          generalize b.toNat = bn at *
          clear hcut0 hB00 ha hrb hbig
          go_enter Tryd.func36, Tryd.ntmps36
          go_wp2_with (first
            | (go_at_call 49; (with_reducible refine (GK.out).mono ?_); rintro e w1 ⟨rfl, hw1⟩; have hw := hw1.symm; subst hw)
            | (at_make; refine wpList_make_full _ rfl (.tmp 33) (.tmp 33) 22 rfl w.heap.size 43 _ _ 4 Tryd.underlying22 hi4 hv0 hv1 _ _ _ _ ks.length rfl rfl rfl rfl (by rw [hv2]; omega) (by unfold maxLen; omega) (Nat.le_refl _) ?_; intro w1 ho1 hg1))
          have hb1 : Below w.heap.size w w1 := (Below.refl _ _).grown hg1 (Nat.le_refl _) (fun k hk => by cases hk)
          have hka := (kok_parts hK).2.2
          rw [made_nuls _ rfl] at ho1
          clear hg1 hcut hK
          go_loopw [7, 39] (fun tv iv wr => ∃ (k : Nat) (A' : Option Addr) (c' : Nat) (q : List UInt8) (acc : List Val), k ≤ ks.length ∧ iv = .int .i64 k ∧ tv = .slice A' q.length c' ∧ q.length ≤ c' ∧ c' ≤ c ∧ Brd w A' q ∧ Vls wr w.heap.size (.slice (some ⟨w.heap.size, 0, none⟩) ks.length ks.length) (acc ++ nuls (ks.length - k)) ∧ acc.length = k ∧ rrd ks bn t = (rrd (ks.drop k) (bn / 2 ^ k) q).map (acc ++ ·) ∧ q.length ≤ 199 ∧ Below w.heap.size w wr) (fun _ iv _ => ks.length - (intOf iv).toNat)
          case atStart => exact ⟨0, A0, c - 1, t, [], Nat.zero_le _, rfl, rfl, by omega, by omega, hB0, vls_of ho1 (by simp), rfl, by simp, by omega, hb1⟩
          case round =>
            obtain ⟨k, A', c', q, acc, hkk, rfl, rfl, hq1, hcc, hB, hV, hal, hrd, hq199, hb⟩ := hrel
            have hz := hb.size
            have hp0 : wr.cell? ad = some (.int .u8 (bn : Int)) := (hb.cell (World.block_lt_of_cell? w ad h0)).trans h0
            by_cases hlt : k < ks.length
            · obtain ⟨ak, rfl, hcell⟩ := (hk.below hb).at_ hlt
              have hkin : kin (ks[k]'hlt) = true := List.all_eq_true.1 hka _ (List.getElem_mem hlt)
              have hd : ks.drop k = ks[k]'hlt :: ks.drop (k + 1) := List.drop_eq_getElem_cons hlt
              rw [hd] at hrd
              have hrem : ks.length - k = (ks.length - (k + 1)) + 1 := by omega
              rw [hrem] at hV
              have hdiv := div_bit bn k
              have hAND := hand k
              have hix := idx_own w.heap.size ks.length ks.length k hlt
              generalize ks[k]'hlt = kd at *
              by_cases hbit : bn / 2 ^ k % 2 = 1
              · rw [rrd_nul hbit, hdiv] at hrd
                rw [nuls_next] at hV
                rw [hbit] at hAND
                have HRD := Lib.hid hrd
                clear hrd hd hdiv hbit hno hyes hand
                go_wp2
                go_roundw
                case rel => exact ⟨k + 1, A', c', q, acc ++ [nulv], by omega, by go_num, rfl, hq1, hcc, hB, hV, by simp [hal], by rw [HRD.out]; cases rrd (ks.drop (k + 1)) (bn / 2 ^ (k + 1)) q <;> simp, hq199, hb⟩
                case measure => simp [intOf]; omega
              · have hbit0 : bn / 2 ^ k % 2 = 0 := by omega
                rw [hbit0] at hAND
                have gf := rfirst_all kd A' c' q wr (hB.below hb) hq1
                have hrl := rf_len kd q
                have hks := rf_size kd q
                have hY := fun h => rrd_yes (k := kd) (ks := ks.drop (k + 1)) (n := bn / 2 ^ k) (q := q) hbit h
                have hN := fun h => rrd_no (k := kd) (ks := ks.drop (k + 1)) (n := bn / 2 ^ k) (q := q) hbit h
                rw [hdiv] at hY
                obtain ⟨x, n, hxn⟩ : ∃ x n, rf kd q = (x, n) := ⟨_, _, rfl⟩
                rw [hxn] at gf hrl hks hY hN
                simp only [] at gf hrl hks hY hN
                have GF := Lib.hid gf
                clear gf hxn hd hbit hbit0 hdiv hand
                by_cases hn : n = 0
                · subst hn
                  rw [hN (fun h => h.1 rfl)] at hrd
                  have e := hno hrd
                  have HE := Lib.hid e
                  clear e hrd hY hN hno hyes hV
                  go_wp2_with (go_at_call 50; (with_reducible refine (GF.out).mono ?_); rintro e w2 ⟨rfl, hb2⟩)
                  go_ret2
                  exact ⟨.slice none 0 0, by rw [HE.out.1]; rfl, by rw [HE.out.2]; exact vls_nil _ _, (by repeat (first | exact hb | refine Below.drew ?_ | refine below_dN ?_ _ | refine Below.al ?_ _ | refine Below.next ?_ (by assumption)))⟩
                · have hn0 : ((n : Int) == 0) = false := by simp; omega
                  have gr := right_any x (by omega)
                  have hEr := hE.next hb
                  cases hR : rightB x with
                  | false =>
                    rw [hR] at gr
                    rw [hN (fun h => by rw [hR] at h; cases h.2)] at hrd
                    have GR := Lib.hid gr
                    have e := hno hrd
                    have HE := Lib.hid e
                    clear e hrd hY hN hno hyes hV gr hR
                    go_wp2_with (first
                      | (go_at_call 50; (with_reducible refine (GF.out).mono ?_); rintro e w2 ⟨rfl, hb2⟩; have hE2 := hEr.next hb2)
                      | (go_at_call 38; (with_reducible refine (GR.out _ (hE2.next ((Below.refl _ _).alloc (Nat.le_refl _) _))).mono ?_); rintro e w3 ⟨rfl, hb3⟩))
                    go_ret2
                    exact ⟨.slice none 0 0, by rw [HE.out.1]; rfl, by rw [HE.out.2]; exact vls_nil _ _, (by repeat (first | exact hb | refine Below.drew ?_ | refine below_dN ?_ _ | refine Below.al ?_ _ | refine Below.next ?_ (by assumption)))⟩
                  | true =>
                    rw [hR] at gr
                    rw [hY ⟨hn, hR⟩] at hrd
                    have GR := Lib.hid gr
                    have HRD := Lib.hid hrd
                    have hQ := Lib.hid hq1
                    obtain ⟨L, hL⟩ : ∃ L, q.length = L := ⟨_, rfl⟩
                    obtain ⟨A2, hcut, hB2⟩ := cut_bytes A' (L - n) c' n (by omega)
                    rw [Nat.sub_add_cancel (by omega)] at hcut hB2
                    have HB2 := Lib.hid (hB2 w q hB hL)
                    have HL := Lib.hid hL
                    rw [hL] at hq1 hrl hks hq199 GF ⊢
                    have hset := set_next acc (ks.length - (k + 1)) x hal
                    have hvl : (acc ++ nuls (ks.length - (k + 1) + 1)).length = ks.length := by unfold nuls; simp; omega
                    have HSET := Lib.hid hset
                    clear hrd hY hN hno hyes gr hR hL hB2 hset
                    go_wp2_with (first
                      | (go_at_call 50; (with_reducible refine (GF.out).mono ?_); rintro e w2 ⟨rfl, hb2⟩; have hE2 := hEr.next hb2; have hV2 := own_below (own_below hV hb2) ((Below.refl _ _).alloc (Nat.le_refl _) (.cells #[.int .u8 x.k, .int .i64 x.i, .string x.s, .bool x.b] 43)))
                      | (go_at_call 38; (with_reducible refine (GR.out _ (hE2.next ((Below.refl _ _).alloc (Nat.le_refl _) _))).mono ?_); rintro e w3 ⟨rfl, hb3⟩; obtain ⟨hc3, hf3⟩ := bcell hb3; have hz3 : w2.heap.size < w3.heap.size := (by have := hb3.size; simp at this; omega); have hV3 := vls_shape (own_below hV2 hb3) hvl; obtain ⟨⟨m0, m1, m2, m3⟩, f0, f1, f2, f3⟩ := own_four hV3 (k := k) (by omega) hvl))
                    go_roundw
                    case rel => exact ⟨k + 1, A2, c' - n, q.drop n, acc ++ [x], by omega, by go_num, by rw [List.length_drop, HL.out], by rw [List.length_drop, HL.out]; omega, by omega, HB2.out, vls_of (own_set4 hV3 (by omega) x) (by rw [HSET.out]), by simp [hal], by rw [HRD.out]; cases rrd (ks.drop (k + 1)) (bn / 2 ^ (k + 1)) (q.drop n) <;> simp, by rw [List.length_drop, HL.out]; omega, below_set4 (show Below w.heap.size w w3 from (by repeat (first | exact hb | refine Below.drew ?_ | refine below_dN ?_ _ | refine Below.al ?_ _ | refine Below.next ?_ (by assumption)))) (Nat.le_refl _) _ _ _ _ _⟩
                    case measure => simp [intOf]; omega
            · obtain rfl : k = ks.length := by omega
              rw [List.drop_length, rrd_nil] at hrd
              rw [Nat.sub_self] at hV
              have h0d : bn / 2 ^ ks.length = 0 := Nat.div_eq_of_lt hlt0
              rw [h0d] at hrd
              by_cases hq0 : q = []
              · subst hq0
                rw [if_pos ⟨rfl, rfl⟩] at hrd
                have e := hyes _ hrd
                have HE := Lib.hid e
                clear e hrd hyes hno hand
                go_wp2
                go_ret2
                exact ⟨_, by rw [HE.out.1]; rfl, by rw [HE.out.2]; simpa [nuls] using hV, hb⟩
              · rw [if_neg (fun h => hq0 h.2)] at hrd
                have e := hno hrd
                have HE := Lib.hid e
                have hql := List.length_pos_iff.2 hq0
                clear e hrd hyes hno hand hV
                go_wp2
                go_ret2
                exact ⟨.slice none 0 0, by rw [HE.out.1]; rfl, by rw [HE.out.2]; exact vls_nil _ _, hb⟩
end Go.Proofs.YtdlgobakoomkpaaDoor
