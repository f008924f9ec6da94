/-
  The document's own answer for row (ref04): Read.
-/
import Derived.Test.YtdlgobakoomkpaaDoorRowH
import Derived.Test.YtdlgobakoomkpaaDoorCell2R
import Derived.Deep.RegionHeld3
namespace Go.Proofs.YtdlgobakoomkpaaDoor
open Go.RowKit

theorem box4 {W w3 : World} {g : Nat} {row : Option Nat} {u0 u1 u2 u3 : Value} (h : W.cell? ⟨g, 0, none⟩ = some u0 ∧ W.cell? ⟨g, 1, none⟩ = some u1 ∧ W.cell? ⟨g, 2, none⟩ = some u2 ∧ W.cell? ⟨g, 3, none⟩ = some u3) (hg : W.grownBy w3 row) (hne : some g ≠ row) :
    w3.cell? ⟨g, 0, none⟩ = some u0 ∧ w3.cell? ⟨g, 1, none⟩ = some u1 ∧ w3.cell? ⟨g, 2, none⟩ = some u2 ∧ w3.cell? ⟨g, 3, none⟩ = some u3 :=
  ⟨hg.cell h.1 hne, hg.cell h.2.1 hne, hg.cell h.2.2.1 hne, hg.cell h.2.2.2 hne⟩
theorem boxb {w W : World} {u0 u1 u2 u3 : Value} {T : TypeId} (h : Below (w.alloc (.cells #[u0, u1, u2, u3] T)).heap.size (w.alloc (.cells #[u0, u1, u2, u3] T)) W) :
    (W.cell? ⟨w.heap.size, 0, none⟩ = some u0 ∧ W.cell? ⟨w.heap.size, 1, none⟩ = some u1 ∧ W.cell? ⟨w.heap.size, 2, none⟩ = some u2 ∧ W.cell? ⟨w.heap.size, 3, none⟩ = some u3) ∧ w.heap.size < W.heap.size := by
  refine ⟨⟨?_, ?_, ?_, ?_⟩, by have := h.size; simp at this; omega⟩ <;> (rw [h.cell (by simp)]; simp [go_sem])
theorem Vls.ne_new {w : World} {base : Nat} {v : Value} {l : List Val} (h : Vls w base v l) {g : Nat} (hg : w.heap.size ≤ g) : some g ≠ v.ownBlock := fun e => by
  have := (h.lt g e.symm).2
  omega
theorem rf_int {q : List UInt8} (h : 8 ≤ q.length) : rf 1 q = (⟨1, IntKind.i64.wrap ((leN (q.take 8) : Nat) : Int), ⟨#[]⟩, false⟩, 8) := by
  cases q with
  | nil => simp at h
  | cons b t => rw [rf_cons, if_pos rfl, if_pos (by rw [List.length_cons] at h; exact h)]
theorem rf_int_no {q : List UInt8} (h : ¬ 8 ≤ q.length) : rf 1 q = (nulv, 0) := by
  cases q with
  | nil => rfl
  | cons b t => rw [rf_cons, if_pos rfl, if_neg (by rw [List.length_cons] at h; exact h)]
theorem rf_text {b : UInt8} {t : List UInt8} (h : b.toNat ≤ t.length) : rf 2 (b :: t) = (⟨2, 0, ⟨(t.take b.toNat).toArray⟩, false⟩, b.toNat + 1) := by
  rw [rf_cons, if_neg (by decide), if_pos rfl, if_pos h]
theorem rf_text_no {b : UInt8} {t : List UInt8} (h : ¬ b.toNat ≤ t.length) : rf 2 (b :: t) = (nulv, 0) := by
  rw [rf_cons, if_neg (by decide), if_pos rfl, if_neg h]
theorem rf_bool {b : UInt8} {t : List UInt8} (h : b.toNat ≤ 1) : rf 3 (b :: t) = (⟨3, 0, ⟨#[]⟩, b == 1⟩, 1) := by
  rw [rf_cons, if_neg (by decide), if_neg (by decide), if_pos rfl, if_pos h]
theorem rf_bool_no {b : UInt8} {t : List UInt8} (h : ¬ b.toNat ≤ 1) : rf 3 (b :: t) = (nulv, 0) := by
  rw [rf_cons, if_neg (by decide), if_neg (by decide), if_pos rfl, if_neg h]
theorem leN_drop {l : List UInt8} {k : Nat} (h : k < l.length) : leN (l.drop k) = l[k].toNat + 256 * leN (l.drop (k + 1)) := by
  rw [List.drop_eq_getElem_cons h]; rfl
theorem idx_u8 (ad : Addr) (n c k : Nat) (h : k < n) (i : Int) (hi : i = (k : Int)) (W : World) : (Instr.indexAt 24 (.slice (some ad) n c) (.int .i64 i)).run Tryd.prog W = .ok (.pointer (some (ad.add k))) W := by
  subst hi
  rw [run_indexAt_slice (h := by kernel_rfl), if_pos (by omega)]
  rw [show Tryd.prog.elem 24 = 5 by kernel_rfl, show (sizeOf 5).run Tryd.prog W = .ok 1 W by kernel_rfl]
  simp [Result.andThen]

set_option maxRecDepth 100000 in
set_option maxHeartbeats 16000000 in
theorem r04read_any (K A : Option Addr) (kc c : Nat) (ks p : List UInt8) (w : World) (hk : Brd w K ks) (hkl : ks.length ≤ 9223372036854775807) (ha : Brd w A p) (hc : p.length ≤ c) (hm : c ≤ 9223372036854775807) :
    Calls Tryd.prog 37 #[.slice K ks.length kc, .slice A p.length c] w fun e w' => ∃ v', e = .returned (.tuple #[v', .int .i64 (rrE ks p)]) ∧ Vls w' w.heap.size v' (rrL ks p) ∧ Below w.heap.size w w' := by
  obtain ⟨i4, hi4, hv0, hv1, hv2⟩ := info_parts info_val
  have gk := r04right_any K kc ks w hk hkl
  cases hK : kok ks with
  | false =>
    rw [hK] at gk
    have e1 : rrE ks p = 1 := by unfold rrE; rw [hK]; rfl
    have e2 : rrL ks p = [] := by unfold rrL; rw [hK]; rfl
    rw [e1, e2]
    have GK := Lib.hid gk
    clear gk hK hk ha e1 e2
    go_enter Tryd.func37, Tryd.ntmps37
    go_wp2_with (go_at_call 48; (with_reducible refine (GK.out).mono ?_); rintro e w1 ⟨rfl, hw1⟩; have hw := hw1.symm; subst hw)
    go_ret2
    exact ⟨.slice none 0 0, rfl, vls_nil _ _, Below.refl _ _⟩
  | true =>
    rw [hK] at gk
    have GK := Lib.hid gk
    have hk8 := (kok_parts hK).2.1
    have hka := (kok_parts hK).2.2
    clear gk
    cases p with
    | nil =>
      have e := rr_no hK (show rrB ks [] = none from rfl)
      rw [e.1, e.2]
      clear hK hk ha e
      go_enter Tryd.func37, Tryd.ntmps37
      go_wp2_with (go_at_call 48; (with_reducible refine (GK.out).mono ?_); rintro e w1 ⟨rfl, hw1⟩; have hw := hw1.symm; subst hw)
      go_ret2
      exact ⟨.slice none 0 0, rfl, vls_nil _ _, Below.refl _ _⟩
    | cons b t =>
      rw [List.length_cons] at hc ⊢
      have hg1' : decide ((t.length : Int) + 1 < 1) = false := decide_eq_false (by omega)
      by_cases h200 : 199 < t.length
      · have e := rr_no hK (show rrB ks (b :: t) = none from if_pos h200)
        rw [e.1, e.2]
        clear hK hk ha e
        go_enter Tryd.func37, Tryd.ntmps37
        go_wp2_with (go_at_call 48; (with_reducible refine (GK.out).mono ?_); rintro e w1 ⟨rfl, hw1⟩; have hw := hw1.symm; subst hw)
        go_ret2
        exact ⟨.slice none 0 0, rfl, vls_nil _ _, Below.refl _ _⟩
      · obtain ⟨ad, rfl, h0, h0o⟩ := at0 ha
        have hbl := b.toNat_lt
        have hrb : rrB ks (b :: t) = rrd ks b.toNat t := if_neg h200
        obtain ⟨A0, hcut0, hB00⟩ := cut_bytes (some ad) t.length c 1 hc
        have hB0 : Brd w A0 t := hB00 w _ ha rfl
        have hcut : ∀ W, (Instr.slice 24 (.slice (some ad) (t.length + 1) c) (some (.int .i64 1)) none none).run Tryd.prog W = .ok (.slice A0 t.length (c - 1)) W := hcut0
        have hyes := fun l h => rr_yes (l := l) hK (hrb.trans h)
        have hno := fun h => rr_no hK (hrb.trans h)
        have hg2' : decide (200 < (t.length : Int) + 1) = false := decide_eq_false (by omega)
        generalize b.toNat = bn at *
        clear hcut0 hB00 ha hrb
        go_enter Tryd.func37, Tryd.ntmps37
        go_wp2_with (go_at_call 48; (with_reducible refine (GK.out).mono ?_); rintro e w1 ⟨rfl, hw1⟩; have hw := hw1.symm; subst hw)
        clear hcut hK h0 h0o hg1' hg2'
        go_loopw [1, 6, 7, 33] (fun pv nv ov iv wr => ∃ (k : Nat) (A' : Option Addr) (c' : Nat) (q : List UInt8) (acc : List Val), k ≤ ks.length ∧ iv = .int .i64 k ∧ pv = .slice A' q.length c' ∧ q.length ≤ c' ∧ c' ≤ c ∧ Brd w A' q ∧ nv = .int .u8 ((bn / 2 ^ k : Nat) : Int) ∧ Vls wr w.heap.size ov acc ∧ acc.length = k ∧ rrd ks bn t = (rrd (ks.drop k) (bn / 2 ^ k) q).map (acc ++ ·) ∧ q.length ≤ 199 ∧ Below w.heap.size w wr) (fun _ _ _ iv _ => ks.length - (intOf iv).toNat)
        case atStart => exact ⟨0, A0, c - 1, t, [], Nat.zero_le _, rfl, rfl, by omega, by omega, hB0, by simp, vls_nil _ _, rfl, by simp, by omega, Below.refl _ _⟩
        case round =>
          obtain ⟨k, A', c', q, acc, hkk, rfl, rfl, hq1, hcc, hB, rfl, hV, hal, hrd, hq199, hb⟩ := hrel
          have hz := hb.size
          by_cases hlt : k < ks.length
          · obtain ⟨ak, rfl, hcell⟩ := (hk.below hb).at_ hlt
            have hkin : kin (ks[k]'hlt) = true := List.all_eq_true.1 hka _ (List.getElem_mem hlt)
            have hd : ks.drop k = ks[k]'hlt :: ks.drop (k + 1) := List.drop_eq_getElem_cons hlt
            rw [hd] at hrd
            have hdiv := div_bit bn k
            have hY := fun kd h1 h => rrd_yes (k := kd) (ks := ks.drop (k + 1)) (n := bn / 2 ^ k) (q := q) h1 h
            have hN := fun kd h1 h => rrd_no (k := kd) (ks := ks.drop (k + 1)) (n := bn / 2 ^ k) (q := q) h1 h
            have hU := fun kd h1 => rrd_nul (k := kd) (ks := ks.drop (k + 1)) (n := bn / 2 ^ k) (q := q) h1
            have hqb : bn / 2 ^ k < 256 := Nat.lt_of_le_of_lt (Nat.div_le_self _ _) hbl
            have hne := Vls.ne_new hV (Nat.le_refl _)
            have hBr := hB.below hb
            have hal8 : acc.length ≤ 8 := by omega
            generalize ks[k]'hlt = kd at *
            obtain ⟨qn2, hqn2⟩ : ∃ qn2, bn / 2 ^ (k + 1) = qn2 := ⟨_, rfl⟩
            rw [hqn2] at hdiv
            have HQ2 := Lib.hid hqn2
            clear hqn2
            generalize bn / 2 ^ k = qn at *
            have hqd : (qn : Int) / 2 = (qn2 : Int) := by omega
            clear hd
            obtain ⟨L, hL⟩ : ∃ L, q.length = L := ⟨_, rfl⟩
            have HL := Lib.hid hL
            rw [hL] at hq1 hq199 ⊢
            by_cases hbit : qn % 2 = 1
            · rw [hU kd hbit, hdiv] at hrd
              have HRD := Lib.hid hrd
              have hqm : (qn : Int) % 2 = 1 := by omega
              have gr := rright_any ⟨0, 0, ⟨#[]⟩, false⟩ (by decide)
              rw [rb_nul] at gr
              have GR := Lib.hid gr
              obtain ⟨A2, hcut0, hB2⟩ := cut_bytes A' (L - (0)) c' (0) (by omega)
              rw [Nat.sub_add_cancel (by omega)] at hcut0 hB2
              have hcut : ∀ W, (Instr.slice 24 (.slice A' L c') (some (.int .i64 0)) none none).run Tryd.prog W = .ok (.slice A2 (L - (0)) (c' - (0))) W := hcut0
              have HB2 := Lib.hid (hB2 w q hB HL.out)
              clear hcut0 hB2
              have hq0 : q.drop 0 = q := rfl
              clear hrd hY hN hU hno hyes hdiv hbit gr hkin
              generalize (kd.toNat : Int) = kdn at *
              go_wp2_with (go_at_call 30; (with_reducible refine (GR.out _).mono ?_); rintro e w1 ⟨rfl, hb1⟩; obtain ⟨hbx, hz1⟩ := boxb hb1; have hV1 := own_below (World.ownsRow.alloc hV _) hb1; have hzz := hb1.size)
              have hbx0 := hbx.1
              have hbx1 := hbx.2.1
              have hbx2 := hbx.2.2.1
              have hbx3 := hbx.2.2.2
              go_region_held3 (fun w' => w'.cell? ⟨wr.heap.size, 0, none⟩ = some (.int .u8 0) ∧ w'.cell? ⟨wr.heap.size, 1, none⟩ = some (.int .i64 0) ∧ w'.cell? ⟨wr.heap.size, 2, none⟩ = some (.string ⟨#[]⟩) ∧ w'.cell? ⟨wr.heap.size, 3, none⟩ = some (.bool false)) (first | assumption | simp [*, go_sem, World.cell?_alloc_lt])
                ((refine step_append_src _ (by rfl) (.tmp 102) (.tmp 104) 22 22 (by rfl) w.heap.size 43 _ _ 4 40 Tryd.underlying22 hi4 hv0 hv1 hv2 rfl _ _ _ (by rfl) (own_drew (World.ownsRow.alloc hV1 _)) _ 1 (vcells [⟨0, 0, ⟨#[]⟩, false⟩]) (by rfl) (src_rd Tryd.underlying22 _ (rd_lit (by first | rfl | simp) rfl rfl) (by decide) (vcells_one _)) (by simp only [maxLen]; omega) (by omega) (by simp; omega) ?_; intro v3 w3 ho3 hg3 ha3; have hS := box4 (by assumption) hg3 hne))
              clear hS ha3 hne hbx0 hbx1 hbx2 hbx3 hbx
              go_wp2
              go_roundw
              case rel => exact ⟨k + 1, A2, c' - (0), q.drop (0), acc ++ [⟨0, 0, ⟨#[]⟩, false⟩], by omega, by go_num, by rw [hq0, HL.out]; rfl, by rw [hq0, HL.out]; omega, by omega, HB2.out, by rw [HQ2.out], vls_of ho3 (by rw [vcells_append]), by simp [hal], by rw [HRD.out, HQ2.out, hq0]; cases rrd (ks.drop (k + 1)) qn2 q <;> simp [nulv], by rw [List.length_drop, HL.out]; omega, Below.trans (by repeat (first | exact hb | refine Below.drew ?_ | refine below_dN ?_ _ | refine Below.al ?_ _ | refine Below.next ?_ (by assumption))) (grown_below (own_drew (World.ownsRow.alloc hV1 _)) hg3 (by simp; omega))⟩
              case measure => simp [intOf]; omega
            · have hqm : (qn : Int) % 2 = 0 := by omega
              have hbit' : qn % 2 ≠ 1 := hbit
              have hkc : kd = 1 ∨ kd = 2 ∨ kd = 3 := by
                rcases kin_cases kd with ⟨h, _⟩ | ⟨_, h⟩
                · rcases h with h | h | h
                  · exact .inl (UInt8.toNat_inj.1 h)
                  · exact .inr (.inl (UInt8.toNat_inj.1 h))
                  · exact .inr (.inr (UInt8.toNat_inj.1 h))
                · rw [hkin] at h; cases h
              clear hkin
              rcases hkc with rfl | rfl | rfl
              · have hcell : wr.cell? (ak.add k) = some (.int .u8 1) := hcell
                by_cases h8 : 8 ≤ L
                · have hrf := rf_int (q := q) (by omega)
                  have hyy := hY 1 hbit'
                  rw [hrf] at hyy
                  rw [hyy ⟨show (8 : Nat) ≠ 0 by decide, rb_int _⟩, hdiv] at hrd
                  have HRD := Lib.hid hrd
                  obtain ⟨A2, hcut0, hB2⟩ := cut_bytes A' (L - (8)) c' (8) (by omega)
                  rw [Nat.sub_add_cancel (by omega)] at hcut0 hB2
                  have hcut : ∀ W, (Instr.slice 24 (.slice A' L c') (some (.int .i64 8)) none none).run Tryd.prog W = .ok (.slice A2 (L - (8)) (c' - (8))) W := hcut0
                  have HB2 := Lib.hid (hB2 w q hB HL.out)
                  clear hcut0 hB2
                  have hlt8 : (q.take 8).length = 8 := by rw [List.length_take]; omega
                  have hB8 : Brd wr A' (q.take 8) := hBr.front (by omega)
                  have hHY := hyy
                  clear hrd hY hN hU hno hyes hdiv hbit hbit' hrf hyy hHY
                  go_wp2
                  go_loop [13, 14] (fun u i => ∃ m : Nat, m ≤ 8 ∧ i = .int .i64 (7 - (m : Int)) ∧ u = .int .u64 ((leN ((q.take 8).drop (8 - m)) : Nat) : Int)) (fun _ i => (intOf i + 1).toNat)
                  case atStart => exact ⟨0, by omega, rfl, by rw [List.drop_of_length_le (by omega)]; rfl⟩
                  case round =>
                    obtain ⟨m, hm8, rfl, rfl⟩ := hrel
                    by_cases hlm : m < 8
                    · obtain ⟨j, hj⟩ : ∃ j, j = 7 - m := ⟨_, rfl⟩
                      have e1 : 8 - m = j + 1 := by omega
                      have e2 : 8 - (m + 1) = j := by omega
                      obtain ⟨ad3, rfl, hcell3⟩ := hB8.at_ (k := j) (by omega)
                      have hco : ∀ o, (wr.alloc o).cell? (ad3.add j) = some (.int .u8 ((q.take 8)[j]'(by omega)).toNat) := fun o => (World.cell?_alloc_lt wr o _ (World.block_lt_of_cell? wr _ hcell3)).trans hcell3
                      have hco7 : ∀ o, (wr.alloc o).cell? (ad3.add (7 - m)) = some (.int .u8 ((q.take 8)[j]'(by omega)).toNat) := by rw [← hj]; exact hco
                      have hcoi : ∀ o, (wr.alloc o).cell? (ad3.add (7 - (m : Int)).toNat) = some (.int .u8 ((q.take 8)[j]'(by omega)).toNat) := by rw [show (7 - (m : Int)).toNat = j by omega]; exact hco
                      have hF := leN_drop (l := q.take 8) (k := j) (by omega)
                      have hfe : leN ((q.take 8).drop (8 - m)) = leN ((q.take 8).drop (j + 1)) := by rw [e1]
                      have hl := leN_lt ((q.take 8).drop (j + 1))
                      have hll : ((q.take 8).drop (j + 1)).length ≤ 7 := by rw [List.length_drop]; omega
                      have hl2 : leN ((q.take 8).drop (j + 1)) < 72057594037927936 := Nat.lt_of_lt_of_le hl (Nat.le_trans (Nat.pow_le_pow_right (by decide) hll) (by decide))
                      have hb9 := ((q.take 8)[j]'(by omega)).toNat_lt
                      rw [← hfe] at hF hl2
                      have HF := Lib.hid hF
                      clear hF hcell3 hl hll hfe
                      generalize leN ((q.take 8).drop (8 - m)) = f at *
                      generalize ((q.take 8)[j]'(by omega)).toNat = b8 at *
                      go_wp2
                      go_round
                      case rel => exact ⟨m + 1, by omega, by go_num, by rw [e2, HF.out]; go_num⟩
                      case measure => simp [intOf]; omega
                    · obtain rfl : m = 8 := by omega
                      have hl := leN_lt (q.take 8)
                      rw [hlt8] at hl
                      have hl64 : leN (q.take 8) < 18446744073709551616 := Nat.lt_of_lt_of_le hl (by decide)
                      rw [show (q.take 8).drop (8 - 8) = q.take 8 from rfl]
                      generalize leN (q.take 8) = f at *
                      have hwr : wrap64 (f : Int) = IntKind.i64.wrap (f : Int) := by first | exact (IntKind.wrap_i64 _).symm | (rw [IntKind.wrap_i64]; unfold wrap64; omega)
                      have gr := rright_any ⟨1, IntKind.i64.wrap (f : Int), ⟨#[]⟩, false⟩ (Nat.zero_le _)
                      rw [rb_int] at gr
                      generalize IntKind.i64.wrap (f : Int) = y at *
                      have GR := Lib.hid gr
                      clear gr hB8 hl hBr
                      go_wp2_with (go_at_call 30; (with_reducible refine (GR.out _).mono ?_); rintro e w1 ⟨rfl, hb1⟩; obtain ⟨hbx, hz1⟩ := boxb hb1; have hV1 := own_below (World.ownsRow.alloc hV _) hb1; have hzz := hb1.size)
                      have hbx0 := hbx.1
                      have hbx1 := hbx.2.1
                      have hbx2 := hbx.2.2.1
                      have hbx3 := hbx.2.2.2
                      go_region_held3 (fun w' => w'.cell? ⟨wr.heap.size, 0, none⟩ = some (.int .u8 1) ∧ w'.cell? ⟨wr.heap.size, 1, none⟩ = some (.int .i64 y) ∧ w'.cell? ⟨wr.heap.size, 2, none⟩ = some (.string ⟨#[]⟩) ∧ w'.cell? ⟨wr.heap.size, 3, none⟩ = some (.bool false)) (first | assumption | simp [*, go_sem, World.cell?_alloc_lt])
                        ((refine step_append_src _ (by rfl) (.tmp 102) (.tmp 104) 22 22 (by rfl) w.heap.size 43 _ _ 4 40 Tryd.underlying22 hi4 hv0 hv1 hv2 rfl _ _ _ (by rfl) (own_drew (World.ownsRow.alloc hV1 _)) _ 1 (vcells [⟨1, y, ⟨#[]⟩, false⟩]) (by rfl) (src_rd Tryd.underlying22 _ (rd_lit (by first | rfl | simp) rfl rfl) (by decide) (vcells_one _)) (by simp only [maxLen]; omega) (by omega) (by simp; omega) ?_; intro v3 w3 ho3 hg3 ha3; have hS := box4 (by assumption) hg3 hne))
                      clear hS ha3 hne hbx0 hbx1 hbx2 hbx3 hbx
                      go_wp2
                      go_roundw
                      case rel => exact ⟨k + 1, A2, c' - (8), q.drop (8), acc ++ [⟨1, y, ⟨#[]⟩, false⟩], by omega, by go_num, by rw [List.length_drop, HL.out], by rw [List.length_drop, HL.out]; omega, by omega, HB2.out, by rw [HQ2.out], vls_of ho3 (by rw [vcells_append]), by simp [hal], by rw [HRD.out, HQ2.out]; cases rrd (ks.drop (k + 1)) qn2 (q.drop (8)) <;> simp, by rw [List.length_drop, HL.out]; omega, Below.trans (by repeat (first | exact hb | refine Below.drew ?_ | refine below_dN ?_ _ | refine Below.al ?_ _ | refine Below.next ?_ (by assumption))) (grown_below (own_drew (World.ownsRow.alloc hV1 _)) hg3 (by simp; omega))⟩
                      case measure => simp [intOf]; omega
                · have hrf := rf_int_no (q := q) (by omega)
                  rw [hN 1 hbit' (by rw [hrf]; exact fun h => h.1 rfl)] at hrd
                  clear hrf hdiv hbit hbit'
                  have e := hno hrd
                  have HE := Lib.hid e
                  clear e hrd hY hN hU hno hyes hV hne
                  go_wp2
                  go_ret2
                  exact ⟨.slice none 0 0, by rw [HE.out.1]; rfl, by rw [HE.out.2]; exact vls_nil _ _, (by repeat (first | exact hb | refine Below.drew ?_ | refine below_dN ?_ _ | refine Below.al ?_ _ | refine Below.next ?_ (by assumption)))⟩
              · have hcell : wr.cell? (ak.add k) = some (.int .u8 2) := hcell
                cases q with
                | nil =>
                  obtain rfl : L = 0 := HL.out.symm
                  rw [hN 2 hbit' (fun h => h.1 rfl)] at hrd
                  clear hdiv hbit hbit'
                  have e := hno hrd
                  have HE := Lib.hid e
                  clear e hrd hY hN hU hno hyes hV hne
                  go_wp2
                  go_ret2
                  exact ⟨.slice none 0 0, by rw [HE.out.1]; rfl, by rw [HE.out.2]; exact vls_nil _ _, (by repeat (first | exact hb | refine Below.drew ?_ | refine below_dN ?_ _ | refine Below.al ?_ _ | refine Below.next ?_ (by assumption)))⟩
                | cons b8 t8 =>
                  obtain ⟨ad1, rfl, h1, h1o⟩ := at0 hBr
                  have hlc1 : L ≤ t8.length + 1 := Nat.le_of_eq HL.out.symm
                  have hlc2 : t8.length + 1 ≤ L := Nat.le_of_eq HL.out
                  have hb9 := b8.toNat_lt
                  by_cases hbq : b8.toNat ≤ t8.length
                  · have hrf := rf_text (t := t8) hbq
                    have hyy := hY 2 hbit'
                    rw [hrf] at hyy
                    have hrs : ∀ s : ByteArray, rightB ⟨2, 0, s, false⟩ = soundB s := fun s => by unfold rightB; rw [if_neg (show ¬ (2 : Int) = 0 by decide), if_neg (show ¬ (2 : Int) = 1 by decide), if_pos rfl]; simp
                    have hnn := hN 2 hbit'
                    rw [hrf] at hnn
                    simp only [] at hyy hnn
                    obtain ⟨A3, hmid0, hB3⟩ := row_mid (some ad1) L c' 1 (b8.toNat + 1) (by omega) (by omega) hq1
                    have hB8 : Brd wr A3 (t8.take b8.toNat) := by have := hB3 wr _ hBr HL.out; simpa using this
                    have hq8 := fun o => Brd.conv (Rd.alloc hB8 o : Brd (wr.alloc o) A3 (t8.take b8.toNat)) (c' - 1)
                    rw [show (t8.take b8.toNat).length = b8.toNat by rw [List.length_take]; omega] at hq8
                    have hsz : (⟨(t8.take b8.toNat).toArray⟩ : ByteArray).size ≤ 9223372036854775807 := by show (t8.take b8.toNat).toArray.size ≤ _; simp; omega
                    have gr := rright_any ⟨2, 0, ⟨(t8.take b8.toNat).toArray⟩, false⟩ hsz
                    rw [hrs] at gr
                    rw [hrs] at hyy hnn
                    obtain ⟨A2, hcut0, hB2⟩ := cut_bytes (some ad1) (L - (b8.toNat + 1)) c' (b8.toNat + 1) (by omega)
                    rw [Nat.sub_add_cancel (by omega)] at hcut0 hB2
                    have hcut : ∀ W, (Instr.slice 24 (.slice (some ad1) L c') (some (.int .i64 (1 + (b8.toNat : Int)))) none none).run Tryd.prog W = .ok (.slice A2 (L - (b8.toNat + 1)) (c' - (b8.toNat + 1))) W := fun W => by have := hcut0 W; rw [show ((b8.toNat + 1 : Nat) : Int) = 1 + (b8.toNat : Int) by omega] at this; exact this
                    have HB2 := Lib.hid (hB2 w (b8 :: t8) hB HL.out)
                    clear hcut0 hB2
                    have hmid : ∀ W, (Instr.slice 24 (.slice (some ad1) L c') (some (.int .i64 1)) (some (.int .i64 (1 + (b8.toNat : Int)))) none).run Tryd.prog W = .ok (.slice A3 b8.toNat (c' - 1)) W := fun W => by have := hmid0 W; rw [show ((b8.toNat + 1 : Nat) : Int) = 1 + (b8.toNat : Int) by omega, Nat.add_sub_cancel] at this; exact this
                    have hjL : b8.toNat + 1 ≤ L := by omega
                    generalize t8.take b8.toNat = s8 at *
                    have HQ8 := hq8
                    cases hso : soundB ⟨s8.toArray⟩ with
                    | true =>
                      rw [hso] at gr
                      rw [hyy ⟨by simp, hso⟩, hdiv] at hrd
                      have GR := Lib.hid gr
                      have HRD := Lib.hid hrd
                      generalize b8.toNat = j at *
                      clear hrd hY hN hU hno hyes hdiv hbit hbit' hrf hyy hnn gr hrs hBr hmid0 hB3 hB8 hso hsz HQ8
                      go_wp2_with (go_at_call 30; (with_reducible refine (GR.out _).mono ?_); rintro e w1 ⟨rfl, hb1⟩; obtain ⟨hbx, hz1⟩ := boxb hb1; have hV1 := own_below (World.ownsRow.alloc hV _) hb1; have hzz := hb1.size)
                      have hbx0 := hbx.1
                      have hbx1 := hbx.2.1
                      have hbx2 := hbx.2.2.1
                      have hbx3 := hbx.2.2.2
                      go_region_held3 (fun w' => w'.cell? ⟨wr.heap.size, 0, none⟩ = some (.int .u8 2) ∧ w'.cell? ⟨wr.heap.size, 1, none⟩ = some (.int .i64 0) ∧ w'.cell? ⟨wr.heap.size, 2, none⟩ = some (.string ⟨s8.toArray⟩) ∧ w'.cell? ⟨wr.heap.size, 3, none⟩ = some (.bool false)) (first | assumption | simp [*, go_sem, World.cell?_alloc_lt])
                        ((refine step_append_src _ (by rfl) (.tmp 102) (.tmp 104) 22 22 (by rfl) w.heap.size 43 _ _ 4 40 Tryd.underlying22 hi4 hv0 hv1 hv2 rfl _ _ _ (by rfl) (own_drew (World.ownsRow.alloc hV1 _)) _ 1 (vcells [⟨2, 0, ⟨s8.toArray⟩, false⟩]) (by rfl) (src_rd Tryd.underlying22 _ (rd_lit (by first | rfl | simp) rfl rfl) (by decide) (vcells_one _)) (by simp only [maxLen]; omega) (by omega) (by simp; omega) ?_; intro v3 w3 ho3 hg3 ha3; have hS := box4 (by assumption) hg3 hne))
                      clear hS ha3 hne hbx0 hbx1 hbx2 hbx3 hbx
                      go_wp2
                      go_roundw
                      case rel => exact ⟨k + 1, A2, c' - (j + 1), (b8 :: t8).drop (j + 1), acc ++ [⟨2, 0, ⟨s8.toArray⟩, false⟩], by omega, by go_num, by rw [List.length_drop, HL.out], by rw [List.length_drop, HL.out]; omega, by omega, HB2.out, by rw [HQ2.out], vls_of ho3 (by rw [vcells_append]), by simp [hal], by rw [HRD.out, HQ2.out]; cases rrd (ks.drop (k + 1)) qn2 ((b8 :: t8).drop (j + 1)) <;> simp, by rw [List.length_drop, HL.out]; omega, Below.trans (by repeat (first | exact hb | refine Below.drew ?_ | refine below_dN ?_ _ | refine Below.al ?_ _ | refine Below.next ?_ (by assumption))) (grown_below (own_drew (World.ownsRow.alloc hV1 _)) hg3 (by simp; omega))⟩
                      case measure => simp [intOf]; omega
                    | false =>
                      rw [hso] at gr
                      rw [hnn (fun h => by rw [hso] at h; cases h.2)] at hrd
                      have GR := Lib.hid gr
                      generalize b8.toNat = j at *
                      clear hrf hyy hnn gr hrs hBr hmid0 hB3 hB8 hso hsz HQ8 hdiv hbit hbit' hcut
                      have e := hno hrd
                      have HE := Lib.hid e
                      clear e hrd hY hN hU hno hyes hV hne
                      go_wp2_with (go_at_call 30; (with_reducible refine (GR.out _).mono ?_); rintro e w1 ⟨rfl, hb1⟩)
                      go_ret2
                      exact ⟨.slice none 0 0, by rw [HE.out.1]; rfl, by rw [HE.out.2]; exact vls_nil _ _, (by repeat (first | exact hb | refine Below.drew ?_ | refine below_dN ?_ _ | refine Below.al ?_ _ | refine Below.next ?_ (by assumption)))⟩
                  · have hrf := rf_text_no (t := t8) hbq
                    rw [hN 2 hbit' (by rw [hrf]; exact fun h => h.1 rfl)] at hrd
                    generalize b8.toNat = j at *
                    clear hrf hdiv hbit hbit' hBr
                    have e := hno hrd
                    have HE := Lib.hid e
                    clear e hrd hY hN hU hno hyes hV hne
                    go_wp2
                    go_ret2
                    exact ⟨.slice none 0 0, by rw [HE.out.1]; rfl, by rw [HE.out.2]; exact vls_nil _ _, (by repeat (first | exact hb | refine Below.drew ?_ | refine below_dN ?_ _ | refine Below.al ?_ _ | refine Below.next ?_ (by assumption)))⟩
              · have hcell : wr.cell? (ak.add k) = some (.int .u8 3) := hcell
                cases q with
                | nil =>
                  obtain rfl : L = 0 := HL.out.symm
                  rw [hN 3 hbit' (fun h => h.1 rfl)] at hrd
                  clear hdiv hbit hbit'
                  have e := hno hrd
                  have HE := Lib.hid e
                  clear e hrd hY hN hU hno hyes hV hne
                  go_wp2
                  go_ret2
                  exact ⟨.slice none 0 0, by rw [HE.out.1]; rfl, by rw [HE.out.2]; exact vls_nil _ _, (by repeat (first | exact hb | refine Below.drew ?_ | refine below_dN ?_ _ | refine Below.al ?_ _ | refine Below.next ?_ (by assumption)))⟩
                | cons b8 t8 =>
                  obtain ⟨ad1, rfl, h1, h1o⟩ := at0 hBr
                  have hlc1 : L ≤ t8.length + 1 := Nat.le_of_eq HL.out.symm
                  have hlc2 : t8.length + 1 ≤ L := Nat.le_of_eq HL.out
                  have hb9 := b8.toNat_lt
                  by_cases hbq : b8.toNat ≤ 1
                  · have hrf := rf_bool (t := t8) hbq
                    have hyy := hY 3 hbit'
                    rw [hrf] at hyy
                    have rb : ∀ y : Bool, rightB ⟨3, 0, ⟨#[]⟩, y⟩ = true := fun y => by unfold rightB; rw [if_neg (show ¬ (3 : Int) = 0 by decide), if_neg (show ¬ (3 : Int) = 1 by decide), if_neg (show ¬ (3 : Int) = 2 by decide), if_pos rfl, ByteArray.toList_eq]; rfl
                    rw [hyy ⟨show (1 : Nat) ≠ 0 by decide, rb _⟩, hdiv] at hrd
                    have q1 := eq_one b8
                    have gr := rright_any ⟨3, 0, ⟨#[]⟩, b8 == 1⟩ (Nat.zero_le _)
                    rw [rb] at gr
                    obtain ⟨A2, hcut0, hB2⟩ := cut_bytes (some ad1) (L - (1)) c' (1) (by omega)
                    rw [Nat.sub_add_cancel (by omega)] at hcut0 hB2
                    have hcut : ∀ W, (Instr.slice 24 (.slice (some ad1) L c') (some (.int .i64 1)) none none).run Tryd.prog W = .ok (.slice A2 (L - (1)) (c' - (1))) W := hcut0
                    have HB2 := Lib.hid (hB2 w (b8 :: t8) hB HL.out)
                    clear hcut0 hB2
                    generalize (b8 == 1) = y at *
                    have GR := Lib.hid gr
                    have HRD := Lib.hid hrd
                    generalize b8.toNat = j at *
                    clear hrd hY hN hU hno hyes hdiv hbit hbit' hrf hyy gr rb hBr
                    go_wp2_with (go_at_call 30; (with_reducible refine (GR.out _).mono ?_); rintro e w1 ⟨rfl, hb1⟩; obtain ⟨hbx, hz1⟩ := boxb hb1; have hV1 := own_below (World.ownsRow.alloc hV _) hb1; have hzz := hb1.size)
                    have hbx0 := hbx.1
                    have hbx1 := hbx.2.1
                    have hbx2 := hbx.2.2.1
                    have hbx3 := hbx.2.2.2
                    go_region_held3 (fun w' => w'.cell? ⟨wr.heap.size, 0, none⟩ = some (.int .u8 3) ∧ w'.cell? ⟨wr.heap.size, 1, none⟩ = some (.int .i64 0) ∧ w'.cell? ⟨wr.heap.size, 2, none⟩ = some (.string ⟨#[]⟩) ∧ w'.cell? ⟨wr.heap.size, 3, none⟩ = some (.bool y)) (first | assumption | simp [*, go_sem, World.cell?_alloc_lt])
                      ((refine step_append_src _ (by rfl) (.tmp 102) (.tmp 104) 22 22 (by rfl) w.heap.size 43 _ _ 4 40 Tryd.underlying22 hi4 hv0 hv1 hv2 rfl _ _ _ (by rfl) (own_drew (World.ownsRow.alloc hV1 _)) _ 1 (vcells [⟨3, 0, ⟨#[]⟩, y⟩]) (by rfl) (src_rd Tryd.underlying22 _ (rd_lit (by first | rfl | simp) rfl rfl) (by decide) (vcells_one _)) (by simp only [maxLen]; omega) (by omega) (by simp; omega) ?_; intro v3 w3 ho3 hg3 ha3; have hS := box4 (by assumption) hg3 hne))
                    clear hS ha3 hne hbx0 hbx1 hbx2 hbx3 hbx
                    go_wp2
                    go_roundw
                    case rel => exact ⟨k + 1, A2, c' - (1), (b8 :: t8).drop (1), acc ++ [⟨3, 0, ⟨#[]⟩, y⟩], by omega, by go_num, by rw [List.length_drop, HL.out], by rw [List.length_drop, HL.out]; omega, by omega, HB2.out, by rw [HQ2.out], vls_of ho3 (by rw [vcells_append]), by simp [hal], by rw [HRD.out, HQ2.out]; cases rrd (ks.drop (k + 1)) qn2 ((b8 :: t8).drop (1)) <;> simp, by rw [List.length_drop, HL.out]; omega, Below.trans (by repeat (first | exact hb | refine Below.drew ?_ | refine below_dN ?_ _ | refine Below.al ?_ _ | refine Below.next ?_ (by assumption))) (grown_below (own_drew (World.ownsRow.alloc hV1 _)) hg3 (by simp; omega))⟩
                    case measure => simp [intOf]; omega
                  · have hrf := rf_bool_no (t := t8) hbq
                    rw [hN 3 hbit' (by rw [hrf]; exact fun h => h.1 rfl)] at hrd
                    generalize b8.toNat = j at *
                    clear hrf hdiv hbit hbit' hBr
                    have e := hno hrd
                    have HE := Lib.hid e
                    clear e hrd hY hN hU hno hyes hV hne
                    go_wp2
                    go_ret2
                    exact ⟨.slice none 0 0, by rw [HE.out.1]; rfl, by rw [HE.out.2]; exact vls_nil _ _, (by repeat (first | exact hb | refine Below.drew ?_ | refine below_dN ?_ _ | refine Below.al ?_ _ | refine Below.next ?_ (by assumption)))⟩
          · obtain rfl : k = ks.length := by omega
            rw [List.drop_length, rrd_nil] at hrd
            have hqb : bn / 2 ^ ks.length < 256 := Nat.lt_of_le_of_lt (Nat.div_le_self _ _) hbl
            generalize bn / 2 ^ ks.length = qn at *
            by_cases hqn : qn = 0
            · subst hqn
              by_cases hq0 : q = []
              · subst hq0
                rw [if_pos ⟨rfl, rfl⟩] at hrd
                have e := hyes _ hrd
                have HE := Lib.hid e
                clear e hrd hyes hno
                go_wp2
                go_ret2
                exact ⟨_, by rw [HE.out.1]; rfl, by rw [HE.out.2]; simpa using hV, hb⟩
              · rw [if_neg (fun h => hq0 h.2)] at hrd
                have e := hno hrd
                have HE := Lib.hid e
                have hql := List.length_pos_iff.2 hq0
                clear e hrd hyes hno hV
                go_wp2
                go_ret2
                exact ⟨.slice none 0 0, by rw [HE.out.1]; rfl, by rw [HE.out.2]; exact vls_nil _ _, hb⟩
            · rw [if_neg (fun h => hqn h.1)] at hrd
              have e := hno hrd
              have HE := Lib.hid e
              have hqi : ((qn : Int) != 0) = true := by simp; omega
              clear e hrd hyes hno hV
              go_wp2
              go_ret2
              exact ⟨.slice none 0 0, by rw [HE.out.1]; rfl, by rw [HE.out.2]; exact vls_nil _ _, hb⟩
end Go.Proofs.YtdlgobakoomkpaaDoor
