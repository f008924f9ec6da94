/-
  The document's own answer for key (ref03): Read.
-/
import Derived.Test.YtdlgobakoomkpaaDoorKeyRead
import Derived.Test.YtdlgobakoomkpaaDoorSameRow
import Derived.Test.YtdlgobakoomkpaaDoorCell2R
import Derived.Test.YtdlgobakoomkpaaDoorCell2A
import Derived.Deep.RegionHeld3
namespace Go.Proofs.YtdlgobakoomkpaaDoor
open Go.RowKit

/-- A slice of bytes between two places. -/
theorem mid_bytes (A : Option Addr) (n c k m : Nat) (h1 : k ≤ m) (h2 : m ≤ n) (hn : n ≤ c) : ∃ A', (∀ W, (Instr.slice 24 (.slice A n c) (some (.int .i64 (k : Int))) (some (.int .i64 (m : Int))) none).run Tryd.prog W = .ok (.slice A' (m - k) (c - k)) W) ∧
    ∀ W (l : List UInt8), Brd W A l → l.length = n → Brd W A' ((l.drop k).take (m - k)) := by
  refine ⟨if c = k then A else A.map (·.add k), fun W => ?_, fun W l h hl => ?_⟩
  · rw [run_slice_lh (ht := by kernel_rfl) (h0 := by omega) (h1 := by omega) (h2 := by omega)]
    rw [show Tryd.prog.elem 24 = 5 by kernel_rfl, show (sizeOf 5).run Tryd.prog W = .ok 1 W by kernel_rfl]
    simp only [Result.andThen, sliced, Int.toNat_natCast, Nat.mul_one]
  · have := Rd.cut h (k := k) (cap := c) (by omega) (by omega)
    rw [Nat.mul_one, bcells_drop] at this
    have hd : Brd W (if c = k then A else A.map (·.add k)) (l.drop k) := by unfold Brd; rw [List.length_drop]; exact this
    exact hd.front (by rw [List.length_drop]; omega)
theorem sub_back {f : Nat} (hf : f < 18446744073709551616) : IntKind.i64.wrap (IntKind.u64.wrap ((f : Int) - 9223372036854775808)) = (f : Int) - 9223372036854775808 := by
  have hw : ∀ i : Int, IntKind.u64.wrap i = i % 18446744073709551616 := fun _ => rfl
  rw [hw, IntKind.wrap_i64]
  omega

set_option maxRecDepth 100000 in
theorem keepbox {W w3 : World} {g : Nat} {row : Option Nat} {u0 u1 u2 u3 : Value} (h : W.cell? ⟨g, 0, none⟩ = some u0 ∧ W.cell? ⟨g, 1, none⟩ = some u1 ∧ W.cell? ⟨g, 2, none⟩ = some u2 ∧ W.cell? ⟨g, 3, none⟩ = some u3) (hg : W.grownBy w3 row) (hne : some g ≠ row) :
    w3.cell? ⟨g, 0, none⟩ = some u0 ∧ w3.cell? ⟨g, 1, none⟩ = some u1 ∧ w3.cell? ⟨g, 2, none⟩ = some u2 ∧ w3.cell? ⟨g, 3, none⟩ = some u3 :=
  ⟨hg.cell h.1 hne, hg.cell h.2.1 hne, hg.cell h.2.2.1 hne, hg.cell h.2.2.2 hne⟩

set_option maxHeartbeats 4000000 in
theorem rread_any (A : Option Addr) (c : Nat) (p : List UInt8) (w : World) (ha : Brd w A p) (hc : p.length ≤ c) (hm : c ≤ 9223372036854775807) (hl : p.length ≤ 1000000000) :
    Calls Tryd.prog 23 #[.slice A p.length c] w fun e w' => ∃ v', e = .returned (.tuple #[v', .int .i64 (rdE p)]) ∧ Vls w' w.heap.size v' (rdL p) ∧ Below w.heap.size w w' := by
  obtain ⟨i4, hi4, hv0, hv1, hv2⟩ := info_parts info_val
  go_enter Tryd.func23, Tryd.ntmps23
  go_wp2
  go_loopw [0, 4] (fun pv lv wr => ∃ (A' : Option Addr) (c' : Nat) (q : List UInt8) (acc : List Val), pv = .slice A' q.length c' ∧ q.length ≤ c' ∧ c' ≤ c ∧ Brd w A' q ∧ Vls wr w.heap.size lv acc ∧ rd p = (rd q).map (acc ++ ·) ∧ acc.length + q.length ≤ p.length ∧ Below w.heap.size w wr) (fun pv _ _ => slen pv)
  case atStart => exact ⟨A, c, p, [], rfl, hc, Nat.le_refl _, ha, vls_nil _ _, by cases rd p <;> simp, by simp, Below.refl _ _⟩
  case round =>
    obtain ⟨A', c', q, acc, rfl, hq, hcc, hB, hV, hrd, hal, hb⟩ := hrel
    have hBw := hB.below hb
    cases q with
    | nil =>
      rw [rd_nil] at hrd
      have HR := Lib.hid hrd
      clear hrd hB hBw
      go_wp2
      go_ret2
      exact ⟨u4, by unfold rdE; rw [HR.out]; rfl, by unfold rdL; rw [HR.out]; simpa using hV, hb⟩
    | cons b t =>
      have hz := hb.size
      have k1 := rd1_cons b t
      have HRD := Lib.hid hrd
      obtain ⟨ad, rfl, h0, h0o⟩ := at0 hBw
      have hTw : Brd w (some ad) (b :: t) := hB
      have hne : some wr.heap.size ≠ u4.ownBlock := fun e => by have := (hV.lt _ e.symm).2; omega
      obtain ⟨L, hL⟩ : ∃ L, (b :: t).length = L := ⟨_, rfl⟩
      rw [hL] at hq hal
      rw [hL]
      have hLt : L = t.length + 1 := hL.symm
      have hL1 : L ≤ t.length + 1 := by omega
      have hL2 : t.length + 1 ≤ L := by omega
      have HL := Lib.hid hL
      clear hrd ha hL hLt
      by_cases b1 : b = 1
      · subst b1
        rw [if_pos rfl] at k1
        have k0 : ∀ o, (wr.alloc o).cell? ad = some (.int .u8 1) := h0o
        obtain ⟨A2, hcut0, hB2⟩ := cut_bytes (some ad) (L - 1) c' 1 (by omega)
        rw [Nat.sub_add_cancel (by omega)] at hcut0 hB2
        have hcut : ∀ W, (Instr.slice 24 (.slice (some ad) L c') (some (.int .i64 1)) none none).run Tryd.prog W = .ok (.slice A2 (L - 1) (c' - 1)) W := hcut0
        have HB2 := Lib.hid (hB2 w _ hTw HL.out)
        have HS := Lib.hid (rd_some k1)
        clear hcut0 hB2
        clear k1 h0 h0o hBw
        go_wp2
        go_region_held3 (fun w' => w'.cell? ⟨wr.heap.size, 0, none⟩ = some (.int .u8 0) ∧ w'.cell? ⟨wr.heap.size, 1, none⟩ = some (.int .i64 0) ∧ w'.cell? ⟨wr.heap.size, 2, none⟩ = some (.string ⟨#[]⟩) ∧ w'.cell? ⟨wr.heap.size, 3, none⟩ = some (.bool false)) (first | assumption | simp [*, go_sem, World.cell?_alloc_past])
          ((refine step_append_src _ (by rfl) (.tmp 86) (.tmp 88) 22 22 (by rfl) w.heap.size 43 _ _ 4 40 Tryd.underlying22 hi4 hv0 hv1 hv2 rfl _ _ _ (by rfl) (own_drew (World.ownsRow.alloc (World.ownsRow.alloc hV _) _)) _ 1 (vcells [⟨0, 0, ⟨#[]⟩, false⟩]) (by rfl) (src_rd Tryd.underlying22 _ (rd_lit (by first | rfl | simp) rfl rfl) (by decide) (vcells_one _)) (by simp only [maxLen]; omega) (by omega) (by simp; omega) ?_; intro v3 w3 ho3 hg3 ha3; have hS := keepbox (by assumption) hg3 hne))
        clear hS ha3 hTw hne
        show _ ∧ _
        go_roundw
        case rel => exact ⟨A2, c' - 1, (1 :: t).drop (1), acc ++ [⟨0, 0, ⟨#[]⟩, false⟩], by rw [List.length_drop, HL.out], by rw [List.length_drop, HL.out]; omega, by omega, HB2.out, vls_of ho3 (by rw [vcells_append]), by rw [HRD.out, HS.out]; cases rd ((1 :: t).drop (1)) <;> simp, by rw [List.length_drop, HL.out, List.length_append]; simp; omega, Below.trans (by repeat (first | exact hb | refine Below.drew ?_ | refine dN ?_ _ | refine Below.al ?_ _ | refine Below.next ?_ (by assumption))) (grown_below (own_drew (World.ownsRow.alloc (World.ownsRow.alloc hV _) _)) hg3 (by simp; omega))⟩
        case measure => simp [slen]; omega
      · rw [if_neg b1] at k1
        by_cases b2 : b = 2
        · subst b2
          rw [if_pos rfl] at k1
          have k0 : ∀ o, (wr.alloc o).cell? ad = some (.int .u8 2) := h0o
          by_cases ht : 0 < t.length
          · have h1 : wr.cell? (ad.add 1) = some (.int .u8 (t[0].toNat : Int)) := by
              obtain ⟨ad', e, hc⟩ := hBw.at_ (k := 1) (by simp; omega)
              cases e
              exact hc
            have h1o : ∀ o, (wr.alloc o).cell? ⟨ad.block, ad.off + 1, none⟩ = some (.int .u8 (t[0].toNat : Int)) := fun o => (World.cell?_alloc_lt wr o (ad.add 1) (World.block_lt_of_cell? wr _ h1)).trans h1
            have hg : t.getD 0 0 = t[0] := by rw [List.getD_eq_getElem?_getD, List.getElem?_eq_getElem ht]; rfl
            have q1 := eq_one t[0]
            have hxl := t[0].toNat_lt
            rw [hg] at k1
            generalize t[0] = x at *
            by_cases hx : x.toNat ≤ 1
            · rw [if_pos ⟨ht, hx⟩] at k1
              generalize (x == 1) = y at *
              obtain ⟨A2, hcut0, hB2⟩ := cut_bytes (some ad) (L - 2) c' 2 (by omega)
              rw [Nat.sub_add_cancel (by omega)] at hcut0 hB2
              have hcut : ∀ W, (Instr.slice 24 (.slice (some ad) L c') (some (.int .i64 2)) none none).run Tryd.prog W = .ok (.slice A2 (L - 2) (c' - 2)) W := hcut0
              have HB2 := Lib.hid (hB2 w _ hTw HL.out)
              have HS := Lib.hid (rd_some k1)
              clear hcut0 hB2
              have gt := truthOf_any y
              have GT := Lib.hid gt
              clear k1 h0 h0o hBw gt h1 hg b1
              go_wp2_with (go_at_call 41; (with_reducible refine (GT.out _).mono ?_); rintro e w1 ⟨rfl, o1, rfl⟩)
              go_region_held3 (fun w' => w'.cell? ⟨wr.heap.size, 0, none⟩ = some (.int .u8 3) ∧ w'.cell? ⟨wr.heap.size, 1, none⟩ = some (.int .i64 0) ∧ w'.cell? ⟨wr.heap.size, 2, none⟩ = some (.string ⟨#[]⟩) ∧ w'.cell? ⟨wr.heap.size, 3, none⟩ = some (.bool y)) (first | assumption | simp [*, go_sem, World.cell?_alloc_past])
                ((refine step_append_src _ (by rfl) (.tmp 86) (.tmp 88) 22 22 (by rfl) w.heap.size 43 _ _ 4 40 Tryd.underlying22 hi4 hv0 hv1 hv2 rfl _ _ _ (by rfl) (own_drew (World.ownsRow.alloc (World.ownsRow.alloc (World.ownsRow.alloc hV _) _) _)) _ 1 (vcells [⟨3, 0, ⟨#[]⟩, y⟩]) (by rfl) (src_rd Tryd.underlying22 _ (rd_lit (by first | rfl | simp) rfl rfl) (by decide) (vcells_one _)) (by simp only [maxLen]; omega) (by omega) (by simp; omega) ?_; intro v3 w3 ho3 hg3 ha3; have hS := keepbox (by assumption) hg3 hne))
              clear hS ha3 hTw hne
              show _ ∧ _
              go_roundw
              case rel => exact ⟨A2, c' - 2, (2 :: t).drop (2), acc ++ [⟨3, 0, ⟨#[]⟩, y⟩], by rw [List.length_drop, HL.out], by rw [List.length_drop, HL.out]; omega, by omega, HB2.out, vls_of ho3 (by rw [vcells_append]), by rw [HRD.out, HS.out]; cases rd ((2 :: t).drop (2)) <;> simp, by rw [List.length_drop, HL.out, List.length_append]; simp; omega, Below.trans (by repeat (first | exact hb | refine Below.drew ?_ | refine dN ?_ _ | refine Below.al ?_ _ | refine Below.next ?_ (by assumption))) (grown_below (own_drew (World.ownsRow.alloc (World.ownsRow.alloc (World.ownsRow.alloc hV _) _) _)) hg3 (by simp; omega))⟩
              case measure => simp [slen]; omega
            · rw [if_neg (fun h => hx h.2)] at k1
              have hno := rd_none (by simp) k1
              have HN := Lib.hid hno
              clear k1 hno h0 h0o hBw h1 hg q1 b1 hV
              go_wp2
              go_ret2
              exact ⟨.slice none 0 0, by unfold rdE; rw [HRD.out, HN.out]; rfl, by unfold rdL; rw [HRD.out, HN.out]; exact vls_nil _ _, (by repeat (first | exact hb | refine Below.drew ?_ | refine dN ?_ _ | refine Below.al ?_ _ | refine Below.next ?_ (by assumption)))⟩
          · rw [if_neg (fun h => ht h.1)] at k1
            have hno := rd_none (by simp) k1
            have HN := Lib.hid hno
            clear k1 hno h0 h0o hBw b1 hV
            go_wp2
            go_ret2
            exact ⟨.slice none 0 0, by unfold rdE; rw [HRD.out, HN.out]; rfl, by unfold rdL; rw [HRD.out, HN.out]; exact vls_nil _ _, (by repeat (first | exact hb | refine Below.drew ?_ | refine dN ?_ _ | refine Below.al ?_ _ | refine Below.next ?_ (by assumption)))⟩
        · rw [if_neg b2] at k1
          by_cases b3 : b = 3
          · subst b3
            rw [if_pos rfl] at k1
            have k0 : ∀ o, (wr.alloc o).cell? ad = some (.int .u8 3) := h0o
            by_cases h8 : 8 ≤ t.length
            · rw [if_pos h8] at k1
              obtain ⟨A3, hmid0, hB3⟩ := mid_bytes (some ad) L c' 1 9 (by decide) (by omega) hq
              have hmid : ∀ W, (Instr.slice 24 (.slice (some ad) L c') (some (.int .i64 1)) (some (.int .i64 9)) none).run Tryd.prog W = .ok (.slice A3 8 (c' - 1)) W := hmid0
              have hB8 : Brd wr A3 (t.take 8) := hB3 wr _ hBw HL.out
              obtain ⟨A2, hcut0, hB2⟩ := cut_bytes (some ad) (L - 9) c' 9 (by omega)
              rw [Nat.sub_add_cancel (by omega)] at hcut0 hB2
              have hcut : ∀ W, (Instr.slice 24 (.slice (some ad) L c') (some (.int .i64 9)) none none).run Tryd.prog W = .ok (.slice A2 (L - 9) (c' - 9)) W := hcut0
              have HB2 := Lib.hid (hB2 w _ hTw HL.out)
              have HS := Lib.hid (rd_some k1)
              clear hcut0 hB2
              clear hmid0 hB3 k1 h0 h0o hBw b1 b2
              go_wp2
              go_loop [7, 43] (fun u i => ∃ k : Nat, k ≤ 8 ∧ i = .int .i64 k ∧ u = .int .u64 ((fold256 (t.take k) : Nat) : Int)) (fun _ i => 8 - (intOf i).toNat)
              case atStart => exact ⟨0, by omega, rfl, rfl⟩
              case round =>
                obtain ⟨k, hk, rfl, rfl⟩ := hrel
                by_cases hlt : k < 8
                · obtain ⟨ad3, rfl, hcell⟩ := hB8.at_ (k := k) (by rw [List.length_take]; omega)
                  have hco : ∀ o, (wr.alloc o).cell? (ad3.add k) = some (.int .u8 ((t.take 8)[k]'(by rw [List.length_take]; omega)).toNat) := fun o => (World.cell?_alloc_lt wr o _ (World.block_lt_of_cell? wr _ hcell)).trans hcell
                  have hF := fold_take (q := t) (k := k) (by omega)
                  rw [show t[k] = (t.take 8)[k]'(by rw [List.length_take]; omega) by simp] at hF
                  have hl := fold_take_lt t k (by omega)
                  have hb9 := ((t.take 8)[k]'(by rw [List.length_take]; omega)).toNat_lt
                  have HF := Lib.hid hF
                  clear hF hcell hmid
                  generalize fold256 (t.take k) = f at *
                  generalize ((t.take 8)[k]'(by rw [List.length_take]; omega)).toNat = b at *
                  go_wp2
                  go_round
                  case rel => exact ⟨k + 1, by omega, by go_num, by rw [HF.out]; go_num⟩
                  case measure => simp [intOf]; omega
                · obtain rfl : k = 8 := by omega
                  have hl : fold256 (t.take 8) < 18446744073709551616 := by
                    have h1 := fold_lt (t.take 8)
                    rw [List.length_take, Nat.min_eq_left h8] at h1
                    exact Nat.lt_of_lt_of_le h1 (by decide)
                  have hx : IntKind.i64.wrap (IntKind.u64.wrap ((fold256 (t.take 8) : Int) - 9223372036854775808)) = numOf (t.take 8) := sub_back hl
                  generalize fold256 (t.take 8) = f at *
                  generalize numOf (t.take 8) = y at *
                  clear hmid hB8
                  go_wp2
                  go_region_held3 (fun w' => w'.cell? ⟨wr.heap.size, 0, none⟩ = some (.int .u8 1) ∧ w'.cell? ⟨wr.heap.size, 1, none⟩ = some (.int .i64 y) ∧ w'.cell? ⟨wr.heap.size, 2, none⟩ = some (.string ⟨#[]⟩) ∧ w'.cell? ⟨wr.heap.size, 3, none⟩ = some (.bool false)) (first | assumption | simp [*, go_sem, World.cell?_alloc_past])
                    ((refine step_append_src _ (by rfl) (.tmp 86) (.tmp 88) 22 22 (by rfl) w.heap.size 43 _ _ 4 40 Tryd.underlying22 hi4 hv0 hv1 hv2 rfl _ _ _ (by rfl) (own_drew (World.ownsRow.alloc (World.ownsRow.alloc hV _) _)) _ 1 (vcells [⟨1, y, ⟨#[]⟩, false⟩]) (by rfl) (src_rd Tryd.underlying22 _ (rd_lit (by first | rfl | simp) rfl rfl) (by decide) (vcells_one _)) (by simp only [maxLen]; omega) (by omega) (by simp; omega) ?_; intro v3 w3 ho3 hg3 ha3; have hS := keepbox (by assumption) hg3 hne))
                  clear hS ha3 hTw hne
                  show _ ∧ _
                  go_roundw
                  case rel => exact ⟨A2, c' - 9, (3 :: t).drop (9), acc ++ [⟨1, y, ⟨#[]⟩, false⟩], by rw [List.length_drop, HL.out], by rw [List.length_drop, HL.out]; omega, by omega, HB2.out, vls_of ho3 (by rw [vcells_append]), by rw [HRD.out, HS.out]; cases rd ((3 :: t).drop (9)) <;> simp, by rw [List.length_drop, HL.out, List.length_append]; simp; omega, Below.trans (by repeat (first | exact hb | refine Below.drew ?_ | refine dN ?_ _ | refine Below.al ?_ _ | refine Below.next ?_ (by assumption))) (grown_below (own_drew (World.ownsRow.alloc (World.ownsRow.alloc hV _) _)) hg3 (by simp; omega))⟩
                  case measure => simp [slen]; omega
            · rw [if_neg h8] at k1
              have hno := rd_none (by simp) k1
              have HN := Lib.hid hno
              clear k1 hno h0 h0o hBw b1 b2 hV
              go_wp2
              go_ret2
              exact ⟨.slice none 0 0, by unfold rdE; rw [HRD.out, HN.out]; rfl, by unfold rdL; rw [HRD.out, HN.out]; exact vls_nil _ _, (by repeat (first | exact hb | refine Below.drew ?_ | refine dN ?_ _ | refine Below.al ?_ _ | refine Below.next ?_ (by assumption)))⟩
          · rw [if_neg b3] at k1
            by_cases b4 : b = 4
            · subst b4
              rw [if_pos rfl] at k1
              have k0 : ∀ o, (wr.alloc o).cell? ad = some (.int .u8 4) := h0o
              clear h0 h0o b1 b2 b3
              go_wp2
              go_loop [6] (fun n => ∃ j : Nat, j ≤ t.length ∧ n = .int .i64 ((j + 1 : Nat) : Int) ∧ ∀ y ∈ t.take j, y ≠ 0) (fun n => L + 1 - (intOf n).toNat)
              case atStart => exact ⟨0, Nat.zero_le _, rfl, by simp⟩
              case round =>
                obtain ⟨j, hj, rfl, hall⟩ := hrel
                have HA := Lib.hid hall
                clear hall
                by_cases hjl : j < t.length
                · have hcell : wr.cell? (ad.add (j + 1)) = some (.int .u8 (t[j].toNat : Int)) := by
                    obtain ⟨ad', e, hc⟩ := hBw.at_ (k := j + 1) (by simp; omega)
                    cases e
                    exact hc
                  have hco : ∀ o, (wr.alloc o).cell? (ad.add (j + 1)) = some (.int .u8 (t[j].toNat : Int)) := fun o => (World.cell?_alloc_lt wr o _ (World.block_lt_of_cell? wr _ hcell)).trans hcell
                  have hco2 : ∀ o, (wr.alloc o).cell? ⟨ad.block, ad.off + (j + 1), none⟩ = some (.int .u8 (t[j].toNat : Int)) := fun o => hco o
                  by_cases hz0 : t[j] = 0
                  · have hu : upto0 t = t.take j := by
                      have e : t = t.take j ++ 0 :: t.drop (j + 1) := by
                        conv => lhs; rw [← List.take_append_drop j t, List.drop_eq_getElem_cons hjl, hz0]
                      have := upto0_text (t.take j) (t.drop (j + 1)) HA.out
                      rw [← e] at this
                      exact this
                    have hcz : t.contains 0 = true := by
                      rw [List.contains_iff_mem]
                      exact hz0 ▸ List.getElem_mem hjl
                    have hjn : (upto0 t).length = j := by rw [hu, List.length_take]; omega
                    have hb0 : (t[j].toNat : Int) = 0 := by rw [hz0]; rfl
                    obtain ⟨A3, hmid0, hB3⟩ := mid_bytes (some ad) L c' 1 (j + 1) (by omega) (by omega) hq
                    have hmid : ∀ W, (Instr.slice 24 (.slice (some ad) L c') (some (.int .i64 1)) (some (.int .i64 ((j : Int) + 1))) none).run Tryd.prog W = .ok (.slice A3 j (c' - 1)) W := hmid0
                    have hB8 : Brd wr A3 (t.take j) := hB3 wr _ hBw HL.out
                    have hq1 := fun o => Brd.conv (Rd.alloc hB8 o : Brd (wr.alloc o) A3 (t.take j)) (c' - 1)
                    rw [show (t.take j).length = j by rw [List.length_take]; omega] at hq1
                    rw [hu] at k1
                    rw [show (t.take j).length = j by rw [List.length_take]; omega] at k1
                    have gr := rright_any ⟨2, 0, ⟨(t.take j).toArray⟩, false⟩ (by show (t.take j).toArray.size ≤ _; simp; omega)
                    have hrs : rightB ⟨2, 0, ⟨(t.take j).toArray⟩, false⟩ = soundB ⟨(t.take j).toArray⟩ := by unfold rightB; rw [if_neg (show ¬ (2 : Int) = 0 by decide), if_neg (show ¬ (2 : Int) = 1 by decide), if_pos rfl]; simp
                    rw [hrs] at gr
                    generalize t.take j = s at *
                    cases hso : soundB ⟨s.toArray⟩ with
                    | false =>
                      rw [hso] at gr
                      rw [if_neg (fun h => by rw [hso] at h; cases h.2)] at k1
                      have hno := rd_none (by simp) k1
                      have HN := Lib.hid hno
                      have GR := Lib.hid gr
                      clear k1 hno hV gr hso hrs hu hjn hcz hmid0 hB3 hB8 hcell hz0
                      go_wp2_with (go_at_call 30; (with_reducible refine (GR.out _).mono ?_); rintro e w2 ⟨rfl, hb2⟩)
                      go_ret2
                      exact ⟨.slice none 0 0, by unfold rdE; rw [HRD.out, HN.out]; rfl, by unfold rdL; rw [HRD.out, HN.out]; exact vls_nil _ _, (by repeat (first | exact hb | refine Below.drew ?_ | refine dN ?_ _ | refine Below.al ?_ _ | refine Below.next ?_ (by assumption)))⟩
                    | true =>
                      rw [hso] at gr
                      rw [if_pos ⟨hcz, hso⟩] at k1
                      have GR := Lib.hid gr
                      obtain ⟨A2, hcut0, hB2⟩ := cut_bytes (some ad) (L - (j + 2)) c' (j + 2) (by omega)
                      rw [Nat.sub_add_cancel (by omega)] at hcut0 hB2
                      have hcut : ∀ W, (Instr.slice 24 (.slice (some ad) L c') (some (.int .i64 ((j : Int) + 2))) none none).run Tryd.prog W = .ok (.slice A2 (L - (j + 2)) (c' - (j + 2))) W := hcut0
                      have HB2 := Lib.hid (hB2 w _ hTw HL.out)
                      have HS := Lib.hid (rd_some k1)
                      clear hcut0 hB2
                      have hcutb : ∀ W, (Instr.slice 24 (.slice (some ad) L c') (some (.int .i64 ((j : Int) + 1 + 1))) none none).run Tryd.prog W = .ok (.slice A2 (L - (j + 2)) (c' - (j + 2))) W := hcut
                      clear k1 gr hso hrs hu hjn hcz hmid0 hB3 hB8 hcell hz0
                      go_wp2_with (go_at_call 30; (with_reducible refine (GR.out _).mono ?_); rintro e w2 ⟨rfl, hb2⟩; obtain ⟨hc2, hf2⟩ := bcell hb2; have hzw : wr.heap.size < w2.heap.size := by have := hb2.size; simp at this; omega)
                      go_region_held3 (fun w' => w'.cell? ⟨wr.heap.size, 0, none⟩ = some (.int .u8 2) ∧ w'.cell? ⟨wr.heap.size, 1, none⟩ = some (.int .i64 0) ∧ w'.cell? ⟨wr.heap.size, 2, none⟩ = some (.string ⟨s.toArray⟩) ∧ w'.cell? ⟨wr.heap.size, 3, none⟩ = some (.bool false)) (first | assumption | simp [*, go_sem])
                        ((refine step_append_src _ (by rfl) (.tmp 86) (.tmp 88) 22 22 (by rfl) w.heap.size 43 _ _ 4 40 Tryd.underlying22 hi4 hv0 hv1 hv2 rfl _ _ _ (by rfl) (own_drew (World.ownsRow.alloc (own_below (World.ownsRow.alloc hV _) hb2) _)) _ 1 (vcells [⟨2, 0, ⟨s.toArray⟩, false⟩]) (by rfl) (src_rd Tryd.underlying22 _ (rd_lit (by first | rfl | simp) rfl rfl) (by decide) (vcells_one _)) (by simp only [maxLen]; omega) (by omega) (by simp; omega) ?_; intro v3 w3 ho3 hg3 ha3; have hS := keepbox (by assumption) hg3 hne))
                      clear hS ha3 hTw hne
                      show _ ∧ _
                      go_roundw
                      case rel => exact ⟨A2, c' - (j + 2), (4 :: t).drop ((j + 2)), acc ++ [⟨2, 0, ⟨s.toArray⟩, false⟩], by rw [List.length_drop, HL.out], by rw [List.length_drop, HL.out]; omega, by omega, HB2.out, vls_of ho3 (by rw [vcells_append]), by rw [HRD.out, HS.out]; cases rd ((4 :: t).drop ((j + 2))) <;> simp, by rw [List.length_drop, HL.out, List.length_append]; simp; omega, Below.trans (by repeat (first | exact hb | refine Below.drew ?_ | refine dN ?_ _ | refine Below.al ?_ _ | refine Below.next ?_ (by assumption))) (grown_below (own_drew (World.ownsRow.alloc (own_below (World.ownsRow.alloc hV _) hb2) _)) hg3 (by simp; omega))⟩
                      case measure => simp [slen]; omega
                  · have hb0 : ((t[j].toNat : Int) == 0) = false := ne_byte (c := 0) hz0
                    have hb1 : ((t[j].toNat : Int) != 0) = true := by simpa using hb0
                    have HZ := Lib.hid hz0
                    have HT := Lib.hid (List.take_succ_eq_append_getElem hjl)
                    clear hz0 k1 hcell
                    go_wp2
                    go_round
                    case rel => exact ⟨j + 1, by omega, by go_num, by rw [HT.out]; intro y hy; rcases List.mem_append.1 hy with h | h; exact HA.out y h; rw [List.mem_singleton.1 h]; exact HZ.out⟩
                    case measure => simp [intOf]; omega
                · have hcz : t.contains 0 = false := by
                    rw [← Bool.not_eq_true, List.contains_iff_mem]
                    intro hmem
                    exact HA.out 0 (by rw [List.take_of_length_le (by omega)]; exact hmem) rfl
                  rw [if_neg (fun h => by rw [hcz] at h; cases h.1)] at k1
                  have hno := rd_none (by simp) k1
                  have HN := Lib.hid hno
                  clear k1 hno hV hcz
                  go_wp2
                  go_ret2
                  exact ⟨.slice none 0 0, by unfold rdE; rw [HRD.out, HN.out]; rfl, by unfold rdL; rw [HRD.out, HN.out]; exact vls_nil _ _, (by repeat (first | exact hb | refine Below.drew ?_ | refine dN ?_ _ | refine Below.al ?_ _ | refine Below.next ?_ (by assumption)))⟩
            · rw [if_neg b4] at k1
              have hno := rd_none (by simp) k1
              have HN := Lib.hid hno
              have n1 : ((b.toNat : Int) == 1) = false := ne_byte b1
              have n2 : ((b.toNat : Int) == 2) = false := ne_byte b2
              have n3 : ((b.toNat : Int) == 3) = false := ne_byte b3
              have n4 : ((b.toNat : Int) == 4) = false := ne_byte b4
              clear k1 hno hV h0 hBw b1 b2 b3 b4
              go_wp2
              go_ret2
              exact ⟨.slice none 0 0, by unfold rdE; rw [HRD.out, HN.out]; rfl, by unfold rdL; rw [HRD.out, HN.out]; exact vls_nil _ _, (by repeat (first | exact hb | refine Below.drew ?_ | refine dN ?_ _ | refine Below.al ?_ _ | refine Below.next ?_ (by assumption)))⟩
end Go.Proofs.YtdlgobakoomkpaaDoor
