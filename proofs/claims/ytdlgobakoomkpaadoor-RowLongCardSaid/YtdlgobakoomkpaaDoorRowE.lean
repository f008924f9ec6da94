/-
  Package row: match.
-/
import Derived.Test.YtdlgobakoomkpaaDoorRowP
import Derived.Test.YtdlgobakoomkpaaDoorKeyD
import Derived.Deep.QuietTactic
import Derived.BigQuiet
namespace Go.Proofs.YtdlgobakoomkpaaDoor
open Go.RowKit

theorem below_dN {B : Nat} {a w : World} (h : Below B a w) (n : Nat) : Below B a (w.drewN n) := ⟨h.os, h.tape, h.output, h.size, h.block⟩
theorem size_kind (W : World) : (sizeOf 41).run Tryd.prog W = .ok 1 W := by kernel_rfl
/-- The address of the k-th kind. -/
theorem idx_kind (ad : Addr) (n c k : Nat) (h : k < n) (W : World) : (Instr.indexAt 49 (.slice (some ad) n c) (.int .i64 (k : Int))).run Tryd.prog W = .ok (.pointer (some (ad.add k))) W := by
  rw [run_indexAt_slice (h := by kernel_rfl), if_pos (by omega)]
  rw [show Tryd.prog.elem 49 = 41 by kernel_rfl, size_kind]
  simp [Result.andThen]
theorem fits_drop {ks : List UInt8} {l : List Val} {k : Nat} (h1 : k < ks.length) (h2 : k < l.length) : fits (ks.drop k) (l.drop k) = (fit ks[k] l[k] && fits (ks.drop (k + 1)) (l.drop (k + 1))) := by
  rw [List.drop_eq_getElem_cons h1, List.drop_eq_getElem_cons h2, fits_cons]

set_option maxHeartbeats 2000000 in
theorem match_any (K A : Option Addr) (kc c : Nat) (ks : List UInt8) (l : List Val) (w : World) (hk : Brd w K ks) (hkl : ks.length ≤ 9223372036854775807) (hl : l.length ≤ 1000000) (hr : Vrd w A l) (hok : ∀ x ∈ l, ValOk x) (hE : Env w) :
    Calls Tryd.prog 46 #[.slice K ks.length kc, .slice A l.length c] w fun e w' => e = .returned (.int .i64 (mtE ks l)) ∧ Below w.heap.size w w' := by
  have gk := rowright_any K kc ks w hk hkl
  cases hK : kok ks with
  | false =>
    rw [hK] at gk
    rw [mtE_arg (.inl hK)]
    have GK := Lib.hid gk
    clear gk hK hok hr hE hk
    go_enter Tryd.func46, Tryd.ntmps46
    go_wp2_with (go_at_call 49; (with_reducible refine (GK.out).mono ?_); rintro e w1 ⟨rfl, hw1⟩; have hw := hw1.symm; subst hw)
    go_ret
    exact ⟨rfl, Below.refl _ _⟩
  | true =>
    rw [hK] at gk
    by_cases hlen : ks.length = l.length
    · have hne : ((ks.length : Int) != (l.length : Int)) = false := by rw [hlen]; simp
      have GK := Lib.hid gk
      have HL := Lib.hid hlen
      have hF3 := fun h => mtE_form (l := l) hK hlen h
      have hF8 := fun h h2 => mtE_type (l := l) hK hlen h h2
      have hF0 := fun h h2 => mtE_ok (l := l) hK hlen h h2
      clear gk hlen
      go_enter Tryd.func46, Tryd.ntmps46
      go_wp2_with (go_at_call 49; (with_reducible refine (GK.out).mono ?_); rintro e w1 ⟨rfl, hw1⟩; have hw := hw1.symm; subst hw)
      go_loopw [21] (fun i wr => ∃ k : Nat, k ≤ l.length ∧ i = .int .i64 k ∧ (l.take k).all rightB = true ∧ Below w.heap.size w wr) (fun i _ => l.length - (intOf i).toNat)
      case atStart => exact ⟨0, Nat.zero_le _, rfl, rfl, Below.refl _ _⟩
      case round =>
        obtain ⟨k, hkk, rfl, ha, hb⟩ := hrel
        by_cases hlt : k < l.length
        · obtain ⟨ad, rfl, c0, c1, c2, c3, _⟩ := (hr.below hb).at_ hlt
          have hx := hok _ (List.getElem_mem hlt)
          have gr := right_any l[k] (by have := hx.s; unfold maxLen at this; exact this)
          have hz := hb.size
          have hEr := hE.next hb
          have hA := fun h => all_next hlt ha h
          have hN := fun h => all_not hlt h
          generalize l[k] = x at *
          cases hR : rightB x with
          | false =>
            rw [hR] at gr
            have GR := Lib.hid gr
            have hn := Lib.hid (hF3 (hN hR))
            clear gr hN hA hR ha hF3 hF8 hF0
            go_wp2_with (go_at_call 38; (with_reducible refine (GR.out _ (hEr.next (by repeat (first | exact Below.refl _ _ | refine Below.drew ?_ | refine below_drewN ?_ _ | refine Below.al ?_ _ | refine Below.next ?_ (by assumption))))).mono ?_); rintro e w1 ⟨rfl, hb1⟩)
            go_ret
            exact ⟨by rw [hn.out]; rfl, (hb.alloc hz _).trans (hb1.mono (by simp; omega))⟩
          | true =>
            rw [hR] at gr
            have GR := Lib.hid gr
            have ha' := hA hR
            clear gr hN hA hR ha hF3 hF8 hF0
            go_wp2_with (go_at_call 38; (with_reducible refine (GR.out _ (hEr.next (by repeat (first | exact Below.refl _ _ | refine Below.drew ?_ | refine below_drewN ?_ _ | refine Below.al ?_ _ | refine Below.next ?_ (by assumption))))).mono ?_); rintro e w1 ⟨rfl, hb1⟩)
            go_roundw
            case rel => exact ⟨k + 1, by omega, by go_num, ha', (hb.alloc hz _).trans (hb1.mono (by simp; omega))⟩
            case measure => simp [intOf]; omega
        · obtain rfl : k = l.length := by omega
          rw [List.take_length] at ha
          have hF8 := hF8 ha
          have hF0 := hF0 ha
          clear hF3 ha hne
          obtain ⟨wa, hwa⟩ : ∃ wa : World, wa = wr := ⟨_, rfl⟩
          subst hwa
          go_wp2
          go_loopw [31] (fun i ws => ∃ k : Nat, k ≤ l.length ∧ i = .int .i64 k ∧ fits ks l = fits (ks.drop k) (l.drop k) ∧ Below w.heap.size w ws) (fun i _ => l.length - (intOf i).toNat)
          case atStart => exact ⟨0, Nat.zero_le _, rfl, rfl, hb⟩
          case round =>
            obtain ⟨k, hkk, rfl, hs, hb2⟩ := hrel
            by_cases hlt : k < l.length
            · have hltk : k < ks.length := by rw [HL.out]; exact hlt
              obtain ⟨ad, rfl, c0, c1, c2, c3, _⟩ := (hr.below hb2).at_ hlt
              obtain ⟨ak, rfl, hcell⟩ := (hk.below hb2).at_ hltk
              have ix0 := idx_kind ak ks.length kc k hltk
              rw [fits_drop hltk hlt] at hs
              have hz2 := hb2.size
              have hcl : ∀ o, (wr.alloc o).cell? (ak.add k) = some (.int .u8 ((ks[k]'hltk).toNat : Int)) := fun o => (World.cell?_alloc_lt wr o _ (World.block_lt_of_cell? wr _ hcell)).trans hcell
              have hff : fit (ks[k]'hltk) l[k] = ((l[k].k == 0) || (l[k].k == ((ks[k]'hltk).toNat : Int))) := rfl
              generalize l[k] = x at *
              generalize fit (ks[k]'hltk) x = f at *
              generalize ((ks[k]'hltk).toNat : Int) = b at *
              by_cases h0 : x.k = 0
              · have hk0 : (x.k != 0) = false := by simpa using h0
                have e0 : (x.k == 0) = true := by simpa using h0
                rw [e0, Bool.true_or] at hff
                rw [hff, Bool.true_and] at hs
                have HS := Lib.hid hs
                clear hs hff e0 h0 hF8 hF0 hcell
                go_wp2
                go_quiet (fail)
                go_wp2
                go_roundw
                case rel => exact ⟨k + 1, by omega, by go_num, HS.out, (by repeat (first | exact hb2 | refine Below.drew ?_ | refine below_dN ?_ _ | refine Below.al ?_ _ | refine Below.next ?_ (by assumption)))⟩
                case measure => simp [intOf]; omega
              · have hk0 : (x.k != 0) = true := by simpa using h0
                have e0 : (x.k == 0) = false := by simpa using h0
                rw [e0, Bool.false_or] at hff
                by_cases hkb : x.k = b
                · have hkb0 : (x.k != b) = false := by simpa using hkb
                  have e1 : (x.k == b) = true := by simpa using hkb
                  rw [e1] at hff
                  rw [hff, Bool.true_and] at hs
                  have HS := Lib.hid hs
                  clear hs hff e0 e1 h0 hkb hF8 hF0 hcell
                  go_wp2
                  go_quiet (fail)
                  go_wp2
                  go_roundw
                  case rel => exact ⟨k + 1, by omega, by go_num, HS.out, (by repeat (first | exact hb2 | refine Below.drew ?_ | refine below_dN ?_ _ | refine Below.al ?_ _ | refine Below.next ?_ (by assumption)))⟩
                  case measure => simp [intOf]; omega
                · have hkb0 : (x.k != b) = true := by simpa using hkb
                  have e1 : (x.k == b) = false := by simpa using hkb
                  rw [e1] at hff
                  rw [hff, Bool.false_and] at hs
                  have HS := Lib.hid (hF8 hs)
                  clear hs hff e0 e1 h0 hkb hF8 hF0 hcell
                  go_wp2
                  go_quiet (fail)
                  go_wp2
                  go_ret
                  exact ⟨by rw [HS.out]; rfl, (by repeat (first | exact hb2 | refine Below.drew ?_ | refine below_dN ?_ _ | refine Below.al ?_ _ | refine Below.next ?_ (by assumption)))⟩
            · obtain rfl : k = l.length := by omega
              rw [List.drop_length, ← HL.out, List.drop_length] at hs
              have HS := Lib.hid (hF0 hs)
              clear hs hF8 hF0 hr hk
              go_wp2
              go_ret
              exact ⟨by rw [HS.out]; rfl, hb2⟩
    · have hne : ((ks.length : Int) != (l.length : Int)) = true := by simp; omega
      rw [mtE_arg (.inr hlen)]
      have GK := Lib.hid gk
      clear gk hK hok hr hE hk hlen
      go_enter Tryd.func46, Tryd.ntmps46
      go_wp2_with (go_at_call 49; (with_reducible refine (GK.out).mono ?_); rintro e w1 ⟨rfl, hw1⟩; have hw := hw1.symm; subst hw)
      go_ret
      exact ⟨rfl, Below.refl _ _⟩
end Go.Proofs.YtdlgobakoomkpaaDoor
