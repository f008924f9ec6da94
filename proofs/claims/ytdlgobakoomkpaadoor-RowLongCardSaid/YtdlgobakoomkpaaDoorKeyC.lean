/-
  Package key: Bytes.
-/
import Derived.Test.YtdlgobakoomkpaaDoorVrd
import Derived.Test.YtdlgobakoomkpaaDoorCellF
namespace Go.Proofs.YtdlgobakoomkpaaDoor
open Go.RowKit

/-- What Bytes answers. -/
def kbB (l : List Val) : List UInt8 := if l.all rightB = true then encs l else []
def kbE (l : List Val) : Int := if l.all rightB = true then 0 else 3

set_option maxHeartbeats 1000000 in
theorem kbytes_any (A : Option Addr) (c : Nat) (l : List Val) (w : World) (hl : l.length ≤ 1000000) (hr : Vrd w A l) (hok : ∀ x ∈ l, ValOk x) (hE : Env w) :
    Calls Tryd.prog 16 #[.slice A l.length c] w fun e w' => ∃ v', e = .returned (.tuple #[v', .int .i64 (kbE l)]) ∧ Byt w' w.heap.size v' (kbB l) ∧ Below w.heap.size w w' := by
  go_enter Tryd.func16, Tryd.ntmps16
  go_wp2
  go_loopw [4, 9] (fun p i wr => ∃ k : Nat, k ≤ l.length ∧ i = .int .i64 k ∧ (l.take k).all rightB = true ∧ Byt wr w.heap.size p (encs (l.take k)) ∧ Below w.heap.size w wr) (fun _ i _ => l.length - (intOf i).toNat)
  case atStart => exact ⟨0, Nat.zero_le _, rfl, rfl, byt_nil _ _, Below.refl _ _⟩
  case round =>
    obtain ⟨k, hk, rfl, ha, ho, hb⟩ := hrel
    by_cases hlt : k < l.length
    · obtain ⟨ad, rfl, c0, c1, c2, c3, _⟩ := (hr.below hb).at_ hlt
      have hx := hok _ (List.getElem_mem hlt)
      have gr := right_any l[k] (by have := hx.s; unfold maxLen at this; exact this)
      have hz := hb.size
      have hEr := hE.next hb
      have hT := Lib.hid (take_val hlt)
      have hA := fun h => all_next hlt ha h
      have hN := fun h => all_not hlt h
      have hlen : (encs (l.take k)).length ≤ 62000000 := by have := encs_len _ ha; rw [List.length_take] at this; omega
      generalize l[k] = x at *
      cases hR : rightB x with
      | false =>
        rw [hR] at gr
        have GR := Lib.hid gr
        have hn := hN hR
        clear gr hN hA hR ho ha
        go_wp2_with (go_at_call 38; (with_reducible refine (GR.out _ (hEr.next (by repeat (first | exact Below.refl _ _ | refine Below.drew ?_ | refine below_drewN ?_ _ | refine Below.al ?_ _ | refine Below.next ?_ (by assumption))))).mono ?_); rintro e w1 ⟨rfl, hb1⟩)
        go_ret2
        exact ⟨.slice none 0 0, by rw [show kbE l = 3 from if_neg (by simp [hn])]; rfl, by rw [show kbB l = [] from if_neg (by simp [hn])]; exact byt_nil _ _, (hb.alloc hz _).trans (hb1.mono (by simp; omega))⟩
      | true =>
        rw [hR] at gr
        have GR := Lib.hid gr
        have gv := kappendValue_any x hR (in63 hx)
        have GV := Lib.hid gv
        have ha' := hA hR
        clear gr gv hN hA hR ha
        go_wp2_with (first
          | (go_at_call 38; (with_reducible refine (GR.out _ (hEr.next (by repeat (first | exact Below.refl _ _ | refine Below.drew ?_ | refine below_drewN ?_ _ | refine Below.al ?_ _ | refine Below.next ?_ (by assumption))))).mono ?_); rintro e w1 ⟨rfl, hb1⟩; obtain ⟨hc, hf⟩ := bcell hb1)
          | (go_at_call 39; refine (GV.out u4 _ w.heap.size w1 (own_below (own_below ho ((Below.refl _ _).alloc (Nat.le_refl _) _)) hb1) (by have := hb1.size; simp at this; omega) (by omega)).mono ?_; rintro e w2 ⟨v2, rfl, ho2, hu2⟩))
        go_roundw
        case rel => exact ⟨k + 1, by omega, by go_num, ha', by rw [hT.out, encs_snoc]; exact ho2, ((hb.alloc hz _).trans (hb1.mono (by simp; omega))).trans (hu2.old (own_below (own_below ho ((Below.refl _ _).alloc (Nat.le_refl _) _)) hb1) (by have := hb1.size; simp at this; omega))⟩
        case measure => simp [intOf]; omega
    · obtain rfl : k = l.length := by omega
      rw [List.take_length] at ha ho
      clear hok hr
      go_wp2
      go_ret2
      exact ⟨u4, by rw [show kbE l = 0 from if_pos ha]; rfl, by rw [show kbB l = encs l from if_pos ha]; exact ho, hb⟩
end Go.Proofs.YtdlgobakoomkpaaDoor
