/-
  The laws' own list of kinds: the first twelve bytes, as kinds, in a row of its own.
-/
import Derived.Test.YtdlgobakoomkpaaDoorRowA
namespace Go.Proofs.YtdlgobakoomkpaaDoor
open Go.RowKit

theorem kds_nil (w : World) (base : Nat) : Kds w base (.slice none 0 0) [] := World.ownsRow_nil _ _ _ _
theorem take12_in {l : List UInt8} {k : Nat} (hk : k < l.length) (h : k < 12) : (l.take (k + 1)).take 12 = (l.take k).take 12 ++ [l[k]] := by
  rw [List.take_of_length_le (l := l.take (k + 1)) (by rw [List.length_take]; omega), List.take_of_length_le (l := l.take k) (by rw [List.length_take]; omega), List.take_succ_eq_append_getElem hk]
theorem take12_out {l : List UInt8} {k : Nat} (h : 12 ≤ k) : (l.take (k + 1)).take 12 = (l.take k).take 12 := by
  rw [List.take_take, List.take_take, Nat.min_eq_left (by omega), Nat.min_eq_left h]

set_option maxHeartbeats 1000000 in
theorem kinds_any (A : Option Addr) (c : Nat) (l : List UInt8) (w : World) (ha : Brd w A l) (hl : l.length ≤ 9223372036854775807) :
    Calls Tryd.prog 33 #[.slice A l.length c] w fun e w' => ∃ v', e = .returned v' ∧ Kds w' w.heap.size v' (l.take 12) ∧ Below w.heap.size w w' := by
  obtain ⟨i0, hi0, hz0, hz1, hz2⟩ := info_parts info_kind
  go_enter Tryd.func33, Tryd.ntmps33
  go_wp2
  go_loopw [3, 8] (fun v i wr => ∃ k : Nat, k ≤ l.length ∧ i = .int .i64 k ∧ Kds wr w.heap.size v ((l.take k).take 12) ∧ Below w.heap.size w wr) (fun _ i _ => l.length - (intOf i).toNat)
  case atStart => exact ⟨0, Nat.zero_le _, rfl, by simpa using kds_nil w w.heap.size, Below.refl _ _⟩
  case round =>
    obtain ⟨k, hk, rfl, ho, hb⟩ := hrel
    have hz := hb.size
    by_cases hlt : k < l.length
    · obtain ⟨ad, rfl, hcell⟩ := (ha.below hb).at_ hlt
      by_cases h12 : k < 12
      · have HT := Lib.hid (take12_in hlt h12)
        have hlen : ((l.take k).take 12).length ≤ 12 := List.length_take_le _ _
        generalize l[k] = b at *
        clear ha
        go_wp2_with (at_builtin; refine wpList_append_src _ rfl (.tmp 15) (.tmp 17) 49 49 rfl w.heap.size 41 _ _ 1 1 Tryd.underlying49 hi0 hz0 hz1 hz2 rfl _ _ _ rfl (World.ownsRow.alloc ho _) _ 1 (bcells [b]) rfl (src_rd Tryd.underlying49 _ (rd_lit (by first | rfl | simp) rfl rfl) (by decide) (bcells_one _)) (by simp only [maxLen]; omega) (by omega) (by simp; omega) ?_; intro v1 w1 hown1 hg1 ha1)
        go_roundw
        case rel => exact ⟨k + 1, by omega, by go_num, by rw [HT.out]; exact kds_of hown1 (by simp [bcells]), (Below.alloc hb hz _).trans (grown_below (World.ownsRow.alloc ho _) hg1 (by simp; omega))⟩
        case measure => simp [intOf]; omega
      · have HT := Lib.hid (take12_out (l := l) (k := k) (by omega))
        generalize l[k] = b at *
        clear ha
        go_wp2
        go_roundw
        case rel => exact ⟨k + 1, by omega, by go_num, by rw [HT.out]; exact ho, hb⟩
        case measure => simp [intOf]; omega
    · obtain rfl : k = l.length := by omega
      rw [List.take_length] at ho
      go_wp2
      go_ret
      exact ⟨_, rfl, ho, hb⟩
end Go.Proofs.YtdlgobakoomkpaaDoor
