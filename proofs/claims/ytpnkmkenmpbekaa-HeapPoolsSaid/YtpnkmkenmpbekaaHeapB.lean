/-
  Package heap: pools, New, Pages, pageAt, noteRoom.
-/
import Derived.Test.YtpnkmkenmpbekaaHeapA
import Derived.Test.YtpnkmkenmpbekaaHeapP
import Derived.Deep.RegionHeld3
import Derived.Deep.QuietTactic
import Derived.BigQuiet
import Derived.StillTailTactics
namespace Go.Proofs.Ytpnkmkenmpbekaa
open Go.RowKit
set_option linter.unusedVariables false

theorem own_shape {w : World} {base n size : Nat} {e : TypeId} {v : Value} {xs : List Value} (h : w.ownsRow base e size v n xs) (h0 : 0 < n) : ∃ g c, v = .slice (some ⟨g, 0, none⟩) n c ∧ base ≤ g ∧ n ≤ c ∧ c ≤ 9223372036854775807 := by
  rcases h.2 with ⟨_, h0'⟩ | ⟨g, cap, cur, rfl, hb, _, hc, hm, _⟩
  · omega
  · exact ⟨g, cap, rfl, hb, hc, by unfold maxLen at hm; omega⟩
theorem idx_ptr (g n c k : Nat) (h : k < n) (W : World) : (Instr.indexAt 147 (.slice (some ⟨g, 0, none⟩) n c) (.int .i64 (k : Int))).run Try.prog W = .ok (.pointer (some ⟨g, k, none⟩)) W := by
  rw [run_indexAt_slice (h := by kernel_rfl), if_pos (by omega)]
  rw [show Try.prog.elem 147 = 35 by kernel_rfl, show (sizeOf 35).run Try.prog W = .ok 1 W by kernel_rfl]
  simp [Result.andThen, Addr.add_lit]
theorem info_ptr : (Try.prog.info? 35).map (fun i => (i.zero, i.size, i.bytes)) = some (some (.pointer none), 1, 8) := by kernel_rfl
theorem size_ptr (W : World) : (sizeOf 35).run Try.prog W = .ok 1 W := by kernel_rfl
theorem zero_ptr (W : World) : (zeroValue 35).run Try.prog W = .ok (.pointer none) W := by kernel_rfl
theorem newpool_any (w : World) (k : Nat) (hk : k ≤ 256) :
    Calls Try.prog 43 #[.int .i64 (k : Int)] w fun e w' => e = .returned (.tuple #[.pointer (some ⟨w.heap.size, 0, none⟩), .int .i64 0]) ∧ Pool w' w.heap.size k ∧ Below w.heap.size w w' := by
  go_enter Try.func43, Try.ntmps43
  go_wp2
  refine bodyPost_ret (v := .tuple #[.pointer (some ⟨w.heap.size, 0, none⟩), .int .i64 0]) (by simp [results, Try.results43, go_sem]) rfl ?_
  exact ⟨rfl, Bx.new w 146 _ _ rfl, (Below.refl _ _).alloc (Nat.le_refl _) _⟩
theorem left_any (w : World) (p n : Nat) (h : Pool w p n) :
    Calls Try.prog 44 #[.pointer (some ⟨p, 0, none⟩)] w fun e w' => e = .returned (.int .i64 (n : Int)) ∧ w' = w := by
  have c0 : w.cell? ⟨p, 0, none⟩ = some (.int .i64 (n : Int)) := h.cell 0
  go_enter Try.func44, Try.ntmps44
  go_wp2
  go_ret
  exact ⟨rfl, rfl⟩
theorem Room.zero {w : World} {base br g : Nat} {v : Value} {l : List Int} (h : Room w base br g v l) : Room w 0 0 g v l := ⟨own_le h.box (Nat.zero_le _), own_le h.row (Nat.zero_le _)⟩
theorem hnew_any (w : World) (p : Nat) :
    Calls Try.prog 45 #[.pointer (some ⟨p, 0, none⟩)] w fun e w' => ∃ h F, e = .returned (.pointer (some ⟨h, 0, none⟩)) ∧ Heap w' h p F [] ∧ Below w.heap.size w w' ∧ ∀ k, F k → w.heap.size ≤ k := by
  go_enter Try.func45, Try.ntmps45
  go_wp2_with fail
  refine (newroom_any w 0).mono ?_
  rintro e w1 ⟨rfl, hr, hb, hz⟩
  have hz' := Lib.hid hz
  clear hz
  go_wp2
  go_ret
  refine ⟨w1.heap.size, _, rfl, ⟨w.heap.size, .slice none 0 0, .slice none 0 0, [], ⟨Bx.new w1 149 _ _ rfl, World.ownsRow_nil _ _ _ _, (hr.alloc _).zero, rfl, fun i a P h => by simp at h, List.nodup_nil⟩, rfl⟩, hb.al _, ?_⟩
  rintro k (rfl | rfl | h | h | h)
  · exact hb.size
  · exact Nat.le_refl _
  · cases h
  · cases h
  · simp at h
section
variable {w : World} {h p g : Nat} {v rv : Value} {gs : List Nat} {Ps : List Pg} {rs : List Int}
theorem hpages_any (H : Hm w h p g v rv gs Ps rs) :
    Calls Try.prog 59 #[.pointer (some ⟨h, 0, none⟩)] w fun e w' => e = .returned (.int .i64 (Ps.length : Int)) ∧ w' = w := by
  have c1 : w.cell? ⟨h, 1, none⟩ = some v := H.box.cell 1
  obtain ⟨A, c, rfl, hn, hm, hr⟩ := own_form H.row
  rw [← H.len]
  clear hr H
  go_enter Try.func59, Try.ntmps59
  go_wp2
  go_ret
  exact ⟨rfl, rfl⟩
theorem pageAt_no (H : Hm w h p g v rv gs Ps rs) (n : Int) (hn : n < 0 ∨ (Ps.length : Int) ≤ n) :
    Calls Try.prog 90 #[.pointer (some ⟨h, 0, none⟩), .int .i64 n] w fun e w' => e = .returned (.pointer none) ∧ w' = w := by
  have hp := Lib.hid (hpages_any H)
  clear H
  by_cases h0 : n < 0
  · go_enter Try.func90, Try.ntmps90
    go_wp2
    go_ret
    exact ⟨rfl, rfl⟩
  · have h1 : (Ps.length : Int) ≤ n := by omega
    go_enter Try.func90, Try.ntmps90
    go_wp2_with (go_at_call 59; (with_reducible refine (hp.out).mono ?_); rintro e w1 ⟨rfl, hw1⟩; have hw := hw1.symm; subst hw)
    go_ret
    exact ⟨rfl, rfl⟩
theorem pageAt_yes (H : Hm w h p g v rv gs Ps rs) (i a : Nat) (hi : gs[i]? = some a) :
    Calls Try.prog 90 #[.pointer (some ⟨h, 0, none⟩), .int .i64 (i : Int)] w fun e w' => e = .returned (.pointer (some ⟨a, 0, none⟩)) ∧ w' = w := by
  have hp := Lib.hid (hpages_any H)
  have hlt := (List.getElem?_eq_some_iff.1 hi).1
  have c1 : w.cell? ⟨h, 1, none⟩ = some v := H.box.cell 1
  obtain ⟨q, c, rfl, _, hn, hm⟩ := own_shape H.row (by omega)
  have ix := idx_ptr q gs.length c i hlt
  have hce := (H.row.cellAt i (by omega)).trans (ptrs_get gs i hlt)
  have ha : gs[i] = a := (List.getElem?_eq_some_iff.1 hi).2
  rw [ha] at hce
  have hlen := H.len
  have hlt2 : ¬ (Ps.length : Int) ≤ (i : Int) := by omega
  clear H ha hi
  go_enter Try.func90, Try.ntmps90
  go_wp2_with (go_at_call 59; (with_reducible refine (hp.out).mono ?_); rintro e w1 ⟨rfl, hw1⟩; have hw := hw1.symm; subst hw)
  go_ret
  exact ⟨rfl, rfl⟩
/-- A room's list behind Set. -/
def putR (rs : List Int) (i : Nat) (r : Int) : List Int := if i = rs.length then rs ++ [r] else rs.set i r
theorem room_set (w : World) (g : Nat) (rv : Value) (rs : List Int) (i : Nat) (r : Int) (h : Room w 0 0 g rv rs) (hle : i ≤ rs.length) (h256 : i < 256) (hr : -1 ≤ r ∧ r ≤ 512) :
    Calls Try.prog 15 #[.pointer (some ⟨g, 0, none⟩), .int .i64 (i : Int), .int .i64 r] w fun e w' => e = .returned (.int .i64 0) ∧ ∃ v', Only w w' g rv v' ∧ Room w' 0 0 g v' (putR rs i r) := by
  have hc : cap r = r := by unfold cap; omega
  unfold putR
  by_cases hi : i = rs.length
  · rw [if_pos hi, hi]
    have := set_app_only w 0 0 g rv rs r h (Nat.zero_le _) (by omega)
    rw [hc] at this
    exact this
  · rw [if_neg hi]
    have := set_put_only w 0 0 g rv rs i r h h256 (by omega)
    rw [hc] at this
    refine this.mono ?_
    rintro e w' ⟨rfl, h1, h2⟩
    exact ⟨rfl, _, h1, h2⟩
theorem note_any (w : World) (h p g : Nat) (v rv : Value) (gs : List Nat) (rs : List Int) (i a : Nat) (P : Pg) (hb : Bx w h 149 [.pointer (some ⟨p, 0, none⟩), v, .pointer (some ⟨g, 0, none⟩)])
    (hrow : w.ownsRow 0 35 1 v gs.length (ptrs gs)) (hr : Room w 0 0 g rv rs) (hi : gs[i]? = some a) (hP : Pge w a P) (hle : i ≤ rs.length) (h256 : i < 256) :
    Calls Try.prog 93 #[.pointer (some ⟨h, 0, none⟩), .int .i64 (i : Int)] w fun e w' => e = .returned (.tuple #[]) ∧ ∃ v', Only w w' g rv v' ∧ Room w' 0 0 g v' (putR rs i P.room) := by
  have hlt := (List.getElem?_eq_some_iff.1 hi).1
  obtain ⟨q, c, rfl, _, hn, hm⟩ := own_shape hrow (by omega)
  have ix := idx_ptr q gs.length c i hlt
  have ha : gs[i] = a := (List.getElem?_eq_some_iff.1 hi).2
  have hce := (hrow.cellAt i (by omega)).trans (ptrs_get gs i hlt)
  rw [ha] at hce
  have V1 : ({ w with drawn := w.drawn + 1 } : World).cell? ⟨h, 1, none⟩ = some (.slice (some ⟨q, 0, none⟩) gs.length c) := hb.cell 1
  have V2 : ({ w with drawn := w.drawn + 1 } : World).cell? ⟨h, 2, none⟩ = some (.pointer (some ⟨g, 0, none⟩)) := hb.cell 2
  have V3 : ({ w with drawn := w.drawn + 1 } : World).cell? ⟨q, i, none⟩ = some (.pointer (some ⟨a, 0, none⟩)) := hce
  have VP : Pge ({ w with drawn := w.drawn + 1 } : World) a P := hP
  have VR : Room ({ w with drawn := w.drawn + 1 } : World) 0 0 g rv rs := ⟨hr.box, hr.row⟩
  have VO : ∀ w' v', Only ({ w with drawn := w.drawn + 1 } : World) w' g rv v' → Only w w' g rv v' := fun w' v' o => ⟨o.os, o.tape, o.output, o.size, o.block, o.own⟩
  have HS := Lib.hid (room_set _ g rv rs i P.room VR hle h256 (room_le P))
  clear hb hrow hr hce hP VR ha
  go_enter Try.func93, Try.ntmps93
  go_wp2_with fail
  refine wp_region_still_tail 13 (by kernel_rfl) (by kernel_rfl) ?_
  simp only [List.take_succ_cons, List.take_zero, List.drop_succ_cons, List.drop_zero]
  generalize ({ w with drawn := w.drawn + 1 } : World) = V at *
  repeat (first | (with_reducible refine wpStill_step ?_; intro K hK; go_simp; with_reducible refine hK _ ?_; clear hK K) | (with_reducible refine wpStill_step ?_; intro K hK; go_simp; with_reducible refine ⟨_, (roomE_any V a P VP), hK _ ?_⟩; clear hK K))
  with_reducible refine wpStill_nil ?_
  go_wp2_with fail
  refine HS.out.mono ?_
  rintro e w2 ⟨rfl, v', o2, r2⟩
  go_wp2
  go_end0
  exact ⟨rfl, v', VO _ _ o2, r2⟩
end
end Go.Proofs.Ytpnkmkenmpbekaa
