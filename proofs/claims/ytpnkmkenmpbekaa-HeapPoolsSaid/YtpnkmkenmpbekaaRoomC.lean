/-
  lapidarylaw06.awake: the document's example of room holds: true; of what was there nothing has turned.
-/
import Derived.Test.YtpnkmkenmpbekaaRoomB
namespace Go.Proofs.Ytpnkmkenmpbekaa
open Go.RowKit

theorem found_b {i : Nat} {ok : Bool} (h : Found [5, 50, 50] 6 i ok) : i = 1 ∧ ok = true := by
  cases ok with
  | false =>
    have := (h.2 rfl).2 1 (by decide)
    simp at this
  | true =>
    obtain ⟨h1, h2, h3⟩ := h.1 rfl
    have h1' : i < 3 := h1
    have : i = 0 ∨ i = 1 ∨ i = 2 := by omega
    rcases this with rfl | rfl | rfl
    · simp at h2
    · exact ⟨rfl, rfl⟩
    · have := h3 1 (by decide)
      simp at this
theorem found_c {i : Nat} {ok : Bool} (h : Found [5, 50, 50] 51 i ok) : ok = false := by
  cases ok with
  | false => rfl
  | true =>
    obtain ⟨h1, h2, h3⟩ := h.1 rfl
    have h1' : i < 3 := h1
    have : i = 0 ∨ i = 1 ∨ i = 2 := by omega
    rcases this with rfl | rfl | rfl <;> simp at h2
theorem set_next_any (w : World) (base br g : Nat) (v : Value) (l : List Int) (k : Nat) (r : Int) (h : Room w base br g v l) (hbase : br ≤ w.heap.size) (hk : l.length = k) (h1 : k < 256) :
    Calls Try.prog 15 #[.pointer (some ⟨g, 0, none⟩), .int .i64 (k : Int), .int .i64 r] w fun e w' => e = .returned (.int .i64 0) ∧ But br g w w' ∧ ∃ v', Room w' base br g v' (l ++ [cap r]) := by
  subst hk
  exact set_app w base br g v l r h hbase h1

set_option maxHeartbeats 1000000 in
theorem awake6_any (w : World) :
    Calls Try.prog 13 #[] w fun e w' => e = .returned (.bool true) ∧ Below w.heap.size w w' := by
  go_enter Try.func13, Try.ntmps13
  go_wp2_with (go_at_call 14; (with_reducible refine (newroom_any _ (w.heap.size + 2)).mono ?_); rintro e w1 ⟨rfl, hr1, hb1, hw1⟩; have hwle := Nat.le_of_eq hw1; have hwge := Nat.le_of_eq hw1.symm; clear hw1)
  have hlit : Rd (w1.alloc (.cells #[.int .i64 5, .int .i64 50, .int .i64 50] 3)) 1 (some ⟨w1.heap.size, 0, none⟩) 3 (icells [5, 50, 50]) := rd_lit rfl rfl rfl
  have hz1 := hb1.size
  go_loopw [11] (fun iv wr => ∃ (k : Nat) (v : Value), k ≤ 3 ∧ iv = .int .i64 (k : Int) ∧ Room wr w.heap.size (w.heap.size + 2) w.heap.size v (([5, 50, 50] : List Int).take k) ∧ Rd wr 1 (some ⟨w1.heap.size, 0, none⟩) 3 (icells [5, 50, 50]) ∧ Below w.heap.size w wr ∧ w.heap.size + 2 ≤ wr.heap.size) (fun iv _ => 3 - (intOf iv).toNat)
  case atStart => exact ⟨0, _, by omega, rfl, hr1.alloc _, hlit, hb1.alloc hz1 _, by simp; omega⟩
  case round =>
    obtain ⟨k, v, hk, rfl, hR, hL, hb, hz2⟩ := hrel
    have hz := hb.size
    have hkl : (([5, 50, 50] : List Int).take k).length = k := by rw [List.length_take]; simp; omega
    by_cases hlt : k < 3
    · obtain ⟨ad, e, hcell⟩ := hL.get (j := k) (by rw [icells_length]; exact hlt)
      cases e
      have hx : (icells [5, 50, 50])[k]'(by rw [icells_length]; exact hlt) = .int .i64 (([5, 50, 50] : List Int)[k]'hlt) := by unfold icells; rw [List.getElem_map]
      rw [hx, Addr.add_lit, Nat.zero_add] at hcell
      have hix := idx_int w1.heap.size 3 3 k hlt
      have hnx : ([5, 50, 50] : List Int).take (k + 1) = ([5, 50, 50] : List Int).take k ++ [cap (([5, 50, 50] : List Int)[k]'hlt)] := by
        have : k = 0 ∨ k = 1 ∨ k = 2 := by omega
        rcases this with rfl | rfl | rfl <;> rfl
      have HNX := Lib.hid hnx
      have gs := set_next_any wr w.heap.size (w.heap.size + 2) w.heap.size v _ k (([5, 50, 50] : List Int)[k]'hlt) hR hz2 hkl (by omega)
      have GS := Lib.hid gs
      clear hnx gs hx
      generalize ([5, 50, 50] : List Int)[k]'hlt = x at *
      go_wp2_with (go_at_call 15; (with_reducible refine (GS.out).mono ?_); rintro e w2 ⟨rfl, hb2, v2, hr2⟩)
      go_roundw
      case rel => exact ⟨k + 1, v2, by omega, by go_num, by rw [HNX.out]; exact hr2, ⟨hL.1, fun j u hu => by
        obtain ⟨ad, e, hc⟩ := hL.2 j u hu
        cases e
        exact ⟨_, rfl, (hb2.cell (by rw [badd]; show w1.heap.size < _; omega) (by rw [badd]; show w1.heap.size ≠ _; omega)).trans hc⟩⟩, hb.trans (hb2.below (Nat.le_refl _) (by omega)), Nat.le_trans hz2 hb2.size⟩
      case measure => simp [intOf]; omega
    · obtain rfl : k = 3 := by omega
      have gf := fun n => find_any wr w.heap.size (w.heap.size + 2) w.heap.size v _ n hR
      have GF := Lib.hid gf
      clear gf hL
      go_wp2_with fail
      refine (GF.out 6).mono ?_
      rintro e w2 ⟨i, ok, rfl, hf, hw2⟩
      subst hw2
      obtain ⟨rfl, rfl⟩ := found_b hf
      go_wp2_with fail
      refine (GF.out 51).mono ?_
      rintro e w3 ⟨i, ok, rfl, hf2, hw3⟩
      subst hw3
      obtain rfl := found_c hf2
      go_wp2
      go_ret
      exact ⟨rfl, hb⟩
end Go.Proofs.Ytpnkmkenmpbekaa
