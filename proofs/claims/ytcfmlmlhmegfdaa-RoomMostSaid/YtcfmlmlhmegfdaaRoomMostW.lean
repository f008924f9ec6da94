/-
  RoomMost: the walk: the law answers true; of what was there nothing has turned.
-/
import Derived.Test.YtcfmlmlhmegfdaaRoomC
namespace Go.Proofs.Ytcfmlmlhmegfdaa.roomMost
open Go.RowKit

def sev (k : Nat) : List Int := (List.range k).map fun i => ((i % 7 : Nat) : Int)
theorem sev_len (k : Nat) : (sev k).length = k := by simp [sev]
theorem sev_snoc (k : Nat) : sev (k + 1) = sev k ++ [((k % 7 : Nat) : Int)] := by simp [sev, List.range_succ]
theorem cap_in {x : Int} (h : -1 ≤ x) (h2 : x ≤ 512) : cap x = x := by unfold cap; omega
theorem cap_le (x : Int) : cap x ≤ 512 := by unfold cap; omega
theorem sev_get {j k : Nat} (h : j < k) : (sev k)[j]? = some ((j % 7 : Nat) : Int) := by
  unfold sev
  rw [List.getElem?_map, List.getElem?_range h]; rfl
theorem two_get {j n : Nat} {c : Int} (h : j < 256) : ((sev 256).set n c).getD j 0 = if n = j then c else ((j % 7 : Nat) : Int) := by
  rw [List.getD_eq_getElem?_getD, List.getElem?_set]
  by_cases e : n = j
  · subst e
    rw [if_pos rfl, if_pos (by rw [sev_len]; exact h), if_pos rfl]; rfl
  · rw [if_neg e, sev_get h, if_neg e]; rfl
theorem found_two {n i : Nat} {ok : Bool} (hn : n < 256) (h : Found ((sev 256).set n 512) 512 i ok) : i = n ∧ ok = true := by
  have hl : ((sev 256).set n 512).length = 256 := by rw [List.length_set, sev_len]
  cases ok with
  | false =>
    have := (h.2 rfl).2 n (by omega)
    rw [two_get hn, if_pos rfl] at this
    omega
  | true =>
    obtain ⟨h1, h2, h3⟩ := h.1 rfl
    rw [hl] at h1
    rw [two_get h1] at h2
    by_cases e : n = i
    · exact ⟨e.symm, rfl⟩
    · rw [if_neg e] at h2
      omega
theorem found_three {n i : Nat} {ok : Bool} {c : Int} (hc : c ≤ 512) (h : Found ((sev 256).set n c) 513 i ok) : ok = false := by
  have hl : ((sev 256).set n c).length = 256 := by rw [List.length_set, sev_len]
  cases ok with
  | false => rfl
  | true =>
    obtain ⟨h1, h2, h3⟩ := h.1 rfl
    rw [hl] at h1
    rw [two_get h1] at h2
    split at h2 <;> omega
theorem wf_u8' {n : Int} (h : (Lit.int .u8 n).wf = true) : 0 ≤ n ∧ n < 256 := by
  simp [Lit.wf, IntKind.min, IntKind.max, IntKind.signed, IntKind.bits] at h
  omega

set_option maxRecDepth 100000 in
set_option maxHeartbeats 4000000 in
theorem walk (n : Int) (hn : (Lit.int .u8 n).wf = true) (r2 : Int) (w : World) :
    Calls Try.prog 12 #[.int .u8 n, .int .i64 r2] w fun e w' => e = .returned (.bool true) ∧ Below w.heap.size w w' := by
  obtain ⟨hn0, hn1⟩ := wf_u8' hn
  obtain ⟨n, rfl⟩ : ∃ k : Nat, n = (k : Int) := ⟨n.toNat, by omega⟩
  have hn2 : n < 256 := by omega
  clear hn
  go_enter Try.func12, Try.ntmps12
  go_wp2_with fail
  refine (awake6_any _).mono ?_
  rintro e w1 ⟨rfl, hb1⟩
  have hz1 := hb1.size
  go_wp2_with fail
  refine (newroom_any w1 w1.heap.size).mono ?_
  rintro e w2 ⟨rfl, hr2, hb2, hw2⟩
  have hz2 : w1.heap.size ≤ w2.heap.size := hb2.size
  clear hw2
  go_wp2
  go_loopw [13] (fun iv wr => ∃ (k : Nat) (v : Value), k ≤ 256 ∧ iv = .int .i64 (k : Int) ∧ Room wr w1.heap.size w1.heap.size w1.heap.size v (sev k) ∧ But w1.heap.size w1.heap.size w2 wr) (fun iv _ => 256 - (intOf iv).toNat)
  case atStart => exact ⟨0, _, by omega, rfl, hr2, But.refl⟩
  case round =>
    obtain ⟨k, v, hk, rfl, hR, hb⟩ := hrel
    have hz := hb.size
    by_cases hlt : k < 256
    · have hk7 : ((k : Int) % 7) = ((k % 7 : Nat) : Int) := by omega
      have gs := set_next_any wr w1.heap.size w1.heap.size w1.heap.size v _ k ((k : Int) % 7) hR (Nat.le_trans hz2 hz) (sev_len k) hlt
      rw [show sev k ++ [cap ((k : Int) % 7)] = sev (k + 1) by rw [cap_in (by omega) (by omega), hk7, sev_snoc]] at gs
      have gp := fun W v2 h => pages_any W w1.heap.size w1.heap.size w1.heap.size v2 (sev (k + 1)) h
      rw [sev_len] at gp
      have GS := Lib.hid gs
      have GP := Lib.hid gp
      clear gs gp hR hk7
      go_wp2_with (first
        | (go_at_call 42; (with_reducible refine (GS.out).mono ?_); rintro e w3 ⟨rfl, hb3, v3, hr3⟩)
        | (go_at_call 48; (with_reducible refine (GP.out _ v3 hr3).mono ?_); rintro e w4 ⟨rfl, hw4⟩; have hw := hw4.symm; subst hw))
      go_roundw
      case rel => exact ⟨k + 1, v3, by omega, by go_num, hr3, hb.trans hb3⟩
      case measure => simp [intOf]; omega
    · obtain rfl : k = 256 := by omega
      have hxr : Below w.heap.size w wr := hb1.trans ((hb2.mono hz1).trans (hb.below hz1 hz1))
      have hnl : n < (sev 256).length := by rw [sev_len]; exact hn2
      go_wp2_with fail
      refine (set_arg wr w1.heap.size 256 5 (.inr (by decide))).mono ?_
      rintro e w3 ⟨rfl, hw3⟩
      subst hw3
      go_wp2_with fail
      refine (set_arg _ w1.heap.size (-1) 5 (.inl (by decide))).mono ?_
      rintro e w4 ⟨rfl, hw4⟩
      subst hw4
      go_wp2_with fail
      refine (set_put _ w1.heap.size w1.heap.size w1.heap.size v (sev 256) n 512 hR hn2 hnl).mono ?_
      rintro e w5 ⟨rfl, hb5, hr5⟩
      rw [show cap 512 = 512 by decide] at hr5
      go_wp2_with fail
      refine (find_any w5 w1.heap.size w1.heap.size w1.heap.size v _ 512 hr5).mono ?_
      rintro e w6 ⟨i, ok, rfl, hf, hw6⟩
      subst hw6
      obtain ⟨rfl, rfl⟩ := found_two hn2 hf
      go_wp2_with fail
      refine (set_put _ w1.heap.size w1.heap.size w1.heap.size v _ i r2 hr5 hn2 (by rw [List.length_set]; exact hnl)).mono ?_
      rintro e w7 ⟨rfl, hb7, hr7⟩
      rw [List.set_set] at hr7
      go_wp2_with fail
      refine (find_any w7 w1.heap.size w1.heap.size w1.heap.size v _ 513 hr7).mono ?_
      rintro e w8 ⟨i8, ok8, rfl, hf8, hw8⟩
      subst hw8
      obtain rfl := found_three (cap_le r2) hf8
      have hx7 : Below w.heap.size w w8 := hxr.trans ((hb5.trans hb7).below hz1 hz1)
      go_wp2_with fail
      refine (newroom_any _ 0).mono ?_
      rintro e w9 ⟨rfl, hr9, hb9, hw9⟩
      go_wp2_with fail
      refine (set_form w9 _ 0 _ _ [] 1 5 hr9 (by decide) (by decide) (by decide)).mono ?_
      rintro e w10 ⟨rfl, hw10⟩
      subst hw10
      go_wp2
      go_ret
      exact ⟨rfl, hx7.trans (hb9.mono hx7.size)⟩
end Go.Proofs.Ytcfmlmlhmegfdaa.roomMost
