/-
  Columns: slices.IndexFunc with a closure that compares names; ContainsFunc; book.proper.
-/
import Derived.Test.YtbmkhopmhmmibaaBookK
import Derived.Test.YtbmkhopmhmmibaaBookV
namespace Go.Proofs.Ytbmkhopmhmmibaa
open Go.RowKit
set_option linter.unusedVariables false

def nmEq (n : ByteArray) (c : Co) : Bool := c.nm.toList == n.toList
/-- The first column of a name. -/
def colIx (n : ByteArray) (L : List Co) : Int := match L.findIdx? (nmEq n) with | some i => (i : Int) | none => -1
theorem co_at {w : World} {A : Option Addr} {l : List Co} (h : Rd w 2 A l.length (l.flatMap Co.e)) {k : Nat} (hk : k < l.length) :
    ∃ ad : Addr, A = some ad ∧ w.cell? (ad.add (k * 2)) = some (.string l[k].nm) ∧ w.cell? ⟨(ad.add (k * 2)).block, (ad.add (k * 2)).off + 1, none⟩ = some (.int .u8 (l[k].kind : Int)) := by
  obtain ⟨ad, e, hc⟩ := flat_elem Co.e 2 (fun _ => rfl) h hk (by decide)
  exact ⟨ad, e, hc 0 _ rfl, hc 1 _ rfl⟩
theorem idx_co (ad : Addr) (n c k : Nat) (h : k < n) (W : World) : (Instr.indexAt 40 (.slice (some ad) n c) (.int .i64 (k : Int))).run Try.prog W = .ok (.pointer (some (ad.add (k * 2)))) W := by
  rw [run_indexAt_slice (h := by kernel_rfl), if_pos (by omega)]
  rw [show Try.prog.elem 40 = 121 by kernel_rfl, show (sizeOf 121).run Try.prog W = .ok 2 W by kernel_rfl]
  simp [Result.andThen]
theorem fidx_hit {L : List Co} {p : Co → Bool} {i : Nat} (hno : ∀ k (h : k < L.length), k < i → p L[k] = false) (hi : i < L.length) (h : p L[i] = true) : L.findIdx? p = some i := by
  rw [List.findIdx?_eq_some_iff_getElem]
  exact ⟨hi, h, fun j hj => by rw [hno j (by omega) hj]; decide⟩
theorem fidx_none {L : List Co} {p : Co → Bool} {i : Nat} (hno : ∀ k (h : k < L.length), k < i → p L[k] = false) (hi : i = L.length) : L.findIdx? p = none := by
  rw [List.findIdx?_eq_none_iff]
  intro x hx
  obtain ⟨k, hk, rfl⟩ := List.getElem_of_mem hx
  exact hno k hk (by omega)
theorem no_more_co {L : List Co} {p : Co → Bool} {i : Nat} (hno : ∀ k (h : k < L.length), k < i → p L[k] = false) (hi : i < L.length) (h : p L[i] = false) : ∀ k (h : k < L.length), k < i + 1 → p L[k] = false := fun k hk hki => by
  by_cases e : k = i
  · subst e; exact h
  · exact hno k hk (by omega)

theorem clos_p (w : World) (B : Nat) (n m : ByteArray) (kd k : Nat) (h : w.cell? ⟨B, 0, none⟩ = some (.string n)) :
    Calls Try.prog 80 #[.agg #[.string m, .int .u8 (k : Int)], .pointer (some ⟨B, 0, none⟩)] w fun e w' => e = .returned (.bool (m.toList == n.toList)) ∧ Below w.heap.size w w' := by
  have hB := World.block_lt_of_cell? _ _ h
  have hne : B ≠ w.heap.size := by have : B < w.heap.size := hB; omega
  have h2 : (w.alloc (.cells #[.string m, .int .u8 (k : Int)] 121)).cell? ⟨B, 0, none⟩ = some (.string n) := (((Below.refl w.heap.size w).al _).cell (p := ⟨B, 0, none⟩) hB).trans h
  go_enter Try.func80, Try.ntmps80
  go_wp2
  go_ret
  exact ⟨rfl, (Below.refl _ _).al _⟩
set_option maxRecDepth 100000 in
set_option maxHeartbeats 1000000 in
theorem index_p (w : World) (B N c : Nat) (n : ByteArray) (A : Option Addr) (L : List Co) (hN : N = L.length) (hN64 : N ≤ 9223372036854775807) (hr : Rd w 2 A N (L.flatMap Co.e)) (hc : w.cell? ⟨B, 0, none⟩ = some (.string n)) :
    Calls Try.prog 56 #[.slice A N c, .func (.func 80) #[] #[.pointer (some ⟨B, 0, none⟩)]] w fun e w' => e = .returned (.int .i64 (colIx n L)) ∧ Below w.heap.size w w' := by
  have hB : B < w.heap.size := World.block_lt_of_cell? _ _ hc
  have HN := Lib.hid hN
  have HR := Lib.hid hr
  have HC := Lib.hid hc
  clear hr hc hN
  go_enter Try.func56, Try.ntmps56
  go_wp2
  go_loopw [8] (fun iv wr => ∃ (i : Nat), i ≤ N ∧ iv = .int .i64 (i : Int) ∧ (∀ k (h : k < L.length), k < i → nmEq n L[k] = false) ∧ Below w.heap.size w wr) (fun iv _ => N - (intOf iv).toNat)
  case atStart => exact ⟨0, Nat.zero_le _, rfl, fun k h hk => by omega, Below.refl _ _⟩
  case round =>
    obtain ⟨i, hi, rfl, hno, hb⟩ := hrel
    have HNO := Lib.hid hno
    clear hno
    by_cases hlt : i < N
    · have hiT : i < L.length := by rw [← HN.out]; exact hlt
      obtain ⟨ad, rfl, q0, q1⟩ := co_at (by have := HR.out.below hb; rw [HN.out] at this; exact this) hiT
      have ix := idx_co ad N c i hlt
      obtain ⟨tt, htt⟩ : ∃ tt, L[i] = tt := ⟨_, rfl⟩
      rw [htt] at q0 q1
      obtain ⟨m, kk⟩ := tt
      replace q0 : wr.cell? (ad.add (i * 2)) = some (.string m) := q0
      replace q1 : wr.cell? ⟨(ad.add (i * 2)).block, (ad.add (i * 2)).off + 1, none⟩ = some (.int .u8 (kk : Int)) := q1
      have HTT := Lib.hid htt
      have HK := Lib.hid (clos_p wr B n m 0 kk ((hb.cell (p := ⟨B, 0, none⟩) hB).trans HC.out))
      have HSE := Lib.hid (show nmEq n ⟨m, kk⟩ = (m.toList == n.toList) from rfl)
      clear htt
      cases hz : (m.toList == n.toList) with
      | false =>
        rw [hz] at HK HSE
        have HNN := Lib.hid (no_more_co HNO.out hiT (by rw [HTT.out]; exact HSE.out))
        clear hz
        go_wp2_with (go_at_call 80; (with_reducible refine (HK.out).mono ?_); rintro e w1 ⟨rfl, hb1⟩; have hb2 := hb.next hb1)
        go_roundw
        case rel => exact ⟨i + 1, by omega, by go_num, HNN.out, hb2⟩
        case measure => simp [intOf]; omega
      | true =>
        rw [hz] at HK HSE
        have HFF := Lib.hid (fidx_hit HNO.out hiT (by rw [HTT.out]; exact HSE.out))
        clear hz
        go_wp2_with (go_at_call 80; (with_reducible refine (HK.out).mono ?_); rintro e w1 ⟨rfl, hb1⟩; have hb2 := hb.next hb1)
        go_ret
        exact ⟨by unfold colIx; rw [HFF.out]; rfl, hb2⟩
    · have hiN : i = N := by omega
      have HFF := Lib.hid (fidx_none HNO.out (by rw [hiN, HN.out]))
      subst hiN
      go_wp2
      go_ret
      exact ⟨by unfold colIx; rw [HFF.out]; rfl, hb⟩

theorem clos_x (w : World) (B : Nat) (n m : ByteArray) (kd k : Nat) (h : w.cell? ⟨B, 0, none⟩ = some (.string n)) :
    Calls Try.prog 57 #[.agg #[.string m, .int .u8 (k : Int)], .pointer (some ⟨B, 0, none⟩)] w fun e w' => e = .returned (.bool (m.toList == n.toList)) ∧ Below w.heap.size w w' := by
  have hB := World.block_lt_of_cell? _ _ h
  have hne : B ≠ w.heap.size := by have : B < w.heap.size := hB; omega
  have h2 : (w.alloc (.cells #[.string m, .int .u8 (k : Int)] 121)).cell? ⟨B, 0, none⟩ = some (.string n) := (((Below.refl w.heap.size w).al _).cell (p := ⟨B, 0, none⟩) hB).trans h
  go_enter Try.func57, Try.ntmps57
  go_wp2
  go_ret
  exact ⟨rfl, (Below.refl _ _).al _⟩
set_option maxRecDepth 100000 in
set_option maxHeartbeats 1000000 in
theorem index_x (w : World) (B N c : Nat) (n : ByteArray) (A : Option Addr) (L : List Co) (hN : N = L.length) (hN64 : N ≤ 9223372036854775807) (hr : Rd w 2 A N (L.flatMap Co.e)) (hc : w.cell? ⟨B, 0, none⟩ = some (.string n)) :
    Calls Try.prog 56 #[.slice A N c, .func (.func 57) #[] #[.pointer (some ⟨B, 0, none⟩)]] w fun e w' => e = .returned (.int .i64 (colIx n L)) ∧ Below w.heap.size w w' := by
  have hB : B < w.heap.size := World.block_lt_of_cell? _ _ hc
  have HN := Lib.hid hN
  have HR := Lib.hid hr
  have HC := Lib.hid hc
  clear hr hc hN
  go_enter Try.func56, Try.ntmps56
  go_wp2
  go_loopw [8] (fun iv wr => ∃ (i : Nat), i ≤ N ∧ iv = .int .i64 (i : Int) ∧ (∀ k (h : k < L.length), k < i → nmEq n L[k] = false) ∧ Below w.heap.size w wr) (fun iv _ => N - (intOf iv).toNat)
  case atStart => exact ⟨0, Nat.zero_le _, rfl, fun k h hk => by omega, Below.refl _ _⟩
  case round =>
    obtain ⟨i, hi, rfl, hno, hb⟩ := hrel
    have HNO := Lib.hid hno
    clear hno
    by_cases hlt : i < N
    · have hiT : i < L.length := by rw [← HN.out]; exact hlt
      obtain ⟨ad, rfl, q0, q1⟩ := co_at (by have := HR.out.below hb; rw [HN.out] at this; exact this) hiT
      have ix := idx_co ad N c i hlt
      obtain ⟨tt, htt⟩ : ∃ tt, L[i] = tt := ⟨_, rfl⟩
      rw [htt] at q0 q1
      obtain ⟨m, kk⟩ := tt
      replace q0 : wr.cell? (ad.add (i * 2)) = some (.string m) := q0
      replace q1 : wr.cell? ⟨(ad.add (i * 2)).block, (ad.add (i * 2)).off + 1, none⟩ = some (.int .u8 (kk : Int)) := q1
      have HTT := Lib.hid htt
      have HK := Lib.hid (clos_x wr B n m 0 kk ((hb.cell (p := ⟨B, 0, none⟩) hB).trans HC.out))
      have HSE := Lib.hid (show nmEq n ⟨m, kk⟩ = (m.toList == n.toList) from rfl)
      clear htt
      cases hz : (m.toList == n.toList) with
      | false =>
        rw [hz] at HK HSE
        have HNN := Lib.hid (no_more_co HNO.out hiT (by rw [HTT.out]; exact HSE.out))
        clear hz
        go_wp2_with (go_at_call 57; (with_reducible refine (HK.out).mono ?_); rintro e w1 ⟨rfl, hb1⟩; have hb2 := hb.next hb1)
        go_roundw
        case rel => exact ⟨i + 1, by omega, by go_num, HNN.out, hb2⟩
        case measure => simp [intOf]; omega
      | true =>
        rw [hz] at HK HSE
        have HFF := Lib.hid (fidx_hit HNO.out hiT (by rw [HTT.out]; exact HSE.out))
        clear hz
        go_wp2_with (go_at_call 57; (with_reducible refine (HK.out).mono ?_); rintro e w1 ⟨rfl, hb1⟩; have hb2 := hb.next hb1)
        go_ret
        exact ⟨by unfold colIx; rw [HFF.out]; rfl, hb2⟩
    · have hiN : i = N := by omega
      have HFF := Lib.hid (fidx_none HNO.out (by rw [hiN, HN.out]))
      subst hiN
      go_wp2
      go_ret
      exact ⟨by unfold colIx; rw [HFF.out]; rfl, hb⟩

theorem colIx_neg {n : ByteArray} {L : List Co} : (decide (0 ≤ colIx n L)) = L.any (nmEq n) := by
  unfold colIx
  cases h : L.findIdx? (nmEq n) with
  | none =>
    rw [List.findIdx?_eq_none_iff] at h
    symm
    simp only [Int.reduceNeg, show ¬ (0 : Int) ≤ -1 by decide, decide_false]
    rw [List.any_eq_false]
    intro x hx; rw [h x hx]; decide
  | some i =>
    rw [List.findIdx?_eq_some_iff_getElem] at h
    obtain ⟨hi, h, _⟩ := h
    simp only [Int.natCast_nonneg, decide_true]
    symm
    rw [List.any_eq_true]
    exact ⟨L[i], List.getElem_mem hi, h⟩
set_option maxRecDepth 100000 in
theorem contains_p (w : World) (B N c : Nat) (n : ByteArray) (A : Option Addr) (L : List Co) (hN : N = L.length) (hN64 : N ≤ 9223372036854775807) (hr : Rd w 2 A N (L.flatMap Co.e)) (hc : w.cell? ⟨B, 0, none⟩ = some (.string n)) :
    Calls Try.prog 79 #[.slice A N c, .func (.func 80) #[] #[.pointer (some ⟨B, 0, none⟩)]] w fun e w' => e = .returned (.bool (L.any (nmEq n))) ∧ Below w.heap.size w w' := by
  have H := Lib.hid (index_p w B N c n A L hN hN64 hr hc)
  rw [← colIx_neg]
  generalize colIx n L = z at *
  clear hr hc hN
  go_enter Try.func79, Try.ntmps79
  go_wp2_with (go_at_call 56; (with_reducible refine (H.out).mono ?_); rintro e w1 ⟨rfl, hb1⟩)
  go_ret
  exact ⟨rfl, hb1⟩
end Go.Proofs.Ytbmkhopmhmmibaa
