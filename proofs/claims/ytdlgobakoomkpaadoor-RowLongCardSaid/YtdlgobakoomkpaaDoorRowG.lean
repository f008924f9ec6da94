/-
  Package row: first.
-/
import Derived.Test.YtdlgobakoomkpaaDoorRowF
import Derived.Test.YtdlgobakoomkpaaDoorKeyR
namespace Go.Proofs.YtdlgobakoomkpaaDoor
open Go.RowKit

theorem row_mid (A : Option Addr) (n c k m : Nat) (h1 : k ≤ m) (h2 : m ≤ n) (hn : n ≤ c) : ∃ A', (∀ W, (Instr.slice 24 (.slice A n c) (some (.int .i64 (k : Int))) (some (.int .i64 (m : Int))) none).run Tryd.prog W = .ok (.slice A' (m - k) (c - k)) W) ∧
    ∀ W (l : List UInt8), Brd W A l → l.length = n → Brd W A' ((l.drop k).take (m - k)) := by
  refine ⟨if c = k then A else A.map (·.add k), fun W => ?_, fun W l h hl => ?_⟩
  · rw [run_slice_lh (ht := by kernel_rfl) (h0 := by omega) (h1 := by omega) (h2 := by omega)]
    rw [show Tryd.prog.elem 24 = 5 by kernel_rfl, show (sizeOf 5).run Tryd.prog W = .ok 1 W by kernel_rfl]
    simp only [Result.andThen, sliced, Int.toNat_natCast, Nat.mul_one]
  · have := Rd.cut h (k := k) (cap := c) (by omega) (by omega)
    rw [Nat.mul_one, bcells_drop] at this
    have hd : Brd W (if c = k then A else A.map (·.add k)) (l.drop k) := by unfold Brd; rw [List.length_drop]; exact this
    exact hd.front (by rw [List.length_drop]; omega)
theorem kbyte (k : UInt8) (n : UInt8) (h : ¬ k = n) : ((k.toNat : Int) == (n.toNat : Int)) = false := ne_byte h

set_option maxHeartbeats 4000000 in
theorem rfirst_any (k : UInt8) (A : Option Addr) (c : Nat) (b : UInt8) (t : List UInt8) (w : World) (ha : Brd w A (b :: t)) (hc : t.length + 1 ≤ c) :
    Calls Tryd.prog 50 #[.int .u8 (k.toNat : Int), .slice A (t.length + 1) c] w fun e w' => e = .returned (.tuple #[.agg #[.int .u8 (rf k (b :: t)).1.k, .int .i64 (rf k (b :: t)).1.i, .string (rf k (b :: t)).1.s, .bool (rf k (b :: t)).1.b], .int .i64 ((rf k (b :: t)).2 : Int)]) ∧ Below w.heap.size w w' := by
  obtain ⟨ad, rfl, h0, h0o⟩ := at0 ha
  have n1 : ¬ k = 1 → ((k.toNat : Int) == 1) = false := fun h => ne_byte h
  have n2 : ¬ k = 2 → ((k.toNat : Int) == 2) = false := fun h => ne_byte h
  have n3 : ¬ k = 3 → ((k.toNat : Int) == 3) = false := fun h => ne_byte h
  by_cases k1 : k = 1
  · subst k1
    clear n1 n2 n3 h0 h0o
    by_cases h8 : 8 ≤ t.length + 1
    · have e : rf 1 (b :: t) = (⟨1, IntKind.i64.wrap ((leN ((b :: t).take 8) : Nat) : Int), ⟨#[]⟩, false⟩, 8) := by
        rw [rf_cons, if_pos rfl, if_pos h8]
      rw [e]
      have g := fun o => rowReadNumber_any (some ad) c (b :: t) (w.alloc o) (by rw [List.length_cons]; exact h8) (by rw [List.length_cons]; exact hc) (Rd.alloc ha o)
      rw [List.length_cons] at g
      have hg8 : decide (((t.length : Int) + 1) ≥ 8) = true := decide_eq_true (by omega)
      generalize IntKind.i64.wrap ((leN ((b :: t).take 8) : Nat) : Int) = y at *
      have G := Lib.hid g
      clear g ha e
      go_enter Tryd.func50, Tryd.ntmps50
      go_wp2_with (go_at_call 60; (with_reducible refine (G.out _).mono ?_); rintro e w6 ⟨rfl, hw6⟩; have hw := hw6.symm; subst hw)
      refine bodyPost_ret (v := .tuple #[.agg #[.int .u8 1, .int .i64 y, .string ⟨#[]⟩, .bool false], .int .i64 8]) (by simp [results, Tryd.results50, go_sem]) rfl ?_
      exact ⟨rfl, (by repeat (first | exact Below.refl _ _ | refine Below.drew ?_ | refine below_drewN ?_ _ | refine Below.al ?_ _ | refine Below.next ?_ (by assumption)))⟩
    · have e : rf 1 (b :: t) = (nulv, 0) := by
        rw [rf_cons, if_pos rfl, if_neg h8]
      rw [e]
      clear ha e
      go_enter Tryd.func50, Tryd.ntmps50
      go_wp2
      refine bodyPost_ret (v := .tuple #[.agg #[.int .u8 0, .int .i64 0, .string ⟨#[]⟩, .bool false], .int .i64 0]) (by simp [results, Tryd.results50, go_sem]) rfl ?_
      exact ⟨rfl, (by repeat (first | exact Below.refl _ _ | refine Below.drew ?_ | refine below_drewN ?_ _ | refine Below.al ?_ _ | refine Below.next ?_ (by assumption)))⟩
  · have n1 := n1 k1
    by_cases k2 : k = 2
    · subst k2
      clear n1 n2 n3
      have hbl := b.toNat_lt
      by_cases hb : b.toNat ≤ t.length
      · have e : rf 2 (b :: t) = (⟨2, 0, ⟨(t.take b.toNat).toArray⟩, false⟩, b.toNat + 1) := by
          rw [rf_cons, if_neg k1, if_pos rfl, if_pos hb]
        rw [e]
        obtain ⟨A3, hmid0, hB3⟩ := row_mid (some ad) (t.length + 1) c 1 (b.toNat + 1) (by omega) (by omega) hc
        have hB8 : Brd w A3 (t.take b.toNat) := by have := hB3 w _ ha rfl; simpa using this
        have hq1 := fun o => Brd.conv (Rd.alloc hB8 o : Brd (w.alloc o) A3 (t.take b.toNat)) (c - 1)
        rw [show (t.take b.toNat).length = b.toNat by rw [List.length_take]; omega] at hq1
        generalize t.take b.toNat = s at *
        generalize b.toNat = j at *
        have hmid : ∀ W, (Instr.slice 24 (.slice (some ad) (t.length + 1) c) (some (.int .i64 1)) (some (.int .i64 (1 + (j : Int)))) none).run Tryd.prog W = .ok (.slice A3 j (c - 1)) W := by
          intro W
          have := hmid0 W
          rw [show ((j + 1 : Nat) : Int) = 1 + (j : Int) by omega, Nat.add_sub_cancel] at this
          exact this
        have hcast : (1 : Int) + (j : Int) = ((j + 1 : Nat) : Int) := by omega
        have HC := Lib.hid hcast
        clear hmid0 hB3 ha hB8 e h0 hcast
        go_enter Tryd.func50, Tryd.ntmps50
        go_wp2
        refine bodyPost_ret (v := .tuple #[.agg #[.int .u8 2, .int .i64 0, .string ⟨s.toArray⟩, .bool false], .int .i64 (1 + (j : Int))]) (by simp [results, Tryd.results50, go_sem]) rfl ?_
        exact ⟨by rw [HC.out], (by repeat (first | exact Below.refl _ _ | refine Below.drew ?_ | refine below_drewN ?_ _ | refine Below.al ?_ _ | refine Below.next ?_ (by assumption)))⟩
      · have e : rf 2 (b :: t) = (nulv, 0) := by
          rw [rf_cons, if_neg k1, if_pos rfl, if_neg hb]
        rw [e]
        generalize b.toNat = j at *
        clear ha e h0
        go_enter Tryd.func50, Tryd.ntmps50
        go_wp2
        refine bodyPost_ret (v := .tuple #[.agg #[.int .u8 0, .int .i64 0, .string ⟨#[]⟩, .bool false], .int .i64 0]) (by simp [results, Tryd.results50, go_sem]) rfl ?_
        exact ⟨rfl, (by repeat (first | exact Below.refl _ _ | refine Below.drew ?_ | refine below_drewN ?_ _ | refine Below.al ?_ _ | refine Below.next ?_ (by assumption)))⟩
    · have n2 := n2 k2
      by_cases k3 : k = 3
      · subst k3
        clear n1 n2 n3
        have q1 := eq_one b
        have hbl := b.toNat_lt
        by_cases hb : b.toNat ≤ 1
        · have e : rf 3 (b :: t) = (⟨3, 0, ⟨#[]⟩, b == 1⟩, 1) := by
            rw [rf_cons, if_neg k1, if_neg k2, if_pos rfl, if_pos hb]
          rw [e]
          generalize (b == 1) = y at *
          generalize b.toNat = j at *
          clear ha e h0
          go_enter Tryd.func50, Tryd.ntmps50
          go_wp2
          refine bodyPost_ret (v := .tuple #[.agg #[.int .u8 3, .int .i64 0, .string ⟨#[]⟩, .bool y], .int .i64 1]) (by simp [results, Tryd.results50, go_sem]) rfl ?_
          exact ⟨rfl, (by repeat (first | exact Below.refl _ _ | refine Below.drew ?_ | refine below_drewN ?_ _ | refine Below.al ?_ _ | refine Below.next ?_ (by assumption)))⟩
        · have e : rf 3 (b :: t) = (nulv, 0) := by
            rw [rf_cons, if_neg k1, if_neg k2, if_pos rfl, if_neg hb]
          rw [e]
          generalize b.toNat = j at *
          clear ha e h0 q1
          go_enter Tryd.func50, Tryd.ntmps50
          go_wp2
          refine bodyPost_ret (v := .tuple #[.agg #[.int .u8 0, .int .i64 0, .string ⟨#[]⟩, .bool false], .int .i64 0]) (by simp [results, Tryd.results50, go_sem]) rfl ?_
          exact ⟨rfl, (by repeat (first | exact Below.refl _ _ | refine Below.drew ?_ | refine below_drewN ?_ _ | refine Below.al ?_ _ | refine Below.next ?_ (by assumption)))⟩
      · have n3 := n3 k3
        have e : rf k (b :: t) = (nulv, 0) := by
          rw [rf_cons, if_neg k1, if_neg k2, if_neg k3]
        rw [e]
        generalize (k.toNat : Int) = j at *
        clear ha e h0 h0o
        go_enter Tryd.func50, Tryd.ntmps50
        go_wp2
        refine bodyPost_ret (v := .tuple #[.agg #[.int .u8 0, .int .i64 0, .string ⟨#[]⟩, .bool false], .int .i64 0]) (by simp [results, Tryd.results50, go_sem]) rfl ?_
        exact ⟨rfl, (by repeat (first | exact Below.refl _ _ | refine Below.drew ?_ | refine below_drewN ?_ _ | refine Below.al ?_ _ | refine Below.next ?_ (by assumption)))⟩
theorem rfirst_nil (k : UInt8) (A : Option Addr) (c : Nat) (w : World) :
    Calls Tryd.prog 50 #[.int .u8 (k.toNat : Int), .slice A 0 c] w fun e w' => e = .returned (.tuple #[.agg #[.int .u8 nulv.k, .int .i64 nulv.i, .string nulv.s, .bool nulv.b], .int .i64 0]) ∧ Below w.heap.size w w' := by
  go_enter Tryd.func50, Tryd.ntmps50
  go_wp2
  refine bodyPost_ret (v := .tuple #[.agg #[.int .u8 0, .int .i64 0, .string ⟨#[]⟩, .bool false], .int .i64 0]) (by simp [results, Tryd.results50, go_sem]) rfl ?_
  exact ⟨rfl, (by repeat (first | exact Below.refl _ _ | refine Below.drew ?_ | refine below_drewN ?_ _ | refine Below.al ?_ _ | refine Below.next ?_ (by assumption)))⟩
theorem rfirst_all (k : UInt8) (A : Option Addr) (c : Nat) (q : List UInt8) (w : World) (ha : Brd w A q) (hc : q.length ≤ c) :
    Calls Tryd.prog 50 #[.int .u8 (k.toNat : Int), .slice A q.length c] w fun e w' => e = .returned (.tuple #[.agg #[.int .u8 (rf k q).1.k, .int .i64 (rf k q).1.i, .string (rf k q).1.s, .bool (rf k q).1.b], .int .i64 ((rf k q).2 : Int)]) ∧ Below w.heap.size w w' := by
  cases q with
  | nil => exact rfirst_nil k A c w
  | cons b t => exact rfirst_any k A c b t w ha hc
end Go.Proofs.YtdlgobakoomkpaaDoor
