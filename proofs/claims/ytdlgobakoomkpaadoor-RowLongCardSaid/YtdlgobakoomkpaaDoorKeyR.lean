/-
  Package key: readNumber, first, Read.
-/
import Derived.Test.YtdlgobakoomkpaaDoorKeyD
import Derived.Test.YtdlgobakoomkpaaDoorBin
import Derived.Test.YtdlgobakoomkpaaDoorCellF
namespace Go.Proofs.YtdlgobakoomkpaaDoor
open Go.RowKit

theorem flip_back {u : Nat} (hu : u < 18446744073709551616) : IntKind.i64.wrap (bits .xor .u64 (u : Int) 9223372036854775808) = (u : Int) - 9223372036854775808 := by
  rw [u64_xor _ _ (by omega) (by omega) (by decide) (by decide)]
  have h2 : (9223372036854775808 : Int).toNat = 2 ^ 63 := by decide
  have h63 : (2 : Nat) ^ 63 = 9223372036854775808 := by decide
  rw [h2, Int.toNat_natCast]
  by_cases h0 : u < 9223372036854775808
  · rw [xor_top (by rw [h63]; omega), h63, IntKind.wrap_i64]
    omega
  · have e : u ^^^ 2 ^ 63 = u - 9223372036854775808 := by
      have : u = (u - 9223372036854775808) ^^^ 2 ^ 63 := by rw [xor_top (by rw [h63]; omega), h63]; omega
      conv => lhs; rw [this, Nat.xor_assoc, Nat.xor_self, Nat.xor_zero]
    rw [e, IntKind.wrap_i64]
    omega
theorem or_low {f b : Nat} (hf : f < 72057594037927936) (hb : b < 256) : bits .or .u64 ((f : Int) * 256) (b : Int) = ((f * 256 + b : Nat) : Int) := by
  rw [u64_or _ _ (by omega) (by omega) (by omega) (by omega)]
  have e1 : ((f : Int) * 256).toNat = 2 ^ 8 * f := by omega
  rw [e1, Int.toNat_natCast, ← Nat.two_pow_add_eq_or_of_lt hb f]
  congr 1
  omega
theorem fold_take {q : List UInt8} {k : Nat} (h : k < q.length) : fold256 (q.take (k + 1)) = fold256 (q.take k) * 256 + q[k].toNat := by
  rw [List.take_succ_eq_append_getElem h, fold_snoc]
theorem fold_take_lt (q : List UInt8) (k : Nat) (h : k ≤ 7) : fold256 (q.take k) < 72057594037927936 := by
  have h1 := fold_lt (q.take k)
  have h2 : (q.take k).length ≤ 7 := by rw [List.length_take]; omega
  exact Nat.lt_of_lt_of_le h1 (Nat.le_trans (Nat.pow_le_pow_right (by decide) h2) (by decide))

set_option maxHeartbeats 1000000 in
theorem kreadNumber_any (A : Option Addr) (c : Nat) (q : List UInt8) (w : World) (h8 : 8 ≤ q.length) (hc : q.length ≤ c) (ha : Brd w A q) :
    Calls Tryd.prog 55 #[.slice A q.length c] w fun e w' => e = .returned (.int .i64 (numOf (q.take 8))) ∧ w' = w := by
  have hc8 : 8 ≤ c := by omega
  go_enter Tryd.func55, Tryd.ntmps55
  go_wp2
  go_loop [3, 9] (fun u i => ∃ k : Nat, k ≤ 8 ∧ i = .int .i64 k ∧ u = .int .u64 ((fold256 (q.take k) : Nat) : Int)) (fun _ i => 8 - (intOf i).toNat)
  case atStart => exact ⟨0, by omega, rfl, rfl⟩
  case round =>
    obtain ⟨k, hk, rfl, rfl⟩ := hrel
    by_cases hlt : k < 8
    · obtain ⟨ad, rfl, hcell⟩ := ha.at_ (k := k) (by omega)
      have hF := Lib.hid (fold_take (q := q) (k := k) (by omega))
      have hl := fold_take_lt q k (by omega)
      have hb := q[k].toNat_lt
      have ho := or_low hl hb
      generalize fold256 (q.take k) = f at *
      generalize q[k].toNat = b at *
      go_wp2
      go_round
      case rel => exact ⟨k + 1, by omega, by go_num, by rw [hF.out]; go_num⟩
      case measure => simp [intOf]; omega
    · obtain rfl : k = 8 := by omega
      have hl : fold256 (q.take 8) < 18446744073709551616 := by
        have h1 := fold_lt (q.take 8)
        rw [List.length_take, Nat.min_eq_left h8] at h1
        exact Nat.lt_of_lt_of_le h1 (by decide)
      have hx := flip_back hl
      have hn : numOf (q.take 8) = (fold256 (q.take 8) : Int) - 9223372036854775808 := rfl
      generalize fold256 (q.take 8) = f at *
      have HN := Lib.hid hn
      clear hn
      go_wp2
      go_ret
      exact ⟨by rw [HN.out]; rfl, rfl⟩

/-- A slice of bytes from its k-th on. -/
theorem cut_bytes (A : Option Addr) (m c k : Nat) (hn : m + k ≤ c) : ∃ A', (∀ W, (Instr.slice 24 (.slice A (m + k) c) (some (.int .i64 (k : Int))) none none).run Tryd.prog W = .ok (.slice A' m (c - k)) W) ∧
    ∀ W (l : List UInt8), Brd W A l → l.length = m + k → Brd W A' (l.drop k) := by
  refine ⟨if c = k then A else A.map (·.add k), fun W => ?_, fun W l h hl => ?_⟩
  · rw [run_slice_l (ht := by kernel_rfl) (h0 := by omega) (h1 := by omega)]
    rw [show Tryd.prog.elem 24 = 5 by kernel_rfl, show (sizeOf 5).run Tryd.prog W = .ok 1 W by kernel_rfl]
    simp only [Result.andThen, sliced, Int.toNat_natCast, Nat.mul_one, Nat.add_sub_cancel]
  · have := Rd.cut h (k := k) (cap := c) (by omega) (by omega)
    rw [Nat.mul_one, bcells_drop] at this
    unfold Brd
    rw [List.length_drop]
    exact this
theorem idx0 : ∀ l : List UInt8, l.contains 0 = true → Lib.indexByte l 0 = ((upto0 l).length : Int)
  | [], h => by simp at h
  | b :: l, h => by
    unfold Lib.indexByte upto0
    by_cases hb : b = 0
    · subst hb; simp
    · have hb1 : (b == 0) = false := by simpa using hb
      have hb2 : ((0 : UInt8) == b) = false := by simpa using Ne.symm hb
      have h' : l.contains 0 = true := by rw [List.contains_cons, hb2, Bool.false_or] at h; exact h
      have ih := idx0 l h'
      unfold upto0 at ih
      rw [if_neg (by rw [hb1]; simp), ih, if_neg (by simp <;> omega), List.takeWhile_cons, if_pos (by simp [hb])]
      simp
theorem upto0_take (l : List UInt8) : l.take (upto0 l).length = upto0 l := by
  unfold upto0
  have h := List.takeWhile_append_dropWhile (p := (· != (0 : UInt8))) (l := l)
  conv => lhs; rw [← h]
  rw [List.take_left' (by rw [h])]
/-- What first answers. -/
def kf : List UInt8 → Val × Nat
  | [] => (⟨0, 0, ⟨#[]⟩, false⟩, 0)
  | b :: t =>
    if b = 1 then (⟨0, 0, ⟨#[]⟩, false⟩, 1)
    else if b = 2 then (if 0 < t.length ∧ (t.getD 0 0).toNat ≤ 1 then (⟨3, 0, ⟨#[]⟩, t.getD 0 0 == 1⟩, 2) else (⟨0, 0, ⟨#[]⟩, false⟩, 0))
    else if b = 3 then (if 8 ≤ t.length then (⟨1, numOf (t.take 8), ⟨#[]⟩, false⟩, 9) else (⟨0, 0, ⟨#[]⟩, false⟩, 0))
    else if b = 4 then (if t.contains 0 = true then (⟨2, 0, ⟨(upto0 t).toArray⟩, false⟩, (upto0 t).length + 2) else (⟨0, 0, ⟨#[]⟩, false⟩, 0))
    else (⟨0, 0, ⟨#[]⟩, false⟩, 0)

theorem bindex0 (A : Option Addr) (c : Nat) (l : List UInt8) (w : World) (ha : Brd w A l) :
    Calls Tryd.prog 56 #[.slice A l.length c, .int .u8 0] w fun e w' => e = .returned (.int .i64 (Lib.indexByte l 0)) ∧ w' = w := bindex_any A c l 0 w ha
theorem at0 {w : World} {A : Option Addr} {b : UInt8} {t : List UInt8} (h : Brd w A (b :: t)) : ∃ ad : Addr, A = some ad ∧ (w.cell? ad = some (.int .u8 (b.toNat : Int))) ∧ ∀ o, (w.alloc o).cell? ad = some (.int .u8 (b.toNat : Int)) := by
  obtain ⟨ad, e, hc⟩ := h.at_ (k := 0) (by simp)
  have h0 : w.cell? ad = some (.int .u8 (b.toNat : Int)) := hc
  exact ⟨ad, e, h0, fun o => (World.cell?_alloc_lt w o ad (World.block_lt_of_cell? w ad h0)).trans h0⟩
theorem ne_byte {b c : UInt8} (h : ¬ b = c) : ((b.toNat : Int) == (c.toNat : Int)) = false := by
  rw [beq_eq_false_iff_ne]
  intro e
  exact h (UInt8.toNat_inj.1 (by omega))
theorem eq_one (x : UInt8) : ((x.toNat : Int) == 1) = (x == 1) := by
  rw [Bool.eq_iff_iff, beq_iff_eq, beq_iff_eq]
  constructor
  · intro h; apply UInt8.toNat_inj.1; have : (1 : UInt8).toNat = 1 := rfl; omega
  · intro h; rw [h]; rfl

set_option maxHeartbeats 4000000 in
theorem kfirst_any (A : Option Addr) (c : Nat) (b : UInt8) (t : List UInt8) (w : World) (ha : Brd w A (b :: t)) (hc : t.length + 1 ≤ c) (hm : c ≤ 9223372036854775807) :
    Calls Tryd.prog 40 #[.slice A (t.length + 1) c] w fun e w' => e = .returned (.tuple #[.agg #[.int .u8 (kf (b :: t)).1.k, .int .i64 (kf (b :: t)).1.i, .string (kf (b :: t)).1.s, .bool (kf (b :: t)).1.b], .int .i64 ((kf (b :: t)).2 : Int)]) ∧ Below w.heap.size w w' := by
  obtain ⟨ad, rfl, h0, h0o⟩ := at0 ha
  obtain ⟨A', hcut0, hB0⟩ := cut_bytes (some ad) t.length c 1 hc
  have hT : Brd w A' t := hB0 w _ ha rfl
  have hcut : ∀ W, (Instr.slice 24 (.slice (some ad) (t.length + 1) c) (some (.int .i64 1)) none none).run Tryd.prog W = .ok (.slice A' t.length (c - 1)) W := hcut0
  have hc1 : t.length ≤ c - 1 := by omega
  clear hcut0 hB0 ha
  by_cases b1 : b = 1
  · subst b1
    have k0 : ∀ o, (w.alloc o).cell? ad = some (.int .u8 1) := h0o
    have e : kf (1 :: t) = (⟨0, 0, ⟨#[]⟩, false⟩, 1) := rfl
    rw [e]
    clear h0 h0o hT e
    go_enter Tryd.func40, Tryd.ntmps40
    go_wp2
    refine bodyPost_ret (v := .tuple #[.agg #[.int .u8 0, .int .i64 0, .string ⟨#[]⟩, .bool false], .int .i64 1]) (by simp [results, Tryd.results40, go_sem]) rfl ?_
    exact ⟨rfl, (by repeat (first | exact Below.refl _ _ | refine Below.drew ?_ | refine below_drewN ?_ _ | refine Below.al ?_ _ | refine Below.next ?_ (by assumption)))⟩
  · by_cases b2 : b = 2
    · subst b2
      have k0 : ∀ o, (w.alloc o).cell? ad = some (.int .u8 2) := h0o
      clear h0 h0o b1
      by_cases ht : 0 < t.length
      · obtain ⟨ad1, rfl, h1⟩ := hT.at_ ht
        have h1 : w.cell? ad1 = some (.int .u8 (t[0].toNat : Int)) := h1
        have h1o : ∀ o, (w.alloc o).cell? ad1 = some (.int .u8 (t[0].toNat : Int)) := fun o => (World.cell?_alloc_lt w o ad1 (World.block_lt_of_cell? w ad1 h1)).trans h1
        have hg : t.getD 0 0 = t[0] := by rw [List.getD_eq_getElem?_getD, List.getElem?_eq_getElem ht]; rfl
        have q1 := eq_one t[0]
        have hxl := t[0].toNat_lt
        have e0 : kf (2 :: t) = if 0 < t.length ∧ (t.getD 0 0).toNat ≤ 1 then (⟨3, 0, ⟨#[]⟩, t.getD 0 0 == 1⟩, 2) else (⟨0, 0, ⟨#[]⟩, false⟩, 0) := rfl
        rw [hg] at e0
        generalize t[0] = x at *
        by_cases hx : x.toNat ≤ 1
        · rw [if_pos ⟨ht, hx⟩] at e0
          rw [e0]
          generalize (x == 1) = y at *
          clear hT e0 h1 hg
          go_enter Tryd.func40, Tryd.ntmps40
          go_wp2
          refine bodyPost_ret (v := .tuple #[.agg #[.int .u8 3, .int .i64 0, .string ⟨#[]⟩, .bool y], .int .i64 2]) (by simp [results, Tryd.results40, go_sem]) rfl ?_
          exact ⟨rfl, (by repeat (first | exact Below.refl _ _ | refine Below.drew ?_ | refine below_drewN ?_ _ | refine Below.al ?_ _ | refine Below.next ?_ (by assumption)))⟩
        · rw [if_neg (fun h => hx h.2)] at e0
          rw [e0]
          clear hT e0 h1 q1 hg
          go_enter Tryd.func40, Tryd.ntmps40
          go_wp2
          refine bodyPost_ret (v := .tuple #[.agg #[.int .u8 0, .int .i64 0, .string ⟨#[]⟩, .bool false], .int .i64 0]) (by simp [results, Tryd.results40, go_sem]) rfl ?_
          exact ⟨rfl, (by repeat (first | exact Below.refl _ _ | refine Below.drew ?_ | refine below_drewN ?_ _ | refine Below.al ?_ _ | refine Below.next ?_ (by assumption)))⟩
      · have e : kf (2 :: t) = (⟨0, 0, ⟨#[]⟩, false⟩, 0) := by
          show (if 0 < t.length ∧ (t.getD 0 0).toNat ≤ 1 then _ else _) = _
          rw [if_neg (fun h => ht h.1)]
        rw [e]
        clear hT e
        go_enter Tryd.func40, Tryd.ntmps40
        go_wp2
        refine bodyPost_ret (v := .tuple #[.agg #[.int .u8 0, .int .i64 0, .string ⟨#[]⟩, .bool false], .int .i64 0]) (by simp [results, Tryd.results40, go_sem]) rfl ?_
        exact ⟨rfl, (by repeat (first | exact Below.refl _ _ | refine Below.drew ?_ | refine below_drewN ?_ _ | refine Below.al ?_ _ | refine Below.next ?_ (by assumption)))⟩
    · by_cases b3 : b = 3
      · subst b3
        have k0 : ∀ o, (w.alloc o).cell? ad = some (.int .u8 3) := h0o
        clear h0 h0o b1 b2
        by_cases h8 : 8 ≤ t.length
        · have e : kf (3 :: t) = (⟨1, numOf (t.take 8), ⟨#[]⟩, false⟩, 9) := by
            show (if 8 ≤ t.length then _ else _) = _
            rw [if_pos h8]
          rw [e]
          have g := fun o => kreadNumber_any A' (c - 1) t (w.alloc o) h8 hc1 (Rd.alloc hT o)
          generalize numOf (t.take 8) = y at *
          have G := Lib.hid g
          clear g hT e
          go_enter Tryd.func40, Tryd.ntmps40
          go_wp2_with (go_at_call 55; (with_reducible refine (G.out _).mono ?_); rintro e w6 ⟨rfl, hw6⟩; have hw := hw6.symm; subst hw)
          refine bodyPost_ret (v := .tuple #[.agg #[.int .u8 1, .int .i64 y, .string ⟨#[]⟩, .bool false], .int .i64 9]) (by simp [results, Tryd.results40, go_sem]) rfl ?_
          exact ⟨rfl, (by repeat (first | exact Below.refl _ _ | refine Below.drew ?_ | refine below_drewN ?_ _ | refine Below.al ?_ _ | refine Below.next ?_ (by assumption)))⟩
        · have e : kf (3 :: t) = (⟨0, 0, ⟨#[]⟩, false⟩, 0) := by
            show (if 8 ≤ t.length then _ else _) = _
            rw [if_neg h8]
          rw [e]
          clear hT e
          go_enter Tryd.func40, Tryd.ntmps40
          go_wp2
          refine bodyPost_ret (v := .tuple #[.agg #[.int .u8 0, .int .i64 0, .string ⟨#[]⟩, .bool false], .int .i64 0]) (by simp [results, Tryd.results40, go_sem]) rfl ?_
          exact ⟨rfl, (by repeat (first | exact Below.refl _ _ | refine Below.drew ?_ | refine below_drewN ?_ _ | refine Below.al ?_ _ | refine Below.next ?_ (by assumption)))⟩
      · by_cases b4 : b = 4
        · subst b4
          have k0 : ∀ o, (w.alloc o).cell? ad = some (.int .u8 4) := h0o
          clear h0 h0o b1 b2 b3
          have g := fun o => bindex0 A' (c - 1) t (w.alloc o) (Rd.alloc hT o)
          cases hz : t.contains 0 with
          | true =>
            have e : kf (4 :: t) = (⟨2, 0, ⟨(upto0 t).toArray⟩, false⟩, (upto0 t).length + 2) := by
              show (if t.contains 0 = true then _ else _) = _
              rw [if_pos hz]
            rw [e]
            rw [idx0 t hz] at g
            have hlt := upto0_lt hz
            have hf : Brd w A' (t.take (upto0 t).length) := hT.front (by omega)
            rw [upto0_take] at hf
            have q := fun o => Brd.conv (Rd.alloc hf o : Brd (w.alloc o) A' (upto0 t)) (c - 1)
            have hcast : (1 : Int) + ((upto0 t).length : Int) + 1 = (((upto0 t).length + 2 : Nat) : Int) := by omega
            have HC := Lib.hid hcast
            have G := Lib.hid g
            generalize upto0 t = s at *
            clear g hT e hf hcast hz
            go_enter Tryd.func40, Tryd.ntmps40
            go_wp2_with (go_at_call 56; (with_reducible refine (G.out _).mono ?_); rintro e w6 ⟨rfl, hw6⟩; have hw := hw6.symm; subst hw)
            refine bodyPost_ret (v := .tuple #[.agg #[.int .u8 2, .int .i64 0, .string ⟨s.toArray⟩, .bool false], .int .i64 (1 + (s.length : Int) + 1)]) (by simp [results, Tryd.results40, go_sem]) rfl ?_
            exact ⟨by rw [HC.out], (by repeat (first | exact Below.refl _ _ | refine Below.drew ?_ | refine below_drewN ?_ _ | refine Below.al ?_ _ | refine Below.next ?_ (by assumption)))⟩
          | false =>
            have e : kf (4 :: t) = (⟨0, 0, ⟨#[]⟩, false⟩, 0) := by
              show (if t.contains 0 = true then _ else _) = _
              rw [if_neg (by simp only [hz]; simp)]
            rw [e]
            rw [(index_zero t).2 hz] at g
            have G := Lib.hid g
            clear g hT e hz
            go_enter Tryd.func40, Tryd.ntmps40
            go_wp2_with (go_at_call 56; (with_reducible refine (G.out _).mono ?_); rintro e w6 ⟨rfl, hw6⟩; have hw := hw6.symm; subst hw)
            refine bodyPost_ret (v := .tuple #[.agg #[.int .u8 0, .int .i64 0, .string ⟨#[]⟩, .bool false], .int .i64 0]) (by simp [results, Tryd.results40, go_sem]) rfl ?_
            exact ⟨rfl, (by repeat (first | exact Below.refl _ _ | refine Below.drew ?_ | refine below_drewN ?_ _ | refine Below.al ?_ _ | refine Below.next ?_ (by assumption)))⟩
        · have e : kf (b :: t) = (⟨0, 0, ⟨#[]⟩, false⟩, 0) := by
            show (if b = 1 then _ else _) = _
            rw [if_neg b1, if_neg b2, if_neg b3, if_neg b4]
          rw [e]
          have n1 : ((b.toNat : Int) == 1) = false := ne_byte b1
          have n2 : ((b.toNat : Int) == 2) = false := ne_byte b2
          have n3 : ((b.toNat : Int) == 3) = false := ne_byte b3
          have n4 : ((b.toNat : Int) == 4) = false := ne_byte b4
          clear hT e h0 b1 b2 b3 b4
          go_enter Tryd.func40, Tryd.ntmps40
          go_wp2
          refine bodyPost_ret (v := .tuple #[.agg #[.int .u8 0, .int .i64 0, .string ⟨#[]⟩, .bool false], .int .i64 0]) (by simp [results, Tryd.results40, go_sem]) rfl ?_
          exact ⟨rfl, (by repeat (first | exact Below.refl _ _ | refine Below.drew ?_ | refine below_drewN ?_ _ | refine Below.al ?_ _ | refine Below.next ?_ (by assumption)))⟩
end Go.Proofs.YtdlgobakoomkpaaDoor
