/-
  Package key: appendNumber, appendValue.
-/
import Derived.Test.YtdlgobakoomkpaaDoorKeyE
import Derived.Test.YtdlgobakoomkpaaDoorValid0
import Derived.Test.YtdlgobakoomkpaaDoorMem
import Derived.Outline
import Derived.Deep.RegionHeld3
namespace Go.Proofs.YtdlgobakoomkpaaDoor
open Go.RowKit

theorem info_u8 : (Tryd.prog.info? 5).map (fun i => (i.zero, i.size, i.bytes)) = some (some (.int .u8 0), 1, 1) := by kernel_rfl

/-- Bytes of the call's own, at a value. -/
def Byt (w : World) (base : Nat) (v : Value) (l : List UInt8) : Prop := w.ownsRow base 5 1 v l.length (bcells l)

theorem byt_app {w : World} {base : Nat} {v : Value} {l m : List UInt8} (h : w.ownsRow base 5 1 v (l.length + m.length) (bcells l ++ bcells m)) : Byt w base v (l ++ m) := by
  unfold Byt
  rw [List.length_append, bcells_append]
  exact h
theorem byt_of {w : World} {base n : Nat} {v : Value} {xs : List Value} {m : List UInt8} (h : w.ownsRow base 5 1 v n xs) (hx : xs = bcells m) : Byt w base v m := by
  have h1 := h.1
  subst hx
  rw [bcells_length, Nat.mul_one] at h1
  subst h1
  exact h
/-- A block that was laid behind the row is none of it. -/
theorem Byt.ne_new {w : World} {base : Nat} {v : Value} {l : List UInt8} (h : Byt w base v l) {g : Nat} (hg : w.heap.size ≤ g) : some g ≠ v.ownBlock := fun e => by
  have := (h.lt g e.symm).2
  omega
theorem byt_nil (w : World) (base : Nat) : Byt w base (.slice none 0 0) [] := World.ownsRow_nil _ _ _ _
theorem xor_top {r : Nat} (h : r < 2 ^ 63) : r ^^^ 2 ^ 63 = r + 2 ^ 63 := by
  have e := Nat.two_pow_add_eq_or_of_lt h 1
  rw [Nat.mul_one] at e
  rw [Nat.add_comm, e]
  apply Nat.eq_of_testBit_eq
  intro j
  rw [Nat.testBit_xor, Nat.testBit_or, Nat.testBit_two_pow]
  by_cases hj : 63 = j
  · subst hj; simp [Nat.testBit_lt_two_pow h]
  · simp [hj]
theorem flip_sign {i : Int} (hi : -9223372036854775808 ≤ i ∧ i ≤ 9223372036854775807) : bits .xor .u64 (IntKind.u64.wrap i) 9223372036854775808 = (((i + 9223372036854775808).toNat : Nat) : Int) := by
  have hw : IntKind.u64.wrap i = i % 18446744073709551616 := rfl
  rw [hw, u64_xor _ _ (by omega) (by omega) (by decide) (by decide)]
  have h2 : (9223372036854775808 : Int).toNat = 2 ^ 63 := by decide
  rw [h2]
  congr 1
  have h63 : (2 : Nat) ^ 63 = 9223372036854775808 := by decide
  by_cases h0 : 0 ≤ i
  · rw [xor_top (by rw [h63]; omega), h63]; omega
  · have e : (i % 18446744073709551616).toNat = (i + 9223372036854775808).toNat ^^^ 2 ^ 63 := by
      rw [xor_top (by rw [h63]; omega), h63]; omega
    rw [e, Nat.xor_assoc, Nat.xor_self, Nat.xor_zero]

set_option maxHeartbeats 1000000 in
theorem kappendNumber_any (i : Int) (hi : -9223372036854775808 ≤ i ∧ i ≤ 9223372036854775807) (v : Value) (l : List UInt8) (base : Nat) (w : World) (hown : Byt w base v l) (hbase : base ≤ w.heap.size) (hl : l.length ≤ 70368744177664) :
    Calls Tryd.prog 54 #[v, .int .i64 i] w fun e w' => ∃ v', e = .returned v' ∧ Byt w' base v' (l ++ be 8 (i + 9223372036854775808).toNat) ∧ Upd w w' v v' := by
  obtain ⟨i0, hi0, hz0, hz1, hz2⟩ := info_parts info_u8
  have hx := flip_sign hi
  have hu : (i + 9223372036854775808).toNat < 18446744073709551616 := by omega
  generalize (i + 9223372036854775808).toNat = u at *
  clear hi
  go_enter Tryd.func54, Tryd.ntmps54
  go_wp2
  go_loopw [0, 6] (fun p s wr => ∃ k : Nat, k ≤ 8 ∧ s = .int .i64 (56 - 8 * (k : Int)) ∧ Byt wr base p (l ++ (be 8 u).take k) ∧ Upd w wr v p) (fun _ s _ => (intOf s + 8).toNat)
  case atStart => exact ⟨0, by omega, rfl, by simpa using hown, Upd.refl _ _⟩
  case round =>
    obtain ⟨k, hk, rfl, ho, hb⟩ := hrel
    clear hown hx
    by_cases hlt : k < 8
    · obtain ⟨b, hb0⟩ : ∃ b, b = UInt8.ofNat (u / 2 ^ (56 - 8 * k)) := ⟨_, rfl⟩
      have hbv : ((u : Int) / 2 ^ (56 - 8 * k) % 256) = (b.toNat : Int) := by rw [hb0]; simp
      have hn := Lib.hid (take_next (hb0 ▸ be_get 8 u k hlt : (be 8 u)[k]? = some b))
      have hz := hb.size
      have hlen : (l ++ (be 8 u).take k).length ≤ 70368744177680 := by have := List.length_take_le k (be 8 u); simp only [List.length_append]; omega
      clear hb0 hl
      go_wp2_with (at_builtin; refine wpList_append_src _ rfl (.tmp 14) (.tmp 19) 24 24 rfl base 5 _ _ 1 1 Tryd.underlying24 hi0 hz0 hz1 hz2 rfl _ _ _ rfl (ho.alloc _) _ 1 (bcells [b]) rfl (src_rd Tryd.underlying24 _ (rd_lit (by simp) rfl rfl) (by decide) (bcells_one _)) (by simp only [maxLen]; omega) (by omega) (by simp; omega) ?_; intro v1 w1 hown1 hg1 ha1)
      go_roundw
      case rel => exact ⟨k + 1, by omega, by go_num, by rw [hn.out, ← List.append_assoc]; exact byt_app hown1, (hb.alloc _).app hg1 ha1⟩
      case measure => simp [intOf]; omega
    · obtain rfl : k = 8 := by omega
      clear hl
      go_wp2
      go_ret
      exact ⟨_, rfl, by rw [List.take_of_length_le (by simp [be_length])] at ho; exact ho, hb⟩

set_option maxHeartbeats 1000000 in
theorem kappendValue_any (a : Val) (ha : rightB a = true) (ia : In63 a) (v : Value) (l : List UInt8) (base : Nat) (w : World) (hown : Byt w base v l) (hbase : base ≤ w.heap.size) (hl : l.length ≤ 70368744177000) :
    Calls Tryd.prog 39 #[v, .agg #[.int .u8 a.k, .int .i64 a.i, .string a.s, .bool a.b]] w fun e w' => ∃ v', e = .returned v' ∧ Byt w' base v' (l ++ enc a) ∧ Upd w w' v v' := by
  obtain ⟨i0, hi0, hz0, hz1, hz2⟩ := info_parts info_u8
  rcases right_cases ha with rfl | ⟨i, rfl⟩ | ⟨s, rfl, hs⟩ | ⟨x, rfl⟩
  · rw [enc_nul]
    go_enter Tryd.func39, Tryd.ntmps39
    go_wp2_with (at_builtin; refine wpList_append_src _ rfl (.tmp 37) (.tmp 38) 24 24 rfl base 5 _ _ 1 1 Tryd.underlying24 hi0 hz0 hz1 hz2 rfl _ _ _ rfl ((hown.alloc _).alloc _) _ 1 (bcells [1]) rfl (src_rd Tryd.underlying24 _ (rd_lit (by simp) rfl rfl) (by decide) (bcells_one _)) (by simp only [maxLen]; omega) (by omega) (by simp; omega) ?_; intro v1 w1 hown1 hg1 ha1)
    go_ret
    exact ⟨_, rfl, byt_app hown1, (((Upd.refl _ _).alloc _).alloc _).app hg1 ha1⟩
  · rw [enc_int]
    have ia' : -9223372036854775808 ≤ i ∧ i ≤ 9223372036854775807 := ia
    clear ha ia
    go_enter Tryd.func39, Tryd.ntmps39
    go_wp2
    go_region_held3 (fun w' => w'.cell? ⟨w.heap.size, 1, none⟩ = some (.int .i64 i)) (first | assumption | simp [*, go_sem, World.cell?_alloc_past])
      (first
       | (refine step_append_src _ (by rfl) (.tmp 19) (.tmp 20) 24 24 (by rfl) base 5 _ _ 1 1 Tryd.underlying24 hi0 hz0 hz1 hz2 rfl _ _ _ (by rfl) (((hown.alloc _).alloc _).drew) _ 1 (bcells [3]) (by rfl) (src_rd Tryd.underlying24 _ (rd_lit (by simp) rfl rfl) (by decide) (bcells_one _)) (by simp only [maxLen]; omega) (by omega) (by simp; omega) ?_; intro v1 w1 hown1 hg1 ha1; have hS : w1.cell? ⟨w.heap.size, 1, none⟩ = some (.int .i64 i) := hg1.cell (by simp) (hown.ne_new (Nat.le_refl _)))
       | (go_at_call 54; refine (kappendNumber_any i ia' v1 (l ++ [3]) base _ (byt_app hown1) (by have := hg1.size; simp at this; omega) (by simp; omega)).mono ?_; rintro e w2 ⟨v2, rfl, hown2, hu2⟩; have hS := hu2.cell hS (own_ne ha1 (hown.ne_new (Nat.le_refl _)) (by simp <;> omega))))
    go_wp2
    go_ret
    exact ⟨_, rfl, by simpa using hown2, by first | exact ((((Upd.refl _ _).alloc _).alloc _).drew.app hg1 ha1).trans hu2 | exact (((((Upd.refl _ _).alloc _).drew.alloc _).app hg1 ha1)).trans hu2⟩
  · rw [enc_text]
    have hs60 : s.size ≤ 60 := by unfold soundB at hs; simp at hs; exact hs.1
    clear ha ia hs
    go_enter Tryd.func39, Tryd.ntmps39
    go_wp2_with (first
      | (at_builtin; refine wpList_append_src _ rfl (.tmp 27) (.tmp 28) 24 24 rfl base 5 _ _ 1 1 Tryd.underlying24 hi0 hz0 hz1 hz2 rfl _ _ _ rfl ((hown.alloc _).alloc _) _ 1 (bcells [4]) rfl (src_rd Tryd.underlying24 _ (rd_lit (by simp) rfl rfl) (by decide) (bcells_one _)) (by simp only [maxLen]; omega) (by omega) (by simp; omega) ?_; intro v1 w1 hown1 hg1 ha1; have hz1' : w.heap.size + 1 < w1.heap.size := (by have := hg1.size; simp at this; omega); have hc1 : w1.cell? ⟨w.heap.size, 2, none⟩ = some (.string s) := hg1.cell (by simp) (hown.ne_new (Nat.le_refl _)))
      | (at_builtin; refine wpList_append_src _ rfl (.tmp 30) (.tmp 32) 24 9 rfl base 5 _ _ 1 1 Tryd.underlying24 hi0 hz0 hz1 hz2 rfl _ _ _ rfl hown1 _ _ _ rfl (Src.ofString _ Tryd.underlying9 s) (by simp only [maxLen]; omega) (by omega) (by omega) ?_; intro v2 w2 hown2 hg2 ha2)
      | (at_builtin; refine wpList_append_src _ rfl (.tmp 34) (.tmp 35) 24 24 rfl base 5 _ _ 1 1 Tryd.underlying24 hi0 hz0 hz1 hz2 rfl _ _ _ rfl (hown2.alloc _) _ 1 (bcells [0]) rfl (src_rd Tryd.underlying24 _ (rd_lit (by simp) rfl rfl) (by decide) (bcells_one _)) (by simp only [maxLen]; omega) (by omega) (by have := hg2.size; simp; omega) ?_; intro v3 w3 hown3 hg3 ha3))
    go_ret
    exact ⟨_, rfl, byt_of hown3 (by simp [bcells, byteCells]), ((((((Upd.refl _ _).alloc _).alloc _).app hg1 ha1).app hg2 ha2).alloc _).app hg3 ha3⟩
  · rw [enc_bool]
    clear ha ia
    cases x
    · go_enter Tryd.func39, Tryd.ntmps39
      go_wp2_with (at_builtin; refine wpList_append_src _ rfl (.tmp 14) (.tmp 15) 24 24 rfl base 5 _ _ 1 1 Tryd.underlying24 hi0 hz0 hz1 hz2 rfl _ _ _ rfl ((hown.alloc _).alloc _) _ 2 (bcells [2, 0]) rfl (src_rd Tryd.underlying24 _ (rd_lit (by simp) rfl rfl) (by decide) (bcells_one _)) (by simp only [maxLen]; omega) (by omega) (by simp; omega) ?_; intro v1 w1 hown1 hg1 ha1)
      go_ret
      exact ⟨_, rfl, byt_app hown1, (((Upd.refl _ _).alloc _).alloc _).app hg1 ha1⟩
    · go_enter Tryd.func39, Tryd.ntmps39
      go_wp2_with (at_builtin; refine wpList_append_src _ rfl (.tmp 11) (.tmp 12) 24 24 rfl base 5 _ _ 1 1 Tryd.underlying24 hi0 hz0 hz1 hz2 rfl _ _ _ rfl ((hown.alloc _).alloc _) _ 2 (bcells [2, 1]) rfl (src_rd Tryd.underlying24 _ (rd_lit (by simp) rfl rfl) (by decide) (bcells_one _)) (by simp only [maxLen]; omega) (by omega) (by simp; omega) ?_; intro v1 w1 hown1 hg1 ha1)
      go_ret
      exact ⟨_, rfl, byt_app hown1, (((Upd.refl _ _).alloc _).alloc _).app hg1 ha1⟩
end Go.Proofs.YtdlgobakoomkpaaDoor
