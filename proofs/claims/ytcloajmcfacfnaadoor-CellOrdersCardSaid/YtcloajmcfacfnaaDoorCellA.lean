/-
  Package cell, its small functions: what a value holds; kinds by their order; the order of two; packing.
-/
import Derived.Test.YtcloajmcfacfnaaDoorNum
import Derived.Test.YtcloajmcfacfnaaDoorCellTa
import Derived.WalkSpells
import Derived.WalkLawsBesides
import Derived.Lib.Hide
namespace Go.Proofs.YtcloajmcfacfnaaDoor
open Go.RowKit

/-- A value of api, field by field. -/
structure Val where
  k : Int
  i : Int
  s : ByteArray
  b : Bool
/-- What 'any' holds. -/
inductive Held where
  | nil
  | bool (b : Bool)
  | int (i : Int)
  | text (s : ByteArray)
  | kind (k : Int)
def Held.val : Held → Value
  | .nil => .nilIface
  | .bool b => .iface 4 (.bool b)
  | .int i => .iface 2 (.int .i64 i)
  | .text s => .iface 9 (.string s)
  | .kind k => .iface 30 (.int .u8 k)
def opn (v : Val) : Held :=
  if v.k = 0 then .nil else if v.k = 3 then .bool v.b else if v.k = 1 then .int v.i else if v.k = 2 then .text v.s else .kind v.k

theorem opn0 {v : Val} (h : v.k = 0) : opn v = .nil := if_pos h
theorem opn3 {v : Val} (h : v.k = 3) : opn v = .bool v.b := by unfold opn; rw [if_neg (by omega), if_pos h]
theorem opn1 {v : Val} (h : v.k = 1) : opn v = .int v.i := by unfold opn; rw [if_neg (by omega), if_neg (by omega), if_pos h]
theorem opn2 {v : Val} (h : v.k = 2) : opn v = .text v.s := by unfold opn; rw [if_neg (by omega), if_neg (by omega), if_neg (by omega), if_pos h]
theorem opn4 {v : Val} (h0 : ¬ v.k = 0) (h3 : ¬ v.k = 3) (h1 : ¬ v.k = 1) (h2 : ¬ v.k = 2) : opn v = .kind v.k := by unfold opn; rw [if_neg h0, if_neg h3, if_neg h1, if_neg h2]

set_option maxHeartbeats 400000 in
theorem open_any (v : Val) (w : World) :
    Calls Tryd.prog 38 #[.agg #[.int .u8 v.k, .int .i64 v.i, .string v.s, .bool v.b]] w fun e w' => e = .returned (opn v).val ∧ ∃ c : Array Value, w' = w.alloc (.cells c 32) := by
  by_cases h0 : v.k = 0
  · rw [opn0 h0]
    obtain ⟨k, i, s, b⟩ := v
    obtain rfl : k = 0 := h0
    go_enter Tryd.func38, Tryd.ntmps38
    go_wp2
    go_ret
    exact ⟨rfl, _, rfl⟩
  · by_cases h3 : v.k = 3
    · rw [opn3 h3]
      obtain ⟨k, i, s, b⟩ := v
      obtain rfl : k = 3 := h3
      clear h0
      go_enter Tryd.func38, Tryd.ntmps38
      go_wp2
      go_ret
      exact ⟨rfl, _, rfl⟩
    · by_cases h1 : v.k = 1
      · rw [opn1 h1]
        obtain ⟨k, i, s, b⟩ := v
        obtain rfl : k = 1 := h1
        clear h0 h3
        go_enter Tryd.func38, Tryd.ntmps38
        go_wp2
        go_ret
        exact ⟨rfl, _, rfl⟩
      · by_cases h2 : v.k = 2
        · rw [opn2 h2]
          obtain ⟨k, i, s, b⟩ := v
          obtain rfl : k = 2 := h2
          clear h0 h3 h1
          go_enter Tryd.func38, Tryd.ntmps38
          go_wp2
          go_ret
          exact ⟨rfl, _, rfl⟩
        · rw [opn4 h0 h3 h1 h2]
          obtain ⟨k, i, s, b⟩ := v
          have g0 : (k == 0) = false := by simpa using h0
          have g3 : (k == 3) = false := by simpa using h3
          have g1 : (k == 1) = false := by simpa using h1
          have g2 : (k == 2) = false := by simpa using h2
          clear h0 h1 h2 h3
          go_enter Tryd.func38, Tryd.ntmps38
          go_wp2
          go_ret
          exact ⟨rfl, _, rfl⟩

/-- Kinds by their order. -/
def rnk : Held → Int
  | .nil => 0
  | .bool _ => 1
  | .int _ => 2
  | .text _ => 3
  | .kind _ => 4
set_option maxHeartbeats 400000 in
theorem rank_any (h : Held) (w : World) :
    Calls Tryd.prog 42 #[h.val] w fun e w' => e = .returned (.int .i64 (rnk h)) ∧ w = w' := by
  cases h with
  | nil =>
    have f1 := ta_nil_B
    have f2 := ta_nil_I
    have f3 := ta_nil_S
    simp only [Held.val, rnk]
    go_enter Tryd.func42, Tryd.ntmps42
    go_wp2
    go_ret
    exact ⟨rfl, rfl⟩
  | bool x =>
    have f1 := ta_bool_B x
    simp only [Held.val, rnk]
    go_enter Tryd.func42, Tryd.ntmps42
    go_wp2
    go_ret
    exact ⟨rfl, rfl⟩
  | int x =>
    have f1 := ta_int_B x
    have f2 := ta_int_I x
    simp only [Held.val, rnk]
    go_enter Tryd.func42, Tryd.ntmps42
    go_wp2
    go_ret
    exact ⟨rfl, rfl⟩
  | text x =>
    have f1 := ta_text_B x
    have f2 := ta_text_I x
    have f3 := ta_text_S x
    simp only [Held.val, rnk]
    go_enter Tryd.func42, Tryd.ntmps42
    go_wp2
    go_ret
    exact ⟨rfl, rfl⟩
  | kind x =>
    have f1 := ta_kind_B x
    have f2 := ta_kind_I x
    have f3 := ta_kind_S x
    simp only [Held.val, rnk]
    go_enter Tryd.func42, Tryd.ntmps42
    go_wp2
    go_ret
    exact ⟨rfl, rfl⟩

/-- Is a text ahead of another one? -/
def sless (s t : ByteArray) : Bool := Op.bytesLess s.toList t.toList
def seq (s t : ByteArray) : Bool := s.toList == t.toList
theorem less_iff : ∀ (x y : List UInt8), Op.bytesLess x y = decide (x < y)
  | _, [] => by simp [Op.bytesLess]
  | [], _ :: _ => by simp [Op.bytesLess]
  | a :: x, b :: y => by
    rw [Op.bytesLess, less_iff x y]
    by_cases h : a = b
    · subst h; simp
    · by_cases h' : a < b <;> simp [List.cons_lt_cons_iff, h, h']
theorem sless_iff (s t : ByteArray) : sless s t = decide (s.toList < t.toList) := less_iff _ _
/-- The order of two: -1, 0 or 1. -/
def ordB (a b : Bool) : Int := if a = b then 0 else if b = true then -1 else 1
def ordI (a b : Int) : Int := if a < b then -1 else if b < a then 1 else 0
def ordS (a b : ByteArray) : Int := if sless a b = true then -1 else if seq a b = true then 0 else 1
def ord2 : Held → Held → Int
  | .bool a, .bool b => ordB a b
  | .int a, .int b => ordI a b
  | .text a, .text b => ordS a b
  | _, _ => 0

set_option maxHeartbeats 400000 in
theorem orderBools_any (a b : Bool) (w : World) :
    Calls Tryd.prog 55 #[.bool a, .bool b] w fun e w' => e = .returned (.int .i64 (ordB a b)) ∧ w = w' := by
  cases a <;> cases b
  all_goals
    go_enter Tryd.func55, Tryd.ntmps55
    go_wp2
    go_ret
    exact ⟨rfl, rfl⟩

set_option maxHeartbeats 400000 in
theorem cmpI_any (a b : Int) (w : World) :
    Calls Tryd.prog 56 #[.int .i64 a, .int .i64 b] w fun e w' => e = .returned (.int .i64 (ordI a b)) ∧ w = w' := by
  unfold ordI
  by_cases h : a < b
  · rw [if_pos h]
    go_enter Tryd.func56, Tryd.ntmps56
    go_wp2
    go_ret
    exact ⟨rfl, rfl⟩
  · rw [if_neg h]
    by_cases h' : b < a
    · rw [if_pos h']
      go_enter Tryd.func56, Tryd.ntmps56
      go_wp2
      go_ret
      exact ⟨rfl, rfl⟩
    · rw [if_neg h']
      go_enter Tryd.func56, Tryd.ntmps56
      go_wp2
      go_ret
      exact ⟨rfl, rfl⟩

set_option maxHeartbeats 400000 in
theorem cmpS_any (a b : ByteArray) (w : World) :
    Calls Tryd.prog 57 #[.string a, .string b] w fun e w' => e = .returned (.int .i64 (ordS a b)) ∧ w = w' := by
  unfold ordS sless seq
  by_cases h : Op.bytesLess a.toList b.toList = true
  · rw [if_pos h]
    go_enter Tryd.func57, Tryd.ntmps57
    go_wp2
    go_ret
    exact ⟨rfl, rfl⟩
  · rw [if_neg h]
    have h1 : Op.bytesLess a.toList b.toList = false := by simpa using h
    by_cases h' : (a.toList == b.toList) = true
    · rw [if_pos h']
      clear h
      go_enter Tryd.func57, Tryd.ntmps57
      go_wp2
      go_ret
      exact ⟨rfl, rfl⟩
    · rw [if_neg h']
      have h2 : (a.toList == b.toList) = false := by simpa using h'
      clear h h'
      go_enter Tryd.func57, Tryd.ntmps57
      go_wp2
      go_ret
      exact ⟨rfl, rfl⟩

set_option maxHeartbeats 400000 in
theorem order_any (x y : Held) (hr : rnk x = rnk y) (w : World) :
    Calls Tryd.prog 43 #[x.val, y.val] w fun e w' => e = .returned (.int .i64 (ord2 x y)) ∧ w = w' := by
  cases x with
  | nil =>
    cases y with
    | nil =>
      clear hr
      have f0 := ta_nil_B
      have f1 := ta_nil_I
      have f2 := ta_nil_S
      simp only [Held.val, ord2]
      go_enter Tryd.func43, Tryd.ntmps43
      go_wp2
      go_ret
      exact ⟨rfl, rfl⟩
    | bool _ => exact absurd hr (by simp [rnk])
    | int _ => exact absurd hr (by simp [rnk])
    | text _ => exact absurd hr (by simp [rnk])
    | kind _ => exact absurd hr (by simp [rnk])
  | bool x =>
    cases y with
    | nil => exact absurd hr (by simp [rnk])
    | bool y =>
      clear hr
      have f0 := ta_bool_B x
      have f1 := tp_bool_B y
      simp only [Held.val, ord2]
      go_enter Tryd.func43, Tryd.ntmps43
      go_wp2_with (first | (go_at_call 55; (with_reducible refine (orderBools_any _ _ _).mono ?_); rintro e w' ⟨rfl, rfl⟩) | (go_at_call 56; (with_reducible refine (cmpI_any _ _ _).mono ?_); rintro e w' ⟨rfl, rfl⟩) | (go_at_call 57; (with_reducible refine (cmpS_any _ _ _).mono ?_); rintro e w' ⟨rfl, rfl⟩))
      go_ret
      exact ⟨rfl, rfl⟩
    | int _ => exact absurd hr (by simp [rnk])
    | text _ => exact absurd hr (by simp [rnk])
    | kind _ => exact absurd hr (by simp [rnk])
  | int x =>
    cases y with
    | nil => exact absurd hr (by simp [rnk])
    | bool _ => exact absurd hr (by simp [rnk])
    | int y =>
      clear hr
      have f0 := ta_int_B x
      have f1 := ta_int_I x
      have f2 := tp_int_I y
      simp only [Held.val, ord2]
      go_enter Tryd.func43, Tryd.ntmps43
      go_wp2_with (first | (go_at_call 55; (with_reducible refine (orderBools_any _ _ _).mono ?_); rintro e w' ⟨rfl, rfl⟩) | (go_at_call 56; (with_reducible refine (cmpI_any _ _ _).mono ?_); rintro e w' ⟨rfl, rfl⟩) | (go_at_call 57; (with_reducible refine (cmpS_any _ _ _).mono ?_); rintro e w' ⟨rfl, rfl⟩))
      go_ret
      exact ⟨rfl, rfl⟩
    | text _ => exact absurd hr (by simp [rnk])
    | kind _ => exact absurd hr (by simp [rnk])
  | text x =>
    cases y with
    | nil => exact absurd hr (by simp [rnk])
    | bool _ => exact absurd hr (by simp [rnk])
    | int _ => exact absurd hr (by simp [rnk])
    | text y =>
      clear hr
      have f0 := ta_text_B x
      have f1 := ta_text_I x
      have f2 := ta_text_S x
      have f3 := tp_text_S y
      simp only [Held.val, ord2]
      go_enter Tryd.func43, Tryd.ntmps43
      go_wp2_with (first | (go_at_call 55; (with_reducible refine (orderBools_any _ _ _).mono ?_); rintro e w' ⟨rfl, rfl⟩) | (go_at_call 56; (with_reducible refine (cmpI_any _ _ _).mono ?_); rintro e w' ⟨rfl, rfl⟩) | (go_at_call 57; (with_reducible refine (cmpS_any _ _ _).mono ?_); rintro e w' ⟨rfl, rfl⟩))
      go_ret
      exact ⟨rfl, rfl⟩
    | kind _ => exact absurd hr (by simp [rnk])
  | kind x =>
    cases y with
    | nil => exact absurd hr (by simp [rnk])
    | bool _ => exact absurd hr (by simp [rnk])
    | int _ => exact absurd hr (by simp [rnk])
    | text _ => exact absurd hr (by simp [rnk])
    | kind y =>
      clear hr
      have f0 := ta_kind_B x
      have f1 := ta_kind_I x
      have f2 := ta_kind_S x
      simp only [Held.val, ord2]
      go_enter Tryd.func43, Tryd.ntmps43
      go_wp2
      go_ret
      exact ⟨rfl, rfl⟩
end Go.Proofs.YtcloajmcfacfnaaDoor
