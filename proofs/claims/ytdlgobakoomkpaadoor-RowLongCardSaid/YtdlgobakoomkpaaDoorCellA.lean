/-
  Package cell, its small functions: what a value holds; kinds by their order; the order of two; packing.
-/
import Derived.Test.YtdlgobakoomkpaaDoorNum
import Derived.Test.YtdlgobakoomkpaaDoorCellTa
import Derived.WalkSpells
import Derived.WalkLawsBesides
import Derived.Lib.Hide
namespace Go.Proofs.YtdlgobakoomkpaaDoor
open Go.RowKit

/-- A value of api, field by field. -/
structure Val where
  k : Int
  i : Int
  s : ByteArray
  b : Bool
/-- What 'any' holds. -/
inductive Held where
  | nil
  | bool (b : Bool)
  | int (i : Int)
  | text (s : ByteArray)
  | kind (k : Int)
def Held.val : Held → Value
  | .nil => .nilIface
  | .bool b => .iface 4 (.bool b)
  | .int i => .iface 2 (.int .i64 i)
  | .text s => .iface 9 (.string s)
  | .kind k => .iface 41 (.int .u8 k)
def opn (v : Val) : Held :=
  if v.k = 0 then .nil else if v.k = 3 then .bool v.b else if v.k = 1 then .int v.i else if v.k = 2 then .text v.s else .kind v.k

theorem opn0 {v : Val} (h : v.k = 0) : opn v = .nil := if_pos h
theorem opn3 {v : Val} (h : v.k = 3) : opn v = .bool v.b := by unfold opn; rw [if_neg (by omega), if_pos h]
theorem opn1 {v : Val} (h : v.k = 1) : opn v = .int v.i := by unfold opn; rw [if_neg (by omega), if_neg (by omega), if_pos h]
theorem opn2 {v : Val} (h : v.k = 2) : opn v = .text v.s := by unfold opn; rw [if_neg (by omega), if_neg (by omega), if_neg (by omega), if_pos h]
theorem opn4 {v : Val} (h0 : ¬ v.k = 0) (h3 : ¬ v.k = 3) (h1 : ¬ v.k = 1) (h2 : ¬ v.k = 2) : opn v = .kind v.k := by unfold opn; rw [if_neg h0, if_neg h3, if_neg h1, if_neg h2]

set_option maxHeartbeats 400000 in
theorem open_any (v : Val) (w : World) :
    Calls Tryd.prog 51 #[.agg #[.int .u8 v.k, .int .i64 v.i, .string v.s, .bool v.b]] w fun e w' => e = .returned (opn v).val ∧ ∃ c : Array Value, w' = w.alloc (.cells c 43) := by
  by_cases h0 : v.k = 0
  · rw [opn0 h0]
    obtain ⟨k, i, s, b⟩ := v
    obtain rfl : k = 0 := h0
    go_enter Tryd.func51, Tryd.ntmps51
    go_wp2
    go_ret
    exact ⟨rfl, _, rfl⟩
  · by_cases h3 : v.k = 3
    · rw [opn3 h3]
      obtain ⟨k, i, s, b⟩ := v
      obtain rfl : k = 3 := h3
      clear h0
      go_enter Tryd.func51, Tryd.ntmps51
      go_wp2
      go_ret
      exact ⟨rfl, _, rfl⟩
    · by_cases h1 : v.k = 1
      · rw [opn1 h1]
        obtain ⟨k, i, s, b⟩ := v
        obtain rfl : k = 1 := h1
        clear h0 h3
        go_enter Tryd.func51, Tryd.ntmps51
        go_wp2
        go_ret
        exact ⟨rfl, _, rfl⟩
      · by_cases h2 : v.k = 2
        · rw [opn2 h2]
          obtain ⟨k, i, s, b⟩ := v
          obtain rfl : k = 2 := h2
          clear h0 h3 h1
          go_enter Tryd.func51, Tryd.ntmps51
          go_wp2
          go_ret
          exact ⟨rfl, _, rfl⟩
        · rw [opn4 h0 h3 h1 h2]
          obtain ⟨k, i, s, b⟩ := v
          have g0 : (k == 0) = false := by simpa using h0
          have g3 : (k == 3) = false := by simpa using h3
          have g1 : (k == 1) = false := by simpa using h1
          have g2 : (k == 2) = false := by simpa using h2
          clear h0 h1 h2 h3
          go_enter Tryd.func51, Tryd.ntmps51
          go_wp2
          go_ret
          exact ⟨rfl, _, rfl⟩

/-- Kinds by their order. -/
def rnk : Held → Int
  | .nil => 0
  | .bool _ => 1
  | .int _ => 2
  | .text _ => 3
  | .kind _ => 4
/-- Is a text ahead of another one? -/
def sless (s t : ByteArray) : Bool := Op.bytesLess s.toList t.toList
def seq (s t : ByteArray) : Bool := s.toList == t.toList
theorem less_iff : ∀ (x y : List UInt8), Op.bytesLess x y = decide (x < y)
  | _, [] => by simp [Op.bytesLess]
  | [], _ :: _ => by simp [Op.bytesLess]
  | a :: x, b :: y => by
    rw [Op.bytesLess, less_iff x y]
    by_cases h : a = b
    · subst h; simp
    · by_cases h' : a < b <;> simp [List.cons_lt_cons_iff, h, h']
theorem sless_iff (s t : ByteArray) : sless s t = decide (s.toList < t.toList) := less_iff _ _
/-- The order of two: -1, 0 or 1. -/
def ordB (a b : Bool) : Int := if a = b then 0 else if b = true then -1 else 1
def ordI (a b : Int) : Int := if a < b then -1 else if b < a then 1 else 0
def ordS (a b : ByteArray) : Int := if sless a b = true then -1 else if seq a b = true then 0 else 1
def ord2 : Held → Held → Int
  | .bool a, .bool b => ordB a b
  | .int a, .int b => ordI a b
  | .text a, .text b => ordS a b
  | _, _ => 0

end Go.Proofs.YtdlgobakoomkpaaDoor
