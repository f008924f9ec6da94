/-
  Package row: Read.
-/
import Derived.Test.YtdlgobakoomkpaaDoorRowG
import Derived.Test.YtdlgobakoomkpaaDoorKeyRead
import Derived.OwnWalk
namespace Go.Proofs.YtdlgobakoomkpaaDoor
open Go.RowKit

/-- A row of values as they are made: none of them is anything. -/
def nuls (n : Nat) : List Val := List.replicate n nulv
theorem nuls_next (acc : List Val) (n : Nat) : acc ++ nuls (n + 1) = (acc ++ [nulv]) ++ nuls n := by
  unfold nuls; rw [List.replicate_succ]; simp
theorem set_next (acc : List Val) (n : Nat) (v : Val) {k : Nat} (hk : acc.length = k) : (acc ++ nuls (n + 1)).set k v = (acc ++ [v]) ++ nuls n := by
  subst hk
  unfold nuls; rw [List.replicate_succ]; simp
theorem vcells_cons (a : Val) (l : List Val) : vcells (a :: l) = .int .u8 a.k :: .int .i64 a.i :: .string a.s :: .bool a.b :: vcells l := rfl
theorem vcells_set (v : Val) : ∀ (l : List Val) (k : Nat), k < l.length → ((((vcells l).set (k * 4) (.int .u8 v.k)).set (k * 4 + 1) (.int .i64 v.i)).set (k * 4 + 2) (.string v.s)).set (k * 4 + 3) (.bool v.b) = vcells (l.set k v)
  | [], k, h => by simp at h
  | a :: l, 0, _ => rfl
  | a :: l, k + 1, h => by
    have ih := vcells_set v l k (by simpa using h)
    have e : ∀ j, (k + 1) * 4 + j = (k * 4 + j) + 1 + 1 + 1 + 1 := fun j => by omega
    have e0 : (k + 1) * 4 = (k * 4) + 1 + 1 + 1 + 1 := by omega
    rw [List.set_cons_succ, vcells_cons, vcells_cons, e, e, e, e0]
    simp only [List.set_cons_succ]
    rw [ih]
theorem made_nuls (z : Value) (hz : z.cells = #[.int .u8 0, .int .i64 0, .string ⟨#[]⟩, .bool false]) (n : Nat) : (madeCells z.cells (n * 4)).toList = vcells (nuls n) := by
  rw [hz]
  apply List.ext_getElem?
  intro j
  by_cases hj : j < n * 4
  · obtain ⟨q, r, hq, hr⟩ : ∃ q r, j = q * 4 + r ∧ r < 4 := ⟨j / 4, j % 4, by omega, by omega⟩
    subst hq
    have hqn : q < n := by omega
    rw [vcells_at _ q (by unfold nuls; simpa using hqn) r hr]
    have e : (nuls n)[q]'(by unfold nuls; simpa using hqn) = nulv := by unfold nuls; simp
    rw [e]
    have hm : (madeCells #[.int .u8 0, .int .i64 0, .string ⟨#[]⟩, .bool false] (n * 4)).toList[q * 4 + r]? = some ((#[.int .u8 0, .int .i64 0, .string ⟨#[]⟩, .bool false] : Array Value)[(q * 4 + r) % 4]!) := by
      unfold madeCells
      rw [Array.getElem?_toList, Array.getElem?_map, Array.getElem?_range, if_pos hj]
      rfl
    have h4 : (q * 4 + r) % 4 = r := by omega
    rw [hm, h4]
    have : r = 0 ∨ r = 1 ∨ r = 2 ∨ r = 3 := by omega
    rcases this with rfl | rfl | rfl | rfl <;> rfl
  · rw [List.getElem?_eq_none (by simp [madeCells]; omega), List.getElem?_eq_none (by rw [vcells_length]; unfold nuls; simp; omega)]
theorem vls_shape {w : World} {base : Nat} {g n cap : Nat} {l : List Val} (h : Vls w base (.slice (some ⟨g, 0, none⟩) n cap) l) (hn : l.length = n) : w.ownsRow base 43 4 (.slice (some ⟨g, 0, none⟩) n cap) n (vcells l) := by
  subst hn; exact h
theorem own_four {w : World} {base g n cap : Nat} {l : List Val} (h : w.ownsRow base 43 4 (.slice (some ⟨g, 0, none⟩) n cap) n (vcells l)) {k : Nat} (hk : k < l.length) (hn : l.length = n) :
    (w.cell? ⟨g, k * 4, none⟩ = some (.int .u8 l[k].k) ∧ w.cell? ⟨g, k * 4 + 1, none⟩ = some (.int .i64 l[k].i) ∧ w.cell? ⟨g, k * 4 + 2, none⟩ = some (.string l[k].s) ∧ w.cell? ⟨g, k * 4 + 3, none⟩ = some (.bool l[k].b)) ∧
      w.frozen? ⟨g, k * 4, none⟩ = false ∧ w.frozen? ⟨g, k * 4 + 1, none⟩ = false ∧ w.frozen? ⟨g, k * 4 + 2, none⟩ = false ∧ w.frozen? ⟨g, k * 4 + 3, none⟩ = false :=
  ⟨⟨(h.cellAt (k * 4) (by omega)).trans (by have := vcells_at l k hk 0 (by decide); rw [Nat.add_zero] at this; rw [this]; rfl), (h.cellAt (k * 4 + 1) (by omega)).trans (by rw [vcells_at l k hk 1 (by decide)]; rfl), (h.cellAt (k * 4 + 2) (by omega)).trans (by rw [vcells_at l k hk 2 (by decide)]; rfl), (h.cellAt (k * 4 + 3) (by omega)).trans (by rw [vcells_at l k hk 3 (by decide)]; rfl)⟩,
    h.frozenAt _, h.frozenAt _, h.frozenAt _, h.frozenAt _⟩
theorem own_set4 {w : World} {base g n cap : Nat} {l : List Val} (h : w.ownsRow base 43 4 (.slice (some ⟨g, 0, none⟩) n cap) n (vcells l)) {k : Nat} (hk : k < l.length) (v : Val) :
    ((((w.setCell ⟨g, k * 4, none⟩ (.int .u8 v.k)).setCell ⟨g, k * 4 + 1, none⟩ (.int .i64 v.i)).setCell ⟨g, k * 4 + 2, none⟩ (.string v.s)).setCell ⟨g, k * 4 + 3, none⟩ (.bool v.b)).ownsRow base 43 4 (.slice (some ⟨g, 0, none⟩) n cap) n (vcells (l.set k v)) := by
  rw [← vcells_set v l k hk]
  exact ((((h.stored (k * 4) _).1.stored (k * 4 + 1) _).1.stored (k * 4 + 2) _).1.stored (k * 4 + 3) _).1
theorem idx_own (g n c k : Nat) (h : k < n) (W : World) : (Instr.indexAt 22 (.slice (some ⟨g, 0, none⟩) n c) (.int .i64 (k : Int))).run Tryd.prog W = .ok (.pointer (some ⟨g, k * 4, none⟩)) W := by
  rw [idx_val _ _ _ _ h, Addr.add_lit, Nat.zero_add]
theorem and_bit {b k : Nat} (hb : b < 256) : bits .and .u8 ((b : Int) / 2 ^ k) 1 = ((b / 2 ^ k % 2 : Nat) : Int) := by
  have e : ((b : Int) / 2 ^ k) = ((b / 2 ^ k : Nat) : Int) := by push_cast; rfl
  have h1 : b / 2 ^ k < 256 := Nat.lt_of_le_of_lt (Nat.div_le_self _ _) hb
  rw [e]
  generalize b / 2 ^ k = q at *
  rw [show (1 : Int) = ((1 : Nat) : Int) from rfl, u8_and_nat _ _ h1 (by decide), Nat.and_one_is_mod]
theorem rrE_eq {ks p : List UInt8} (h : kok ks = true) : rrE ks p = if (rrB ks p).isSome = true then 0 else 3 := if_pos h
theorem rrL_eq {ks p : List UInt8} (h : kok ks = true) : rrL ks p = (rrB ks p).getD [] := if_pos h
theorem rr_no {ks p : List UInt8} (h : kok ks = true) (hn : rrB ks p = none) : rrE ks p = 3 ∧ rrL ks p = [] := by
  rw [rrE_eq h, rrL_eq h, hn]; exact ⟨rfl, rfl⟩
theorem rr_yes {ks p : List UInt8} {l : List Val} (h : kok ks = true) (hn : rrB ks p = some l) : rrE ks p = 0 ∧ rrL ks p = l := by
  rw [rrE_eq h, rrL_eq h, hn]; exact ⟨rfl, rfl⟩
theorem div_bit (b k : Nat) : b / 2 ^ k / 2 = b / 2 ^ (k + 1) := by rw [Nat.div_div_eq_div_mul, Nat.pow_succ]

end Go.Proofs.YtdlgobakoomkpaaDoor
