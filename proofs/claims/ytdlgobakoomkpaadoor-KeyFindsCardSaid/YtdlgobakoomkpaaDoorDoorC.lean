/-
  From a law's row to the walks: slices of slices of values that came in.
-/
import Derived.Test.YtdlgobakoomkpaaDoorDoorB
namespace Go.Proofs.YtdlgobakoomkpaaDoor
open Go.ChangeShapes Go.WideShapes Go.ChangeAt Go.RowKit Go.Deep

/-- A row that lies in memory: its address, its spare, its values. -/
structure Lrow where
  A : Option Addr
  c : Nat
  l : List Val
def Lrow.ok (w : World) (r : Lrow) : Prop := r.l.length ≤ r.c ∧ r.c ≤ 9223372036854775807 ∧ Vrd w r.A r.l ∧ ∀ x ∈ r.l, ValOk x
/-- The slice at A reads as these rows. -/
def Rrd (w : World) (A : Option Addr) (rs : List Lrow) : Prop :=
  ∀ i (h : i < rs.length), ∃ ad : Addr, A = some ad ∧ w.cell? (ad.add i) = some (.slice rs[i].A rs[i].l.length rs[i].c) ∧ rs[i].ok w
theorem Rrd.below {w w' : World} {A : Option Addr} {rs : List Lrow} (h : Rrd w A rs) (hb : Below w.heap.size w w') : Rrd w' A rs := fun i hi => by
  obtain ⟨ad, e, hc, h1, h2, h3, h4⟩ := h i hi
  exact ⟨ad, e, (hb.cell (World.block_lt_of_cell? w _ hc)).trans hc, h1, h2, h3.below hb, h4⟩
section
variable {H : Type} {enc : TypeId × Value → H} {w : World} {base : Nat} {held : Bool}
theorem open_vals0 {A : Option Addr} {n c : Nat} {d : DataW H} {p : List MemPlace} (h : DataW.Trod enc Tryd.prog w base (fun _ => true) held 22 (.slice A n c) d p) :
    ∃ (A' : Option Addr) (c' : Nat) (l : List Val), Value.slice A n c = .slice A' l.length c' ∧ l.length ≤ c' ∧ c' ≤ 9223372036854775807 ∧ Vrd w A' l ∧ ∀ x ∈ l, ValOk x := by
  obtain ⟨fuel, hf⟩ := h
  rcases open_slice Tryd.underlying22 hf with ⟨hcs, _⟩ | ⟨a, len, cap, m, k, D, Pl, hcs, _, hl, hm, hmm, _, hi⟩
  · simp [Value.cells] at hcs
    obtain ⟨rfl, rfl, rfl⟩ := hcs
    exact ⟨none, 0, [], rfl, Nat.le_refl _, by omega, Rd.zero _ _ _, fun x hx => by simp at hx⟩
  · simp [Value.cells] at hcs
    obtain ⟨rfl, rfl, rfl⟩ := hcs
    simp only [if_true] at hmm
    unfold maxLen at hm
    have : Inhabited Val := ⟨⟨0, 0, ⟨#[]⟩, false⟩⟩
    obtain ⟨f, hfv⟩ := choose_lt (n := n) (p := fun i (x : Val) => ValOk x ∧ ∀ j (u : Value), ([.int .u8 x.k, .int .i64 x.i, .string x.s, .bool x.b] : List Value)[j]? = some u → w.cell? (a.add (i * 4 + j)) = some u) fun i hin => by
      obtain ⟨cs', hc, ht⟩ := hi i (by omega)
      obtain ⟨x, rfl, hx⟩ := trod_val ht
      rw [cells_val] at hc
      obtain ⟨_, _, hat⟩ := World.cells?_some hc
      refine ⟨x, hx, fun j u hu => ?_⟩
      have hj : j < 4 := (List.getElem?_eq_some_iff.1 hu).1
      rw [← aadd, hat j hj, hu]
    have hlen : ((List.range n).map f).length = n := by simp
    refine ⟨some a, c, (List.range n).map f, by rw [hlen], by rw [hlen]; exact hl, by omega, ?_, fun x hx => ?_⟩
    · refine ⟨vcells_length _, fun j u hu => ⟨a, rfl, ?_⟩⟩
      have hj : j < n * 4 := by have := (List.getElem?_eq_some_iff.1 hu).1; rw [vcells_length, hlen] at this; exact this
      obtain ⟨q, r', hq, hr⟩ : ∃ q r', j = q * 4 + r' ∧ r' < 4 := ⟨j / 4, j % 4, by omega, by omega⟩
      subst hq
      have hqn : q < n := by omega
      rw [vcells_at _ q (by rw [hlen]; exact hqn) r' hr] at hu
      have e : ((List.range n).map f)[q]'(by rw [hlen]; exact hqn) = f q := by simp
      rw [e] at hu
      exact (hfv q hqn).2 r' u hu
    · obtain ⟨i, hin, rfl⟩ := List.mem_map.1 hx
      exact (hfv i (List.mem_range.1 hin)).1
theorem trod_vals {n : Nat} {cs : List Value} {y : DataW H × List MemPlace} (h : DataW.trod enc Tryd.prog w base (fun _ => true) held n 22 cs = some y) :
    ∃ r : Lrow, cs = [.slice r.A r.l.length r.c] ∧ r.ok w := by
  have hcs : ∃ v, cs = [v] := by
    rcases open_slice Tryd.underlying22 h with ⟨hcs, _⟩ | ⟨a, len, cap, m, k, D, Pl, hcs, _⟩
    · exact ⟨_, hcs⟩
    · exact ⟨_, hcs⟩
  obtain ⟨v, rfl⟩ := hcs
  have hv : ∃ A len c, v = .slice A len c := by
    rcases open_slice Tryd.underlying22 h with ⟨hcs, _⟩ | ⟨a, len, cap, m, k, D, Pl, hcs, _⟩
    · exact ⟨_, _, _, List.cons.inj hcs |>.1⟩
    · exact ⟨_, _, _, List.cons.inj hcs |>.1⟩
  obtain ⟨A0, n0, c0, rfl⟩ := hv
  have hT : DataW.Trod enc Tryd.prog w base (fun _ => true) held 22 (.slice A0 n0 c0) y.1 y.2 := ⟨n, by simpa [Value.cells] using h⟩
  obtain ⟨A, c, l, e, h1, h2, h3, h4⟩ := open_vals0 hT
  exact ⟨⟨A, c, l⟩, by rw [e], h1, h2, h3, h4⟩
theorem cells_vals : Tryd.prog.cellsOf 22 = 1 := by kernel_rfl
theorem open_valss {r : Reach} {b0 : Nat} {v : Value} {d : DataW H} {p : List MemPlace} (hv : Value.okWide Tryd.prog w r b0 45 v) (h : DataW.Trod enc Tryd.prog w base (fun _ => true) held 45 v d p) :
    ∃ (A : Option Addr) (c : Nat) (rs : List Lrow), v = .slice A rs.length c ∧ rs.length ≤ c ∧ c ≤ 9223372036854775807 ∧ Rrd w A rs := by
  obtain ⟨A, n, c, rfl⟩ := okWide_slice Tryd.underlying45 hv
  obtain ⟨fuel, hf⟩ := h
  rcases open_slice Tryd.underlying45 hf with ⟨hcs, _⟩ | ⟨a, len, cap, m, k, D, Pl, hcs, _, hl, hm, hmm, _, hi⟩
  · simp [Value.cells] at hcs
    obtain ⟨rfl, rfl, rfl⟩ := hcs
    exact ⟨none, 0, [], rfl, Nat.le_refl _, by omega, fun i hi => by simp at hi⟩
  · simp [Value.cells] at hcs
    obtain ⟨rfl, rfl, rfl⟩ := hcs
    simp only [if_true] at hmm
    unfold maxLen at hm
    have : Inhabited Lrow := ⟨⟨none, 0, []⟩⟩
    obtain ⟨f, hfv⟩ := choose_lt (n := n) (p := fun i (x : Lrow) => w.cell? (a.add i) = some (.slice x.A x.l.length x.c) ∧ x.ok w) fun i hin => by
      obtain ⟨cs', hc, ht⟩ := hi i (by omega)
      obtain ⟨x, rfl, hx⟩ := trod_vals ht
      rw [cells_vals] at hc
      obtain ⟨_, _, hat⟩ := World.cells?_some hc
      refine ⟨x, ?_, hx⟩
      have := hat 0 (by omega)
      rw [Nat.mul_one, aadd, Nat.add_zero] at this
      exact this
    have hlen : ((List.range n).map f).length = n := by simp
    refine ⟨some a, c, (List.range n).map f, by rw [hlen], by rw [hlen]; exact hl, by omega, fun i hi => ⟨a, rfl, ?_⟩⟩
    have hin : i < n := by rw [hlen] at hi; exact hi
    have e : ((List.range n).map f)[i] = f i := by simp
    rw [e]
    exact hfv i hin
end
end Go.Proofs.YtdlgobakoomkpaaDoor
