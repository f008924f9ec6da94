/-
  From a law's row to the walks: slices of bytes and of values that came in.
-/
import Derived.Test.YtdlgobakoomkpaaDoorVrd
import Derived.Test.YtdlgobakoomkpaaDoorBin
import Derived.Deep.Slices
import Derived.Deep.Fields
import Derived.Carry
namespace Go.Proofs.YtdlgobakoomkpaaDoor
open Go.ChangeShapes Go.WideShapes Go.ChangeAt Go.RowKit Go.Deep

theorem laidOut : laidOutB Tryd.prog = true := by kernel_rfl
section
variable {H : Type} {enc : TypeId × Value → H} {w : World} {base : Nat} {held : Bool}
theorem wf_u8 {n : Int} (h : (Lit.int .u8 n).wf = true) : 0 ≤ n ∧ n < 256 := by
  simp [Lit.wf, IntKind.min, IntKind.max, IntKind.signed, IntKind.bits] at h
  omega
theorem open_bytes {r : Reach} {b0 : Nat} {v : Value} {d : DataW H} {p : List MemPlace} (hv : Value.okWide Tryd.prog w r b0 24 v) (h : DataW.Trod enc Tryd.prog w base (fun _ => true) held 24 v d p) :
    ∃ (A : Option Addr) (c : Nat) (l : List UInt8), v = .slice A l.length c ∧ l.length ≤ c ∧ c ≤ 9223372036854775807 ∧ Brd w A l := by
  obtain ⟨A, n, c, rfl⟩ := okWide_slice Tryd.underlying24 hv
  obtain ⟨fuel, hf⟩ := h
  rcases open_ints Tryd.underlying24 Tryd.underlying5 (by kernel_rfl) hf with ⟨hcs, _⟩ | ⟨a, len, cap, zs, hcs, _, hl, hm, hz, _, hcell, hwz⟩
  · simp [Value.cells] at hcs
    obtain ⟨rfl, rfl, rfl⟩ := hcs
    exact ⟨none, 0, [], rfl, Nat.le_refl _, by omega, Rd.zero _ _ _⟩
  · simp [Value.cells] at hcs
    obtain ⟨rfl, rfl, rfl⟩ := hcs
    simp only [if_true] at hz
    unfold maxLen at hm
    have hlen : (((zs.take n).map fun x => UInt8.ofNat x.toNat)).length = n := by simp; omega
    refine ⟨some a, c, (zs.take n).map fun x => UInt8.ofNat x.toNat, by rw [hlen], by rw [hlen]; exact hl, by omega, ?_⟩
    refine ⟨by rw [bcells_length, Nat.mul_one], fun j u hu => ⟨a, rfl, ?_⟩⟩
    have hj : j < n := by have := (List.getElem?_eq_some_iff.1 hu).1; rw [bcells_length, hlen] at this; exact this
    rw [hcell j (by omega)]
    unfold bcells at hu
    rw [List.getElem?_map, List.getElem?_map, List.getElem?_take_of_lt hj, List.getElem?_eq_getElem (by omega)] at hu
    simp only [Option.map_some, Option.some.injEq] at hu
    have hb := wf_u8 (hwz zs[j] (List.getElem_mem _))
    rw [List.getD_eq_getElem?_getD, List.getElem?_eq_getElem (by omega), Option.getD_some, ← hu]
    congr 2
    simp
    omega
theorem trod_val {spare : Nat → Bool} {n : Nat} {cs : List Value} {y : DataW H × List MemPlace} (h : DataW.trod enc Tryd.prog w base spare held n 43 cs = some y) :
    ∃ x : Val, cs = [.int .u8 x.k, .int .i64 x.i, .string x.s, .bool x.b] ∧ ValOk x := by
  obtain ⟨xs, m, _, _, hcl, hlen, hf⟩ := DataW.trod_struct Tryd.underlying43 h
  rw [cells_val] at hcl
  match cs, hcl, xs, hlen with
  | [c0, c1, c2, c3], _, [z0, z1, z2, z3], _ =>
    have h0 : _ = some z0 := hf 0 _ rfl
    have h1 : _ = some z1 := hf 1 _ rfl
    have h2 : _ = some z2 := hf 2 _ rfl
    have h3 : _ = some z3 := hf 3 _ rfl
    obtain ⟨k, e0, _, w0⟩ := DataW.trod_int Tryd.underlying41 h0
    obtain ⟨i, e1, _, w1⟩ := DataW.trod_int Tryd.underlying2 h1
    obtain ⟨s, e2, _, w2⟩ := DataW.trod_string Tryd.underlying9 h2
    obtain ⟨b, e3, _⟩ := DataW.trod_bool Tryd.underlying4 h3
    have k0 : Tryd.prog.cellsOf 41 = 1 := by kernel_rfl
    have k1 : Tryd.prog.cellsOf 2 = 1 := by kernel_rfl
    have k2 : Tryd.prog.cellsOf 9 = 1 := by kernel_rfl
    have k3 : Tryd.prog.cellsOf 4 = 1 := by kernel_rfl
    simp [k0] at e0
    simp [k1] at e1
    simp [k2] at e2
    simp [k3] at e3
    subst e0 e1 e2 e3
    exact ⟨⟨k, i, s, b⟩, rfl, ⟨w0, w1, w2⟩⟩
theorem open_vals {r : Reach} {b0 : Nat} {v : Value} {d : DataW H} {p : List MemPlace} (hv : Value.okWide Tryd.prog w r b0 22 v) (h : DataW.Trod enc Tryd.prog w base (fun _ => true) held 22 v d p) :
    ∃ (A : Option Addr) (c : Nat) (l : List Val), v = .slice A l.length c ∧ l.length ≤ c ∧ c ≤ 9223372036854775807 ∧ Vrd w A l ∧ ∀ x ∈ l, ValOk x := by
  obtain ⟨A, n, c, rfl⟩ := okWide_slice Tryd.underlying22 hv
  obtain ⟨fuel, hf⟩ := h
  rcases open_slice Tryd.underlying22 hf with ⟨hcs, _⟩ | ⟨a, len, cap, m, k, D, Pl, hcs, _, hl, hm, hmm, _, hi⟩
  · simp [Value.cells] at hcs
    obtain ⟨rfl, rfl, rfl⟩ := hcs
    exact ⟨none, 0, [], rfl, Nat.le_refl _, by omega, Rd.zero _ _ _, fun x hx => by simp at hx⟩
  · simp [Value.cells] at hcs
    obtain ⟨rfl, rfl, rfl⟩ := hcs
    simp only [if_true] at hmm
    unfold maxLen at hm
    have : Inhabited Val := ⟨⟨0, 0, ⟨#[]⟩, false⟩⟩
    obtain ⟨f, hfv⟩ := choose_lt (n := n) (p := fun i (x : Val) => ValOk x ∧ ∀ j (u : Value), ([.int .u8 x.k, .int .i64 x.i, .string x.s, .bool x.b] : List Value)[j]? = some u → w.cell? (a.add (i * 4 + j)) = some u) fun i hin => by
      obtain ⟨cs', hc, ht⟩ := hi i (by omega)
      obtain ⟨x, rfl, hx⟩ := trod_val ht
      rw [cells_val] at hc
      obtain ⟨_, _, hat⟩ := World.cells?_some hc
      refine ⟨x, hx, fun j u hu => ?_⟩
      have hj : j < 4 := (List.getElem?_eq_some_iff.1 hu).1
      rw [← aadd, hat j hj, hu]
    have hlen : ((List.range n).map f).length = n := by simp
    refine ⟨some a, c, (List.range n).map f, by rw [hlen], by rw [hlen]; exact hl, by omega, ?_, fun x hx => ?_⟩
    · refine ⟨vcells_length _, fun j u hu => ⟨a, rfl, ?_⟩⟩
      have hj : j < n * 4 := by have := (List.getElem?_eq_some_iff.1 hu).1; rw [vcells_length, hlen] at this; exact this
      obtain ⟨q, r', hq, hr⟩ : ∃ q r', j = q * 4 + r' ∧ r' < 4 := ⟨j / 4, j % 4, by omega, by omega⟩
      subst hq
      have hqn : q < n := by omega
      rw [vcells_at _ q (by rw [hlen]; exact hqn) r' hr] at hu
      have e : ((List.range n).map f)[q]'(by rw [hlen]; exact hqn) = f q := by simp
      rw [e] at hu
      exact (hfv q hqn).2 r' u hu
    · obtain ⟨i, hin, rfl⟩ := List.mem_map.1 hx
      exact (hfv i (List.mem_range.1 hin)).1
end
end Go.Proofs.YtdlgobakoomkpaaDoor
