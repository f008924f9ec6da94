/-
  Arguments that came in: numbers, truth, slices of structs.
-/
import Derived.Test.YtbmkhopmhmmibaaMem
import Derived.Test.YtbmkhopmhmmibaaProg
import Derived.Deep.Slices
import Derived.Deep.Fields
import Derived.OpenShut
import Derived.ProofKit
namespace Go.Proofs.Ytbmkhopmhmmibaa
open Go.ChangeShapes Go.WideShapes Go.ChangeAt Go.RowKit Go.Deep
set_option linter.unusedVariables false

theorem nat_u8 {n : Int} (h : (Lit.int .u8 n).wf = true) : ∃ k : Nat, n = (k : Int) ∧ k < 256 := by
  have : 0 ≤ n ∧ n < 256 := by
    simp [Lit.wf, IntKind.min, IntKind.max, IntKind.signed, IntKind.bits] at h
    omega
  exact ⟨n.toNat, by omega, by omega⟩
theorem nat_u64 {n : Int} (h : (Lit.int .u64 n).wf = true) : ∃ k : Nat, n = (k : Int) ∧ k < 18446744073709551616 := by
  have : 0 ≤ n ∧ n < 18446744073709551616 := by
    simp [Lit.wf, IntKind.min, IntKind.max, IntKind.signed, IntKind.bits] at h
    omega
  exact ⟨n.toNat, by omega, by omega⟩
section
variable {α : Type} (e : α → List Value) (q : Nat)
theorem flat_length (hq : ∀ x, (e x).length = q) (l : List α) : (l.flatMap e).length = l.length * q := by
  induction l with
  | nil => simp
  | cons a l ih => rw [List.flatMap_cons, List.length_append, ih, hq, List.length_cons, Nat.add_mul]; omega
theorem flat_at (hq : ∀ x, (e x).length = q) (l : List α) : ∀ (k : Nat) (hk : k < l.length) (j : Nat), j < q → (l.flatMap e)[k * q + j]? = (e l[k])[j]? := by
  induction l with
  | nil => intro k hk; simp at hk
  | cons a l ih =>
    intro k hk j hj
    rw [List.flatMap_cons]
    cases k with
    | zero => rw [List.getElem?_append_left (by rw [hq]; omega)]; simp
    | succ k =>
      rw [List.getElem?_append_right (by rw [hq, Nat.succ_mul]; omega), hq]
      have := ih k (by simpa using hk) j hj
      rw [List.getElem_cons_succ, ← this, show (k + 1) * q + j - q = k * q + j by rw [Nat.succ_mul]; omega]
theorem flat_elem {w : World} {A : Option Addr} {l : List α} (hq : ∀ x, (e x).length = q) (h : Rd w q A l.length (l.flatMap e)) {k : Nat} (hk : k < l.length) (h0 : 0 < q) :
    ∃ ad : Addr, A = some ad ∧ ∀ j u, (e l[k])[j]? = some u → w.cell? ((ad.add (k * q)).add j) = some u := by
  obtain ⟨ad, ea, hc⟩ := h.some_ (by omega) h0
  refine ⟨ad, ea, fun j u hu => ?_⟩
  have hj : j < q := by rw [← hq l[k]]; exact (List.getElem?_eq_some_iff.1 hu).1
  rw [← flat_at e q hq l k hk j hj] at hu
  obtain ⟨hl, rfl⟩ := List.getElem?_eq_some_iff.1 hu
  rw [aadd]
  exact hc _ hl
end
section
variable {H : Type} {enc : TypeId × Value → H} {w : World} {base : Nat} {held : Bool}
set_option maxRecDepth 100000 in
theorem open_structs {α : Type} [Inhabited α] (e : α → List Value) (q : Nat) (hq : ∀ x, (e x).length = q) {ts te : TypeId} (hts : Try.prog.underlying ts = some (.slice te)) (hte : Try.prog.cellsOf te = q)
    (htr : ∀ {spare : Nat → Bool} {n : Nat} {cs : List Value} {y : DataW H × List MemPlace}, DataW.trod enc Try.prog w base spare held n te cs = some y → ∃ x : α, cs = e x)
    {r : Reach} {b0 : Nat} {v : Value} {d : DataW H} {p : List MemPlace} (hv : Value.okWide Try.prog w r b0 ts v) (h : DataW.Trod enc Try.prog w base (fun _ => true) held ts v d p) :
    ∃ (A : Option Addr) (c : Nat) (l : List α), v = .slice A l.length c ∧ l.length ≤ c ∧ c ≤ 9223372036854775807 ∧ Rd w q A l.length (l.flatMap e) := by
  obtain ⟨A, n, c, rfl⟩ := okWide_slice hts hv
  obtain ⟨fuel, hf⟩ := h
  rcases open_slice hts hf with ⟨hcs, _⟩ | ⟨a, len, cap, m, k, D, Pl, hcs, _, hl, hm, hmm, _, hi⟩
  · simp [Value.cells] at hcs
    obtain ⟨rfl, rfl, rfl⟩ := hcs
    exact ⟨none, 0, [], rfl, Nat.le_refl _, by omega, Rd.zero _ _ _⟩
  · simp [Value.cells] at hcs
    obtain ⟨rfl, rfl, rfl⟩ := hcs
    simp only [if_true] at hmm
    unfold maxLen at hm
    obtain ⟨f, hfv⟩ := choose_lt (n := n) (p := fun i (x : α) => ∀ j (u : Value), (e x)[j]? = some u → w.cell? (a.add (i * q + j)) = some u) fun i hin => by
      obtain ⟨cs', hc, ht⟩ := hi i (by omega)
      obtain ⟨x, rfl⟩ := htr ht
      rw [hte] at hc
      obtain ⟨_, _, hat⟩ := World.cells?_some hc
      refine ⟨x, fun j u hu => ?_⟩
      have hj : j < q := by rw [← hq x]; exact (List.getElem?_eq_some_iff.1 hu).1
      rw [← aadd, hat j hj, hu]
    have hlen : ((List.range n).map f).length = n := by simp
    refine ⟨some a, c, (List.range n).map f, by rw [hlen], by rw [hlen]; exact hl, by omega, ?_⟩
    refine ⟨flat_length e q hq _, fun j u hu => ⟨a, rfl, ?_⟩⟩
    have hj : j < n * q := by have := (List.getElem?_eq_some_iff.1 hu).1; rw [flat_length e q hq, hlen] at this; exact this
    have hq0 : 0 < q := by
      rcases Nat.eq_zero_or_pos q with h0 | h0
      · rw [h0, Nat.mul_zero] at hj; omega
      · exact h0
    obtain ⟨s, r', hs, hr⟩ : ∃ s r', j = s * q + r' ∧ r' < q := ⟨j / q, j % q, by rw [Nat.mul_comm]; exact (Nat.div_add_mod j q).symm, Nat.mod_lt _ hq0⟩
    subst hs
    have hsn : s < n := by
      rcases Nat.lt_or_ge s n with h1 | h1
      · exact h1
      · have := Nat.mul_le_mul_right q h1
        omega
    rw [flat_at e q hq _ s (by rw [hlen]; exact hsn) r' hr] at hu
    have ee : ((List.range n).map f)[s]'(by rw [hlen]; exact hsn) = f s := by simp
    rw [ee] at hu
    exact hfv s hsn r' u hu
end
end Go.Proofs.Ytbmkhopmhmmibaa
