/-
  From a law's row to the walks: numbers, bytes, versions that came in.
-/
import Derived.Test.YtpnkmkenmpbekaaBin
import Derived.Deep.Slices
import Derived.Deep.Fields
import Derived.OpenShut
import Derived.ProofKit
import Derived.Carry
namespace Go.Proofs.Ytpnkmkenmpbekaa
open Go.ChangeShapes Go.WideShapes Go.ChangeAt Go.RowKit Go.Deep

theorem laidOut : laidOutB Try.prog = true := by kernel_rfl
section
variable {H : Type} {enc : TypeId × Value → H} {w : World} {base : Nat} {held : Bool}
theorem wf_u8 {n : Int} (h : (Lit.int .u8 n).wf = true) : 0 ≤ n ∧ n < 256 := by
  simp [Lit.wf, IntKind.min, IntKind.max, IntKind.signed, IntKind.bits] at h
  omega
set_option maxRecDepth 100000 in
theorem open_bytes {r : Reach} {b0 : Nat} {v : Value} {d : DataW H} {p : List MemPlace} (hv : Value.okWide Try.prog w r b0 42 v) (h : DataW.Trod enc Try.prog w base (fun _ => true) held 42 v d p) :
    ∃ (A : Option Addr) (c : Nat) (l : List UInt8), v = .slice A l.length c ∧ l.length ≤ c ∧ c ≤ 9223372036854775807 ∧ Brd w A l := by
  obtain ⟨A, n, c, rfl⟩ := okWide_slice Try.underlying42 hv
  obtain ⟨fuel, hf⟩ := h
  rcases open_ints Try.underlying42 Try.underlying5 (by kernel_rfl) hf with ⟨hcs, _⟩ | ⟨a, len, cap, zs, hcs, _, hl, hm, hz, _, hcell, hwz⟩
  · simp [Value.cells] at hcs
    obtain ⟨rfl, rfl, rfl⟩ := hcs
    exact ⟨none, 0, [], rfl, Nat.le_refl _, by omega, Rd.zero _ _ _⟩
  · simp [Value.cells] at hcs
    obtain ⟨rfl, rfl, rfl⟩ := hcs
    simp only [if_true] at hz
    unfold maxLen at hm
    have hlen : (((zs.take n).map fun x => UInt8.ofNat x.toNat)).length = n := by simp; omega
    refine ⟨some a, c, (zs.take n).map fun x => UInt8.ofNat x.toNat, by rw [hlen], by rw [hlen]; exact hl, by omega, ?_⟩
    refine ⟨by rw [bcells_length, Nat.mul_one], fun j u hu => ⟨a, rfl, ?_⟩⟩
    have hj : j < n := by have := (List.getElem?_eq_some_iff.1 hu).1; rw [bcells_length, hlen] at this; exact this
    rw [hcell j (by omega)]
    unfold bcells at hu
    rw [List.getElem?_map, List.getElem?_map, List.getElem?_take_of_lt hj, List.getElem?_eq_getElem (by omega)] at hu
    simp only [Option.map_some, Option.some.injEq] at hu
    have hb := wf_u8 (hwz zs[j] (List.getElem_mem _))
    rw [List.getD_eq_getElem?_getD, List.getElem?_eq_getElem (by omega), Option.getD_some, ← hu]
    congr 2
    simp
    omega
theorem wf_u64 {n : Int} (h : (Lit.int .u64 n).wf = true) : 0 ≤ n := by
  simp [Lit.wf, IntKind.min, IntKind.max, IntKind.signed, IntKind.bits] at h
  omega
set_option maxRecDepth 100000 in
theorem open_u64 {r : Reach} {b0 : Nat} {v : Value} {d : DataW H} {p : List MemPlace} (hv : Value.okWide Try.prog w r b0 39 v) (h : DataW.Trod enc Try.prog w base (fun _ => true) held 39 v d p) :
    ∃ n : Nat, v = .int .u64 (n : Int) := by
  obtain ⟨n, rfl, _, _, hw⟩ := open_int Try.underlying39 hv h
  have := wf_u64 hw
  exact ⟨n.toNat, by rw [Int.toNat_of_nonneg this]⟩
set_option maxRecDepth 100000 in
theorem trod_bytes {n : Nat} {cs : List Value} {y : DataW H × List MemPlace} (hf : DataW.trod enc Try.prog w base (fun _ => true) held n 42 cs = some y) :
    ∃ (A : Option Addr) (c : Nat) (l : List UInt8), cs = [.slice A l.length c] ∧ l.length ≤ c ∧ c ≤ 9223372036854775807 ∧ Brd w A l := by
  rcases open_ints Try.underlying42 Try.underlying5 (by kernel_rfl) hf with ⟨rfl, _⟩ | ⟨a, n, c, zs, rfl, _, hl, hm, hz, _, hcell, hwz⟩
  · exact ⟨none, 0, [], rfl, Nat.le_refl _, by omega, Rd.zero _ _ _⟩
  · simp only [if_true] at hz
    unfold maxLen at hm
    have hlen : (((zs.take n).map fun x => UInt8.ofNat x.toNat)).length = n := by simp; omega
    refine ⟨some a, c, (zs.take n).map fun x => UInt8.ofNat x.toNat, by rw [hlen], by rw [hlen]; exact hl, by omega, ?_⟩
    refine ⟨by rw [bcells_length, Nat.mul_one], fun j u hu => ⟨a, rfl, ?_⟩⟩
    have hj : j < n := by have := (List.getElem?_eq_some_iff.1 hu).1; rw [bcells_length, hlen] at this; exact this
    rw [hcell j (by omega)]
    unfold bcells at hu
    rw [List.getElem?_map, List.getElem?_map, List.getElem?_take_of_lt hj, List.getElem?_eq_getElem (by omega)] at hu
    simp only [Option.map_some, Option.some.injEq] at hu
    have hb := wf_u8 (hwz zs[j] (List.getElem_mem _))
    rw [List.getD_eq_getElem?_getD, List.getElem?_eq_getElem (by omega), Option.getD_some, ← hu]
    congr 2
    simp
    omega
theorem cells_tid : Try.prog.cellsOf 41 = 2 := by kernel_rfl
theorem cells_tup : Try.prog.cellsOf 44 = 6 := by kernel_rfl
theorem cells_u64 : Try.prog.cellsOf 39 = 1 := by kernel_rfl
theorem cells_i : Try.prog.cellsOf 3 = 1 := by kernel_rfl
theorem cells_bs : Try.prog.cellsOf 42 = 1 := by kernel_rfl
set_option maxRecDepth 100000 in
theorem trod_tid {n : Nat} {cs : List Value} {y : DataW H × List MemPlace} {spare : Nat → Bool} (hf : DataW.trod enc Try.prog w base spare held n 41 cs = some y) :
    ∃ p s : Int, cs = [.int .i64 p, .int .i64 s] := by
  obtain ⟨xs, m, _, _, hcl, hlen, hf⟩ := DataW.trod_struct Try.underlying41 hf
  rw [cells_tid] at hcl
  match cs, hcl, xs, hlen with
  | [c0, c1], _, [z0, z1], _ =>
    have h0 : _ = some z0 := hf 0 _ rfl
    have h1 : _ = some z1 := hf 1 _ rfl
    obtain ⟨k0, e0, _, _⟩ := DataW.trod_int Try.underlying3 h0
    obtain ⟨k1, e1, _, _⟩ := DataW.trod_int Try.underlying3 h1
    simp [cells_i] at e0
    simp [cells_i] at e1
    subst e0 e1
    exact ⟨k0, k1, rfl⟩
set_option maxRecDepth 100000 in
theorem trod_tup {n : Nat} {cs : List Value} {y : DataW H × List MemPlace} (hf : DataW.trod enc Try.prog w base (fun _ => true) held n 44 cs = some y) :
    ∃ (r x m : Nat) (p s : Int) (A : Option Addr) (c : Nat) (l : List UInt8), cs = [.int .u64 (r : Int), .int .u64 (x : Int), .int .u64 (m : Int), .int .i64 p, .int .i64 s, .slice A l.length c] ∧ l.length ≤ c ∧ c ≤ 9223372036854775807 ∧ Brd w A l := by
  obtain ⟨xs, m, _, _, hcl, hlen, hf⟩ := DataW.trod_struct Try.underlying44 hf
  rw [cells_tup] at hcl
  match cs, hcl, xs, hlen with
  | [c0, c1, c2, c3, c4, c5], _, [z0, z1, z2, z3, z4], _ =>
    have h0 : _ = some z0 := hf 0 _ rfl
    have h1 : _ = some z1 := hf 1 _ rfl
    have h2 : _ = some z2 := hf 2 _ rfl
    have h3 : _ = some z3 := hf 3 _ rfl
    have h4 : _ = some z4 := hf 4 _ rfl
    obtain ⟨k0, e0, _, w0⟩ := DataW.trod_int Try.underlying39 h0
    obtain ⟨k1, e1, _, w1⟩ := DataW.trod_int Try.underlying39 h1
    obtain ⟨k2, e2, _, w2⟩ := DataW.trod_int Try.underlying39 h2
    obtain ⟨p, s, e3⟩ := trod_tid h3
    obtain ⟨A, c, l, e4, l1, l2, l3⟩ := trod_bytes h4
    simp [cells_u64] at e0
    simp [cells_u64] at e1
    simp [cells_u64] at e2
    simp [cells_tid] at e3
    simp [cells_bs] at e4
    obtain ⟨e3, e3'⟩ := e3
    subst e0 e1 e2 e3 e3' e4
    have a0 := wf_u64 w0
    have a1 := wf_u64 w1
    have a2 := wf_u64 w2
    exact ⟨k0.toNat, k1.toNat, k2.toNat, p, s, A, c, l, by rw [Int.toNat_of_nonneg a0, Int.toNat_of_nonneg a1, Int.toNat_of_nonneg a2], l1, l2, l3⟩
set_option maxRecDepth 100000 in
theorem open_tup {r : Reach} {b0 : Nat} {v : Value} {d : DataW H} {p : List MemPlace} (hv : Value.okWide Try.prog w r b0 44 v) (h : DataW.Trod enc Try.prog w base (fun _ => true) held 44 v d p) :
    ∃ (r x m : Nat) (p s : Int) (A : Option Addr) (c : Nat) (l : List UInt8), v = .agg #[.int .u64 (r : Int), .int .u64 (x : Int), .int .u64 (m : Int), .int .i64 p, .int .i64 s, .slice A l.length c] ∧ l.length ≤ c ∧ c ≤ 9223372036854775807 ∧ Brd w A l := by
  obtain ⟨cs, rfl, _⟩ := okWide_struct Try.underlying44 hv
  obtain ⟨fuel, hf⟩ := h
  obtain ⟨r, x, m, p, s, A, c, l, e, h1, h2, h3⟩ := trod_tup hf
  have e' : cs = _ := Array.toList_inj.1 (show cs.toList = (#[.int .u64 (r : Int), .int .u64 (x : Int), .int .u64 (m : Int), .int .i64 p, .int .i64 s, .slice A l.length c] : Array Value).toList from e)
  exact ⟨r, x, m, p, s, A, c, l, by rw [e'], h1, h2, h3⟩
set_option maxRecDepth 100000 in
theorem open_tid {r : Reach} {b0 : Nat} {v : Value} {d : DataW H} {p : List MemPlace} (hv : Value.okWide Try.prog w r b0 41 v) (h : DataW.Trod enc Try.prog w base (fun _ => true) held 41 v d p) :
    ∃ p s : Int, v = .agg #[.int .i64 p, .int .i64 s] := by
  obtain ⟨cs, rfl, _⟩ := okWide_struct Try.underlying41 hv
  obtain ⟨fuel, hf⟩ := h
  obtain ⟨p, s, e⟩ := trod_tid hf
  have e' : cs = _ := Array.toList_inj.1 (show cs.toList = (#[.int .i64 p, .int .i64 s] : Array Value).toList from e)
  exact ⟨p, s, by rw [e']⟩
end
end Go.Proofs.Ytpnkmkenmpbekaa
