/-
  Pages: stamp, write: a version's bytes are laid.
-/
import Derived.Test.YteikfkefahaodaaPageD
import Derived.Test.YteikfkefahaodaaBin
import Derived.Laws.CopyOwn
namespace Go.Proofs.Yteikfkefahaodaa
open Go.RowKit

/-- Block b holds just these cells. -/
def Bx (w : World) (b : Nat) (T : TypeId) (l : List Value) : Prop := w.heap[b]? = some (.cells l.toArray T (0, 0))
section
variable {w w' : World} {b : Nat} {T : TypeId} {l : List Value}
theorem Bx.lt (h : Bx w b T l) : b < w.heap.size := (Array.getElem?_eq_some_iff.1 h).1
theorem Bx.cell (h : Bx w b T l) (i : Nat) : w.cell? ⟨b, i, none⟩ = l[i]? := by rw [cell_of_row w b i _ _ _ h]; simp
theorem Bx.frozen (h : Bx w b T l) (i : Nat) : w.frozen? ⟨b, i, none⟩ = false := frozen_of_row w b i _ _ h
theorem Bx.kept (h : Bx w b T l) {row : Option Nat} (hg : w.grownBy w' row) (hne : row ≠ some b) : Bx w' b T l := (hg.block b h.lt (fun e => hne e.symm)).trans h
theorem Bx.new (w : World) (T : TypeId) (C : Array Value) (l : List Value) (hC : C = l.toArray) : Bx (w.alloc (.cells C T)) w.heap.size T l := by subst hC; exact heap_alloc_new w _
end
theorem lay_lay (f : Nat → UInt8) (a : Nat) (l m : List UInt8) (b : Nat) (hb : b = a + l.length) : lay (lay f a l) b m = lay f a (l ++ m) := by
  subst hb
  funext i
  by_cases h1 : i < a
  · rw [lay_out (.inl (by omega)), lay_out (.inl h1), lay_out (.inl h1)]
  · obtain ⟨j, rfl⟩ : ∃ j, i = a + j := ⟨i - a, by omega⟩
    by_cases h2 : j < l.length
    · rw [lay_out (.inl (by omega)), lay_in h2, lay_in (by simp; omega), List.getD_eq_getElem?_getD, List.getD_eq_getElem?_getD, List.getElem?_append_left h2]
    · obtain ⟨k, rfl⟩ : ∃ k, j = l.length + k := ⟨j - l.length, by omega⟩
      by_cases h3 : k < m.length
      · rw [← Nat.add_assoc, lay_in h3, Nat.add_assoc, lay_in (by simp; omega), List.getD_eq_getElem?_getD, List.getD_eq_getElem?_getD, List.getElem?_append_right (by omega), Nat.add_sub_cancel_left]
      · rw [lay_out (.inr (by omega)), lay_out (.inr (by omega)), lay_out (.inr (by simp; omega))]
/-- What a stamp lays, and a whole version. -/
def pkS (m : Nat) (p s : Int) : List UInt8 := leb m 8 ++ leb (p + 1).toNat 4 ++ leb (s + 1).toNat 2
theorem pkS_length (m : Nat) (p s : Int) : (pkS m p s).length = 14 := by simp [pkS, leb_length]
def pk (r x m : Nat) (p s : Int) (d : List UInt8) : List UInt8 := leb r 8 ++ leb x 8 ++ pkS m p s ++ d
theorem pk_length (r x m : Nat) (p s : Int) (d : List UInt8) : (pk r x m p s d).length = 30 + d.length := by simp [pk, pkS_length, leb_length]; omega
/-- Where a cut of the page's array begins. -/
def adr (g a : Nat) : Option Addr := if a = 512 then some ⟨g, 0, none⟩ else some ⟨g, a, none⟩
theorem adr_lt {g a : Nat} (h : a < 512) : adr g a = some ⟨g, a, none⟩ := if_neg (by omega)
theorem splice_pcells (f : Nat → UInt8) (off : Nat) (l : List UInt8) (h : off + l.length ≤ 512) : (pcells f).take off ++ (bcells l ++ (pcells f).drop (off + (bcells l).length)) = pcells (lay f off l) := by
  refine pcells_eq (by simp [pcells_length, bcells_length]; omega) fun i hi => ?_
  have hto : ((pcells f).take off).length = off := by rw [List.length_take, pcells_length]; omega
  by_cases h1 : i < off
  · rw [List.getElem?_append_left (by omega), List.getElem?_take_of_lt h1, pcells_get f hi, lay_out (.inl h1)]
  · rw [List.getElem?_append_right (by omega), hto]
    obtain ⟨j, rfl⟩ : ∃ j, i = off + j := ⟨i - off, by omega⟩
    rw [Nat.add_sub_cancel_left]
    by_cases h2 : j < l.length
    · rw [List.getElem?_append_left (by rw [bcells_length]; exact h2), bcells_get l j h2, lay_in h2, List.getD_eq_getElem?_getD, List.getElem?_eq_getElem h2]; rfl
    · rw [List.getElem?_append_right (by rw [bcells_length]; omega), List.getElem?_drop, bcells_length, lay_out (.inr (by omega)), show off + l.length + (j - l.length) = off + j by omega, pcells_get f hi]
theorem setRow_grown (w : World) (g : Nat) (cs : Array Value) : w.grownBy (w.setRow g cs) (some g) :=
  ⟨rfl, rfl, rfl, by simp [World.setRow], fun k _ hne => setRow_other w g k cs (fun e => hne (by rw [e]))⟩
theorem info_sz : (Try.prog.info? 5).map (·.size) = some 1 := by kernel_rfl
end Go.Proofs.Yteikfkefahaodaa
