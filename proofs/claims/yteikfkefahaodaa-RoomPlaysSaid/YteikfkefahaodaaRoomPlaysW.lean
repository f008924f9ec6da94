/-
  RoomPlays: the walk: the law answers true; of what was there nothing has turned.
-/
import Derived.Test.YteikfkefahaodaaRoomG
import Derived.Test.YteikfkefahaodaaPageE
import Derived.Deep.Slices
import Derived.Deep.Fields
import Derived.OpenShut
import Derived.ProofKit
import Derived.Deep.RegionHeld3
import Derived.Deep.QuietTactic
import Derived.BigQuiet
import Derived.StillTailTactics
namespace Go.Proofs.Yteikfkefahaodaa.roomPlays
open Go.RowKit Go.ChangeShapes Go.WideShapes Go.ChangeAt Go.Deep

set_option linter.unusedVariables false

/-- A step of a script. -/
structure Step where
  page : Int
  room : Int
  need : Int
def ocells (l : List Step) : List Value := l.flatMap fun o => [.int .i64 o.page, .int .i64 o.room, .int .i64 o.need]
theorem ocells_length (l : List Step) : (ocells l).length = l.length * 3 := by
  induction l with
  | nil => rfl
  | cons a l ih =>
    have e : ocells (a :: l) = [.int .i64 a.page, .int .i64 a.room, .int .i64 a.need] ++ ocells l := rfl
    rw [e, List.length_append, ih]; simp; omega
def Ord (w : World) (A : Option Addr) (l : List Step) : Prop := Rd w 3 A l.length (ocells l)
theorem size_op (W : World) : (sizeOf 31).run Try.prog W = .ok 3 W := by kernel_rfl
theorem idx_op (ad : Addr) (n c k : Nat) (h : k < n) (W : World) : (Instr.indexAt 22 (.slice (some ad) n c) (.int .i64 (k : Int))).run Try.prog W = .ok (.pointer (some (ad.add (k * 3)))) W := by
  rw [run_indexAt_slice (h := by kernel_rfl), if_pos (by omega)]
  rw [show Try.prog.elem 22 = 31 by kernel_rfl, size_op]
  simp [Result.andThen]
theorem cells_op : Try.prog.cellsOf 31 = 3 := by kernel_rfl
section
variable {H : Type} {enc : TypeId × Value → H} {w : World} {base : Nat} {held : Bool}
set_option maxRecDepth 100000 in
theorem trod_op {spare : Nat → Bool} {n : Nat} {cs : List Value} {y : DataW H × List MemPlace} (h : DataW.trod enc Try.prog w base spare held n 31 cs = some y) :
    ∃ x : Step, cs = [.int .i64 x.page, .int .i64 x.room, .int .i64 x.need] := by
  obtain ⟨xs, m, _, _, hcl, hlen, hf⟩ := DataW.trod_struct Try.underlying31 h
  rw [cells_op] at hcl
  match cs, hcl, xs, hlen with
  | [c0, c1, c2], _, [z0, z1, z2], _ =>
    have h0 : _ = some z0 := hf 0 _ rfl
    have h1 : _ = some z1 := hf 1 _ rfl
    have h2 : _ = some z2 := hf 2 _ rfl
    obtain ⟨k0, e0, _, _⟩ := DataW.trod_int Try.underlying3 h0
    obtain ⟨k1, e1, _, _⟩ := DataW.trod_int Try.underlying3 h1
    obtain ⟨k2, e2, _, _⟩ := DataW.trod_int Try.underlying3 h2
    have q : Try.prog.cellsOf 3 = 1 := by kernel_rfl
    simp [q] at e0
    simp [q] at e1
    simp [q] at e2
    subst e0 e1 e2
    exact ⟨⟨k0, k1, k2⟩, rfl⟩
end
/-- What Set leaves. -/
def setN (l : List Int) (p r : Int) : List Int := if setE l p = 0 then setL l p r else l
theorem set_cases (l : List Int) (p : Int) (h : l.length ≤ 256) : ((p < 0 ∨ 256 ≤ p) ∧ setE l p = 1) ∨ ((0 ≤ p ∧ p < 256 ∧ (l.length : Int) < p) ∧ setE l p = 3) ∨ ((p = (l.length : Int) ∧ l.length < 256) ∧ setE l p = 0) ∨ ((0 ≤ p ∧ p < (l.length : Int)) ∧ setE l p = 0) := by
  unfold setE
  by_cases h1 : p < 0 ∨ 256 ≤ p
  · exact .inl ⟨h1, if_pos h1⟩
  · rw [if_neg h1]
    by_cases h2 : (l.length : Int) < p
    · exact .inr (.inl ⟨by omega, if_pos h2⟩)
    · rw [if_neg h2]
      by_cases h3 : p = (l.length : Int)
      · exact .inr (.inr (.inl ⟨by omega, rfl⟩))
      · exact .inr (.inr (.inr ⟨by omega, rfl⟩))
theorem setN_len {l : List Int} {p r : Int} (h : l.length ≤ 256) : (setN l p r).length ≤ 256 := by
  rcases set_cases l p h with ⟨h1, e1⟩ | ⟨h1, e1⟩ | ⟨⟨h1, h2⟩, e1⟩ | ⟨h1, e1⟩
  · rw [show setN l p r = l from if_neg (by rw [e1]; decide)]; exact h
  · rw [show setN l p r = l from if_neg (by rw [e1]; decide)]; exact h
  · rw [show setN l p r = setL l p r from if_pos e1, show setL l p r = l ++ [cap r] from if_pos h1, List.length_append]
    simp; omega
  · rw [show setN l p r = setL l p r from if_pos e1, show setL l p r = l.set p.toNat (cap r) from if_neg (by omega), List.length_set]
    exact h
theorem bal {a w : World} (h : Below a.heap.size a w) (o : Obj) : Below a.heap.size a (w.alloc o) := h.alloc h.size o
theorem bal' {B : Nat} {a w : World} (h : Below B a w) (hB : B ≤ a.heap.size) (o : Obj) : Below B a (w.alloc o) := h.alloc (Nat.le_trans hB h.size) o
theorem bdN {B : Nat} {a w : World} (h : Below B a w) (n : Nat) : Below B a (w.drewN n) := ⟨h.os, h.tape, h.output, h.size, h.block⟩
end Go.Proofs.Yteikfkefahaodaa.roomPlays
