/-
  What a call may turn, told by blocks; blocks told apart by their types.
-/
import Derived.Test.YtbmkhopmhmmibaaBox
namespace Go.Proofs.Ytbmkhopmhmmibaa
open Go.RowKit
set_option linter.unusedVariables false

/-- Of the blocks that were there, only those of S may have turned. -/
structure Fr (S : Nat → Prop) (w w' : World) : Prop where
  os : w'.os = w.os
  tape : w'.tape = w.tape
  output : w'.output = w.output
  size : w.heap.size ≤ w'.heap.size
  block : ∀ k, k < w.heap.size → ¬ S k → w'.heap[k]? = w.heap[k]?
section
variable {S S' : Nat → Prop} {w w1 w2 w' : World} {B : Nat}
theorem Fr.refl (S : Nat → Prop) (w : World) : Fr S w w := ⟨rfl, rfl, rfl, Nat.le_refl _, fun _ _ _ => rfl⟩
theorem Fr.trans (h : Fr S w w1) (k : Fr S' w1 w2) (hs : ∀ k, S' k → S k ∨ w.heap.size ≤ k) : Fr S w w2 :=
  ⟨k.os.trans h.os, k.tape.trans h.tape, k.output.trans h.output, Nat.le_trans h.size k.size, fun b hb hn =>
    (k.block b (Nat.lt_of_lt_of_le hb h.size) fun hS => (hs b hS).elim hn (fun hw => by omega)).trans (h.block b hb hn)⟩
theorem Fr.mono (h : Fr S w w') (hs : ∀ k, S k → S' k) : Fr S' w w' := ⟨h.os, h.tape, h.output, h.size, fun b hb hn => h.block b hb fun hS => hn (hs b hS)⟩
theorem Fr.of_below (h : Below w.heap.size w w') : Fr S w w' := ⟨h.os, h.tape, h.output, h.size, fun b hb _ => h.block b hb⟩
theorem Fr.of_grown {g : Nat} (h : w.grownBy w' (some g)) (hg : S g) : Fr S w w' := ⟨h.os, h.tape, h.output, h.size, fun b hb hn => h.block b hb fun e => by injection e with e; subst e; exact hn hg⟩
theorem Fr.of_own {v : Value} (h : w.grownBy w' v.ownBlock) (hv : ∀ k, v.ownBlock = some k → S k) : Fr S w w' := ⟨h.os, h.tape, h.output, h.size, fun b hb hn => h.block b hb fun e => hn (hv b e.symm)⟩
theorem Fr.below (h : Fr S w w') (hS : ∀ k, S k → B ≤ k) (hB : B ≤ w.heap.size) : Below B w w' :=
  ⟨h.os, h.tape, h.output, h.size, fun k hk => h.block k (by omega) fun hs => by have := hS k hs; omega⟩
theorem Fr.own {base n size : Nat} {e : TypeId} {u : Value} {xs : List Value} (h : Fr S w w') (ho : w.ownsRow base e size u n xs) (hn : ∀ k, u.ownBlock = some k → ¬ S k) : w'.ownsRow base e size u n xs := by
  refine ⟨ho.1, ?_⟩
  rcases ho.2 with h1 | ⟨q, cap, cur, rfl, hb, hg, rest⟩
  · exact .inl h1
  · refine .inr ⟨q, cap, cur, rfl, hb, ?_, rest⟩
    rw [h.block q (Array.getElem?_eq_some_iff.1 hg).1 (hn q rfl)]
    exact hg
theorem Fr.bx {b : Nat} {T : TypeId} {l : List Value} (h : Fr S w w') (hp : Bx w b T l) (hn : ¬ S b) : Bx w' b T l := (h.block b hp.lt hn).trans hp
theorem Fr.rd {size n : Nat} {A : Option Addr} {xs : List Value} (h : Fr S w w') (hr : Rd w size A n xs) (hn : ∀ ad : Addr, A = some ad → ¬ S ad.block) : Rd w' size A n xs :=
  ⟨hr.1, fun j u hu => by
    obtain ⟨ad, e, hc⟩ := hr.2 j u hu
    refine ⟨ad, e, Eq.trans ?_ hc⟩
    have hlt := World.block_lt_of_cell? w _ hc
    unfold World.cell?
    rw [h.block _ hlt (by rw [badd]; exact hn ad e)]⟩
theorem Fr.alloc (h : Fr S w w') (o : Obj) : Fr S w (w'.alloc o) := h.trans (S' := S) (Fr.of_below ((Below.refl _ _).alloc (Nat.le_refl _) o)) fun _ hk => .inl hk
theorem Fr.set (h : Fr S w w') {b : Nat} (hb : S b ∨ w.heap.size ≤ b) (i : Nat) (u : Value) : Fr S w (w'.setCell ⟨b, i, none⟩ u) :=
  ⟨h.os, h.tape, h.output, by simpa [World.setCell] using h.size, fun k hk hn => (heap_setCell_other w' ⟨b, i, none⟩ k u (fun e => by
    have e' : k = b := e
    subst e'
    rcases hb with hb | hb
    · exact hn hb
    · omega)).trans (h.block k hk hn)⟩
end
/-- A block of a type. -/
def Ty (w : World) (k : Nat) (e : TypeId) : Prop := ∃ cs i, w.heap[k]? = some (.cells cs e i)
theorem Ty.lt {w : World} {k : Nat} {e : TypeId} (h : Ty w k e) : k < w.heap.size := by
  obtain ⟨_, _, h⟩ := h
  exact (Array.getElem?_eq_some_iff.1 h).1
theorem Ty.ne {w : World} {j k : Nat} {e f : TypeId} (h : Ty w j e) (h' : Ty w k f) (hne : e ≠ f) : j ≠ k := fun eq => by
  subst eq
  obtain ⟨_, _, h⟩ := h
  obtain ⟨_, _, h'⟩ := h'
  rw [h] at h'
  injection h' with h'
  injection h' with _ h4
  exact hne h4
theorem Bx.ty {w : World} {b : Nat} {T : TypeId} {l : List Value} (h : Bx w b T l) : Ty w b T := ⟨_, _, h⟩
theorem own_ty {w : World} {base n size k : Nat} {e : TypeId} {u : Value} {xs : List Value} (h : w.ownsRow base e size u n xs) (hu : u.ownBlock = some k) : Ty w k e := by
  rcases h.2 with ⟨rfl, _⟩ | ⟨g, c, r, rfl, _, hg, _⟩
  · cases hu
  · have : g = k := by simpa [Value.ownBlock] using hu
    subst this
    exact ⟨_, _, hg⟩theorem Bx.below {w w' : World} {b : Nat} {T : TypeId} {l : List Value} (h : Bx w b T l) (hb : Below w.heap.size w w') : Bx w' b T l := (hb.block b h.lt).trans h
theorem Bx.alloc {w : World} {b : Nat} {T : TypeId} {l : List Value} (h : Bx w b T l) (o : Obj) : Bx (w.alloc o) b T l := (Below.heap_alloc w o b h.lt).trans h
/-- From a footprint to another one: only its blocks have turned, and what is new of it was not there. -/
structure Chg (F F' : Nat → Prop) (w w' : World) : Prop where
  fr : Fr F w w'
  new : ∀ k, F' k → F k ∨ w.heap.size ≤ k
theorem Chg.refl (F : Nat → Prop) (w : World) : Chg F F w w := ⟨Fr.refl _ _, fun _ h => .inl h⟩
theorem Chg.trans {F F1 F2 : Nat → Prop} {w w1 w2 : World} (h : Chg F F1 w w1) (k : Chg F1 F2 w1 w2) : Chg F F2 w w2 :=
  ⟨h.fr.trans k.fr h.new, fun b hb => (k.new b hb).elim (h.new b) fun hk => .inr (Nat.le_trans h.fr.size hk)⟩
end Go.Proofs.Ytbmkhopmhmmibaa
