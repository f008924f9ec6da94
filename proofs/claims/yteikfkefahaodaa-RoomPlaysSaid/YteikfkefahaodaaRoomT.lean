/-
  Two maps side by side: package room's and the document's own (ref06); what a writing call of the one leaves of the other.
-/
import Derived.Test.YteikfkefahaodaaRoomG
namespace Go.Proofs.Yteikfkefahaodaa
open Go.RowKit

/-- Both maps in memory, apart from each other, and nothing below B changed since w0. -/
structure Two (w0 w : World) (B b1 r1 b2 r2 g1 g2 : Nat) (v1 v2 : Value) (L1 L2 : List Int) : Prop where
  room : Room w b1 r1 g1 v1 L1
  refm : Refm w b2 r2 g2 v2 L2
  apart : ∀ k, v1.ownBlock = some k → v2.ownBlock ≠ some k
  below : Below B w0 w
  size : B ≤ w0.heap.size
  q1 : B ≤ b1
  q2 : B ≤ r1
  q3 : B ≤ b2
  q4 : B ≤ r2
  t1 : r1 ≤ w.heap.size
  t2 : r2 ≤ w.heap.size
section
variable {w0 w w' : World} {B b1 r1 b2 r2 g1 g2 : Nat} {v1 v2 v' : Value} {L1 L2 L' : List Int}
theorem Two.ne (h : Two w0 w B b1 r1 b2 r2 g1 g2 v1 v2 L1 L2) : g1 ≠ g2 := fun e => by
  rcases rows_apart h.room.box h.refm.box (by decide) with h1 | h1
  · cases h1
  · exact h1 (by rw [e])
theorem Two.drew (h : Two w0 w B b1 r1 b2 r2 g1 g2 v1 v2 L1 L2) : Two w0 w.drew B b1 r1 b2 r2 g1 g2 v1 v2 L1 L2 :=
  ⟨h.room.drew, ⟨own_drew h.refm.box, own_drew h.refm.row⟩, h.apart, h.below.drew, h.size, h.q1, h.q2, h.q3, h.q4, h.t1, h.t2⟩
theorem Two.heap (h : Two w0 w B b1 r1 b2 r2 g1 g2 v1 v2 L1 L2) (n : Nat) : Two w0 { w with drawn := n } B b1 r1 b2 r2 g1 g2 v1 v2 L1 L2 :=
  ⟨⟨h.room.box, h.room.row⟩, ⟨h.refm.box, h.refm.row⟩, h.apart, ⟨h.below.os, h.below.tape, h.below.output, h.below.size, h.below.block⟩, h.size, h.q1, h.q2, h.q3, h.q4, h.t1, h.t2⟩
theorem Two.alloc (h : Two w0 w B b1 r1 b2 r2 g1 g2 v1 v2 L1 L2) (o : Obj) : Two w0 (w.alloc o) B b1 r1 b2 r2 g1 g2 v1 v2 L1 L2 :=
  ⟨h.room.alloc o, h.refm.alloc o, h.apart, h.below.alloc (Nat.le_trans h.size h.below.size) o, h.size, h.q1, h.q2, h.q3, h.q4, by simp; exact Nat.le_succ_of_le h.t1, by simp; exact Nat.le_succ_of_le h.t2⟩
theorem Two.set1 (h : Two w0 w B b1 r1 b2 r2 g1 g2 v1 v2 L1 L2) (ho : Only w w' g1 v1 v') (hr : Room w' b1 r1 g1 v' L') : Two w0 w' B b1 r1 b2 r2 g1 g2 v' v2 L' L2 where
  room := hr
  refm := ⟨ho.kept h.refm.box (fun e => h.ne (by injection e with e; exact e.symm)) (.inr fun e => (rows_apart h.refm.box h.room.row (by decide)).elim (fun e' => by cases e') (fun e' => e' e)),
    ho.kept h.refm.row (fun e => (rows_apart h.refm.row h.room.box (by decide)).elim (fun e' => by rw [e'] at e; cases e) (fun e' => e' e)) (by
      rcases hb : v2.ownBlock with _ | k
      · exact .inl rfl
      · exact .inr fun e => h.apart k e.symm hb)⟩
  apart := fun k e1 e2 => by
    rcases ho.own with e | ⟨q, e, hq⟩
    · exact h.apart k (by rw [← e]; exact e1) e2
    · have := (h.refm.row.lt k e2).2
      rw [e] at e1
      injection e1 with e1
      omega
  below := h.below.trans (ho.below (Nat.le_trans h.q1 h.room.lt.1) (fun k e => Nat.le_trans h.q2 (h.room.row.lt k e).1) (Nat.le_trans h.size h.below.size))
  size := h.size
  q1 := h.q1
  q2 := h.q2
  q3 := h.q3
  q4 := h.q4
  t1 := Nat.le_trans h.t1 ho.size
  t2 := Nat.le_trans h.t2 ho.size
theorem Two.set2 (h : Two w0 w B b1 r1 b2 r2 g1 g2 v1 v2 L1 L2) (ho : Only w w' g2 v2 v') (hr : Refm w' b2 r2 g2 v' L') : Two w0 w' B b1 r1 b2 r2 g1 g2 v1 v' L1 L' where
  room := ⟨ho.kept h.room.box (fun e => h.ne (by injection e with e)) (.inr fun e => (rows_apart h.room.box h.refm.row (by decide)).elim (fun e' => by cases e') (fun e' => e' e)),
    ho.kept h.room.row (fun e => (rows_apart h.room.row h.refm.box (by decide)).elim (fun e' => by rw [e'] at e; cases e) (fun e' => e' e)) (by
      rcases hb : v1.ownBlock with _ | k
      · exact .inl rfl
      · exact .inr fun e => h.apart k hb e.symm)⟩
  refm := hr
  apart := fun k e1 e2 => by
    rcases ho.own with e | ⟨q, e, hq⟩
    · exact h.apart k e1 (by rw [← e]; exact e2)
    · have := (h.room.row.lt k e1).2
      rw [e] at e2
      injection e2 with e2
      omega
  below := h.below.trans (ho.below (Nat.le_trans h.q3 (h.refm.box.lt g2 rfl).1) (fun k e => Nat.le_trans h.q4 (h.refm.row.lt k e).1) (Nat.le_trans h.size h.below.size))
  size := h.size
  q1 := h.q1
  q2 := h.q2
  q3 := h.q3
  q4 := h.q4
  t1 := Nat.le_trans h.t1 ho.size
  t2 := Nat.le_trans h.t2 ho.size
end
