/-
  The ends of the walk that takes a snapshot of each log: both blocks hold what they should, whichever was made when.
-/
import Derived.Test.YtjkjomooklhdbaaPlayA
namespace Go.Proofs.Ytjkjomooklhdbaa
open Go.RowKit
set_option linter.unusedVariables false

section
variable {w w5 W : World} {t u n B B4 B5 : Nat} {T : TypeId} {l : List Value} {v xs4 : Value} {A4 A5 : Option Addr} {k4 k5 : Nat} {Q : List Nat}
theorem Bx.set4 {z0 z1 z2 z3 : Value} (h : Bx w t T [z0, z1, z2, z3]) (a0 a1 a2 a3 : Value) : Bx ((((w.setCell ⟨t, 0, none⟩ a0).setCell ⟨t, 1, none⟩ a1).setCell ⟨t, 2, none⟩ a2).setCell ⟨t, 3, none⟩ a3) t T [a0, a1, a2, a3] := (((h.set 0 a0).set 1 a1).set 2 a2).set 3 a3
theorem Bx.set3 {z0 z1 z2 : Value} (h : Bx w t T [z0, z1, z2]) (a0 a1 a2 : Value) : Bx (((w.setCell ⟨t, 0, none⟩ a0).setCell ⟨t, 1, none⟩ a1).setCell ⟨t, 2, none⟩ a2) t T [a0, a1, a2] := ((h.set 0 a0).set 1 a1).set 2 a2
theorem Bx.oth1 (h : Bx w u T l) (a : Addr) (v : Value) (hne : u ≠ a.block) : Bx (w.setCell a v) u T l := (heap_setCell_other w a u v hne).trans h
theorem Bx.oth4 (h : Bx w u T l) (hne : u ≠ t) (a0 a1 a2 a3 : Value) : Bx ((((w.setCell ⟨t, 0, none⟩ a0).setCell ⟨t, 1, none⟩ a1).setCell ⟨t, 2, none⟩ a2).setCell ⟨t, 3, none⟩ a3) u T l := (((h.oth1 ⟨t, 0, none⟩ a0 hne).oth1 ⟨t, 1, none⟩ a1 hne).oth1 ⟨t, 2, none⟩ a2 hne).oth1 ⟨t, 3, none⟩ a3 hne
theorem Bx.oth3 (h : Bx w u T l) (hne : u ≠ t) (a0 a1 a2 : Value) : Bx (((w.setCell ⟨t, 0, none⟩ a0).setCell ⟨t, 1, none⟩ a1).setCell ⟨t, 2, none⟩ a2) u T l := ((h.oth1 ⟨t, 0, none⟩ a0 hne).oth1 ⟨t, 1, none⟩ a1 hne).oth1 ⟨t, 2, none⟩ a2 hne
theorem fr_set4 (w : World) (t : Nat) (a0 a1 a2 a3 : Value) : Fr (fun k => k = t) w ((((w.setCell ⟨t, 0, none⟩ a0).setCell ⟨t, 1, none⟩ a1).setCell ⟨t, 2, none⟩ a2).setCell ⟨t, 3, none⟩ a3) := ((((Fr.refl (fun k => k = t) w).set (b := t) (.inl rfl) 0 a0).set (b := t) (.inl rfl) 1 a1).set (b := t) (.inl rfl) 2 a2).set (b := t) (.inl rfl) 3 a3
theorem fr_set3 (w : World) (t : Nat) (a0 a1 a2 : Value) : Fr (fun k => k = t) w (((w.setCell ⟨t, 0, none⟩ a0).setCell ⟨t, 1, none⟩ a1).setCell ⟨t, 2, none⟩ a2) := (((Fr.refl (fun k => k = t) w).set (b := t) (.inl rfl) 0 a0).set (b := t) (.inl rfl) 1 a1).set (b := t) (.inl rfl) 2 a2
theorem own_set4 {xs : List Value} (ho : w.ownsRow B 22 1 v n xs) (hb : Bx w t 76 l) (a0 a1 a2 a3 : Value) : ((((w.setCell ⟨t, 0, none⟩ a0).setCell ⟨t, 1, none⟩ a1).setCell ⟨t, 2, none⟩ a2).setCell ⟨t, 3, none⟩ a3).ownsRow B 22 1 v n xs :=
  (fr_set4 w t a0 a1 a2 a3).own ho fun k hk e => (own_ty ho hk).ne (e ▸ hb.ty) (by decide) rfl
theorem own_set3 {xs : List Value} (ho : w.ownsRow B 22 1 v n xs) (hb : Bx w t 80 l) (a0 a1 a2 : Value) : (((w.setCell ⟨t, 0, none⟩ a0).setCell ⟨t, 1, none⟩ a1).setCell ⟨t, 2, none⟩ a2).ownsRow B 22 1 v n xs :=
  (fr_set3 w t a0 a1 a2).own ho fun k hk e => (own_ty ho hk).ne (e ▸ hb.ty) (by decide) rfl
theorem size_set4 (w : World) (t : Nat) (a0 a1 a2 a3 : Value) : ((((w.setCell ⟨t, 0, none⟩ a0).setCell ⟨t, 1, none⟩ a1).setCell ⟨t, 2, none⟩ a2).setCell ⟨t, 3, none⟩ a3).heap.size = w.heap.size := by simp [World.setCell]
theorem size_set3 (w : World) (t : Nat) (a0 a1 a2 : Value) : (((w.setCell ⟨t, 0, none⟩ a0).setCell ⟨t, 1, none⟩ a1).setCell ⟨t, 2, none⟩ a2).heap.size = w.heap.size := by simp [World.setCell]
/-- Both snapshots lie in the memory, and nothing else is another. -/
def Tk (W wx : World) (t u : Nat) (la lb : List Value) (A4 A5 : Option Addr) (k4 k5 : Nat) (Q : List Nat) : Prop :=
  Bx wx t 76 la ∧ Bx wx u 80 lb ∧ wx.ownsRow W.heap.size 22 1 (.slice A4 Q.length k4) Q.length (ucells .u64 Q) ∧ wx.ownsRow W.heap.size 22 1 (.slice A5 Q.length k5) Q.length (ucells .u64 Q) ∧ Below W.heap.size W wx ∧ W.heap.size ≤ t ∧ W.heap.size ≤ u
theorem te_ab (x5 : Below W.heap.size W w5) (o4 : w5.ownsRow B4 22 1 (.slice A4 Q.length k4) Q.length (ucells .u64 Q)) (h4 : W.heap.size ≤ B4) (o5 : w5.ownsRow B5 22 1 (.slice A5 Q.length k5) Q.length (ucells .u64 Q)) (h5 : W.heap.size ≤ B5) (a0 a1 a2 a3 b0 b1 b2 : Value) : Tk W ((w5.alloc (.cells #[a0, a1, a2, a3] 76)).alloc (.cells #[b0, b1, b2] 80)) w5.heap.size (w5.heap.size + 1) [a0, a1, a2, a3] [b0, b1, b2] A4 A5 k4 k5 Q := by
  have h := Bx.new (w5.alloc (.cells #[a0, a1, a2, a3] 76)) 80 #[b0, b1, b2] [b0, b1, b2] rfl
  rw [show (w5.alloc (.cells #[a0, a1, a2, a3] 76)).heap.size = w5.heap.size + 1 by simp] at h
  exact ⟨(Bx.new w5 _ _ _ rfl).alloc _, h, own_le ((o4.alloc _).alloc _) h4, own_le ((o5.alloc _).alloc _) h5, (x5.al _).al _, x5.size, Nat.le_succ_of_le x5.size⟩
theorem te_ba (x5 : Below W.heap.size W w5) (o4 : w5.ownsRow B4 22 1 (.slice A4 Q.length k4) Q.length (ucells .u64 Q)) (h4 : W.heap.size ≤ B4) (o5 : w5.ownsRow B5 22 1 (.slice A5 Q.length k5) Q.length (ucells .u64 Q)) (h5 : W.heap.size ≤ B5) (a0 a1 a2 a3 b0 b1 b2 : Value) : Tk W ((w5.alloc (.cells #[b0, b1, b2] 80)).alloc (.cells #[a0, a1, a2, a3] 76)) (w5.heap.size + 1) w5.heap.size [a0, a1, a2, a3] [b0, b1, b2] A4 A5 k4 k5 Q := by
  have h := Bx.new (w5.alloc (.cells #[b0, b1, b2] 80)) 76 #[a0, a1, a2, a3] [a0, a1, a2, a3] rfl
  rw [show (w5.alloc (.cells #[b0, b1, b2] 80)).heap.size = w5.heap.size + 1 by simp] at h
  exact ⟨h, (Bx.new w5 _ _ _ rfl).alloc _, own_le ((o4.alloc _).alloc _) h4, own_le ((o5.alloc _).alloc _) h5, (x5.al _).al _, Nat.le_succ_of_le x5.size, x5.size⟩
theorem te_sa {z0 z1 z2 z3 : Value} (x5 : Below W.heap.size W w5) (o4 : w5.ownsRow B4 22 1 (.slice A4 Q.length k4) Q.length (ucells .u64 Q)) (h4 : W.heap.size ≤ B4) (o5 : w5.ownsRow B5 22 1 (.slice A5 Q.length k5) Q.length (ucells .u64 Q)) (h5 : W.heap.size ≤ B5) (fa : Bx w5 t 76 [z0, z1, z2, z3]) (ht : W.heap.size ≤ t) (a0 a1 a2 a3 b0 b1 b2 : Value) : Tk W (((((w5.setCell ⟨t, 0, none⟩ a0).setCell ⟨t, 1, none⟩ a1).setCell ⟨t, 2, none⟩ a2).setCell ⟨t, 3, none⟩ a3).alloc (.cells #[b0, b1, b2] 80)) t w5.heap.size [a0, a1, a2, a3] [b0, b1, b2] A4 A5 k4 k5 Q := by
  have h := Bx.new ((((w5.setCell ⟨t, 0, none⟩ a0).setCell ⟨t, 1, none⟩ a1).setCell ⟨t, 2, none⟩ a2).setCell ⟨t, 3, none⟩ a3) 80 #[b0, b1, b2] [b0, b1, b2] rfl
  rw [size_set4] at h
  exact ⟨(fa.set4 a0 a1 a2 a3).alloc _, h, own_le ((own_set4 o4 fa _ _ _ _).alloc _) h4, own_le ((own_set4 o5 fa _ _ _ _).alloc _) h5, ((((x5.setCell ht _).setCell ht _).setCell ht _).setCell ht _).al _, ht, x5.size⟩
theorem te_sb {z0 z1 z2 : Value} (x5 : Below W.heap.size W w5) (o4 : w5.ownsRow B4 22 1 (.slice A4 Q.length k4) Q.length (ucells .u64 Q)) (h4 : W.heap.size ≤ B4) (o5 : w5.ownsRow B5 22 1 (.slice A5 Q.length k5) Q.length (ucells .u64 Q)) (h5 : W.heap.size ≤ B5) (fb : Bx w5 u 80 [z0, z1, z2]) (hu : W.heap.size ≤ u) (a0 a1 a2 a3 b0 b1 b2 : Value) : Tk W ((((w5.setCell ⟨u, 0, none⟩ b0).setCell ⟨u, 1, none⟩ b1).setCell ⟨u, 2, none⟩ b2).alloc (.cells #[a0, a1, a2, a3] 76)) w5.heap.size u [a0, a1, a2, a3] [b0, b1, b2] A4 A5 k4 k5 Q := by
  have h := Bx.new (((w5.setCell ⟨u, 0, none⟩ b0).setCell ⟨u, 1, none⟩ b1).setCell ⟨u, 2, none⟩ b2) 76 #[a0, a1, a2, a3] [a0, a1, a2, a3] rfl
  rw [size_set3] at h
  exact ⟨h, (fb.set3 b0 b1 b2).alloc _, own_le ((own_set3 o4 fb _ _ _).alloc _) h4, own_le ((own_set3 o5 fb _ _ _).alloc _) h5, (((x5.setCell hu _).setCell hu _).setCell hu _).al _, x5.size, hu⟩
theorem te_ss {z0 z1 z2 z3 y0 y1 y2 : Value} (x5 : Below W.heap.size W w5) (o4 : w5.ownsRow B4 22 1 (.slice A4 Q.length k4) Q.length (ucells .u64 Q)) (h4 : W.heap.size ≤ B4) (o5 : w5.ownsRow B5 22 1 (.slice A5 Q.length k5) Q.length (ucells .u64 Q)) (h5 : W.heap.size ≤ B5) (fa : Bx w5 t 76 [z0, z1, z2, z3]) (ht : W.heap.size ≤ t) (fb : Bx w5 u 80 [y0, y1, y2]) (hu : W.heap.size ≤ u) (a0 a1 a2 a3 b0 b1 b2 : Value) : Tk W (((((((w5.setCell ⟨t, 0, none⟩ a0).setCell ⟨t, 1, none⟩ a1).setCell ⟨t, 2, none⟩ a2).setCell ⟨t, 3, none⟩ a3).setCell ⟨u, 0, none⟩ b0).setCell ⟨u, 1, none⟩ b1).setCell ⟨u, 2, none⟩ b2) t u [a0, a1, a2, a3] [b0, b1, b2] A4 A5 k4 k5 Q := by
  have hne : u ≠ t := fb.ty.ne fa.ty (by decide)
  have fb' := fb.oth4 hne a0 a1 a2 a3
  exact ⟨(fa.set4 a0 a1 a2 a3).oth3 hne.symm _ _ _, fb'.set3 b0 b1 b2, own_le (own_set3 (own_set4 o4 fa _ _ _ _) fb' _ _ _) h4, own_le (own_set3 (own_set4 o5 fa _ _ _ _) fb' _ _ _) h5, ((((((x5.setCell ht _).setCell ht _).setCell ht _).setCell ht _).setCell hu _).setCell hu _).setCell hu _, ht, hu⟩
end
end Go.Proofs.Ytjkjomooklhdbaa
