/-
  A book with all that it owns; what its calls may turn, told by types.
-/
import Derived.Test.YtbmkhopmhmmibaaBookF
import Derived.Test.YtbmkhopmhmmibaaBookE
namespace Go.Proofs.Ytbmkhopmhmmibaa
open Go.RowKit
set_option linter.unusedVariables false

/-- Only blocks of these types (and from B on) may have turned. -/
def FrT (l : List TypeId) (B : Nat) (w w' : World) : Prop := Fr (fun k => B ≤ k ∧ ∃ e ∈ l, Ty w k e) w w'
section
variable {l : List TypeId} {B : Nat} {w w1 w2 w' : World}
theorem FrT.refl (l : List TypeId) (B : Nat) (w : World) : FrT l B w w := Fr.refl _ _
theorem FrT.trans (h : FrT l B w w1) (k : FrT l B w1 w2) : FrT l B w w2 := by
  refine Fr.trans h k fun j hj => ?_
  obtain ⟨hB, e, he, hty⟩ := hj
  by_cases hlt : j < w.heap.size
  · left
    refine Classical.byContradiction fun hn => hn ⟨hB, e, he, ?_⟩
    obtain ⟨cs, i, ht⟩ := hty
    exact ⟨cs, i, by rw [← ht]; exact (h.block j hlt hn).symm⟩
  · exact .inr (by omega)
theorem FrT.of_below (h : Below w.heap.size w w') : FrT l B w w' := Fr.of_below h
theorem FrT.next (h : FrT l B w w1) (k : Below w1.heap.size w1 w2) : FrT l B w w2 := h.trans (FrT.of_below k)
theorem FrT.below (h : FrT l B w w') (hB : B ≤ w.heap.size) : Below B w w' := Fr.below h (fun k hk => hk.1) hB
theorem FrT.bx {b : Nat} {T : TypeId} {cs : List Value} (h : FrT l B w w') (hp : Bx w b T cs) (hT : T ∉ l) : Bx w' b T cs :=
  Fr.bx h hp fun ⟨_, e, he, ht⟩ => hp.ty.ne ht (fun eq => hT (eq ▸ he)) rfl
theorem FrT.own {base n size : Nat} {e : TypeId} {u : Value} {xs : List Value} (h : FrT l B w w') (ho : w.ownsRow base e size u n xs) (hT : e ∉ l) : w'.ownsRow base e size u n xs :=
  Fr.own h ho fun k hk ⟨_, f, hf, ht⟩ => (own_ty ho hk).ne ht (fun eq => hT (eq ▸ hf)) rfl
theorem FrT.of_fr {S : Nat → Prop} (h : Fr S w w') (hS : ∀ k, S k → B ≤ k ∧ ∃ e ∈ l, Ty w k e) : FrT l B w w' := h.mono hS
theorem FrT.lg {g f : Nat} {S : List Nat} {F : Nat → Prop} (h : FrT l B w w') (hl : LG w g f S F) (h1 : 96 ∉ l) (h2 : 5 ∉ l) (h3 : 28 ∉ l) : LG w' g f S F :=
  hl.fr h fun k hk ⟨_, e, he, ht⟩ => hl.not ht (fun eq => h1 (eq ▸ he)) (fun eq => h2 (eq ▸ he)) (fun eq => h3 (eq ▸ he)) hk
end
/-- The types of a book's blocks that its calls turn. -/
def bkT : List TypeId := [103, 123, 132, 114, 130]
/-- A table: its block, its entry, its columns. -/
structure Tb where
  b : Nat
  e : Ent
  cs : List Co
  cv : Value
def Tb.c (t : Tb) : List Value := [.int .u64 (t.e.id : Int), .string t.e.nm, .int .u64 (t.e.xmin : Int), .int .u64 (t.e.xmax : Int), t.cv]
def Tb.p (t : Tb) : Nat × Ent := (t.b, t.e)
def Ix.c (x : Ix) : List Value := [.int .u64 (x.e.id : Int), .string x.e.nm, .int .u64 (x.e.xmin : Int), .int .u64 (x.e.xmax : Int), .pointer (some ⟨x.tb, 0, none⟩), .int .i64 (x.col : Int)]
/-- A book, with all that it owns. -/
structure Bk (B : Nat) (w : World) (k last : Nat) (T : List Tb) (I : List (Nat × Ix)) (vT vI : Value) : Prop where
  kB : B ≤ k
  box : Bx w k 103 [.int .u64 (last : Int), vT, vI]
  oT : w.ownsRow B 114 1 vT T.length (T.map fun t => ptr t.b)
  oI : w.ownsRow B 130 1 vI I.length (pts I)
  tB : ∀ t ∈ T, B ≤ t.b ∧ Bx w t.b 123 t.c ∧ w.ownsRow B 121 2 t.cv t.cs.length (t.cs.flatMap Co.e)
  iB : ∀ i ∈ I, B ≤ i.1 ∧ Bx w i.1 132 i.2.c ∧ ∃ t ∈ T, t.b = i.2.tb ∧ t.e = i.2.te
  ndT : (T.map Tb.b).Nodup
  ndI : (I.map Prod.fst).Nodup
section
variable {B k last : Nat} {w w' : World} {T : List Tb} {I : List (Nat × Ix)} {vT vI : Value} {S : Nat → Prop}
/-- What turns none of its blocks leaves a book. -/
theorem Bk.fr (h : Bk B w k last T I vT vI) (hf : Fr S w w') (hn : ∀ j e, Ty w j e → S j → e ≠ 103 ∧ e ≠ 123 ∧ e ≠ 132 ∧ e ≠ 114 ∧ e ≠ 130 ∧ e ≠ 121) : Bk B w' k last T I vT vI :=
  ⟨h.kB, hf.bx h.box fun hS => (hn _ _ h.box.ty hS).1 rfl, hf.own h.oT fun j hj hS => (hn _ _ (own_ty h.oT hj) hS).2.2.2.1 rfl, hf.own h.oI fun j hj hS => (hn _ _ (own_ty h.oI hj) hS).2.2.2.2.1 rfl,
    fun t ht => by
      obtain ⟨a, b, c⟩ := h.tB t ht
      exact ⟨a, hf.bx b fun hS => (hn _ _ b.ty hS).2.1 rfl, hf.own c fun j hj hS => (hn _ _ (own_ty c hj) hS).2.2.2.2.2 rfl⟩,
    fun i hi => by
      obtain ⟨a, b, c⟩ := h.iB i hi
      exact ⟨a, hf.bx b fun hS => (hn _ _ b.ty hS).2.2.1 rfl, c⟩, h.ndT, h.ndI⟩
theorem Bk.below (h : Bk B w k last T I vT vI) (hb : Below w.heap.size w w') : Bk B w' k last T I vT vI :=
  h.fr (S := fun _ => False) (Fr.of_below hb) fun _ _ _ hh => hh.elim
theorem Bk.log {g f : Nat} {SS : List Nat} {F F' : Nat → Prop} (h : Bk B w k last T I vT vI) (hl : LG w g f SS F) (hc : Chg F F' w w') : Bk B w' k last T I vT vI := by
  refine h.fr hc.fr fun j e hj hF => ?_
  have hne : e ≠ 96 → e ≠ 5 → e ≠ 28 → False := fun h1 h2 h3 => hl.not hj h1 h2 h3 hF
  refine ⟨?_, ?_, ?_, ?_, ?_, ?_⟩ <;> (intro he; subst he; exact hne (by decide) (by decide) (by decide))
theorem En.of_bx {b : Nat} {e : Ent} {T : TypeId} {r : List Value} (h : Bx w b T ([.int .u64 (e.id : Int), .string e.nm, .int .u64 (e.xmin : Int), .int .u64 (e.xmax : Int)] ++ r)) : En w b e := ⟨h.cell 0, h.cell 1, h.cell 2, h.cell 3⟩
theorem Bk.en (h : Bk B w k last T I vT vI) {t : Tb} (ht : t ∈ T) : En w t.b t.e := En.of_bx (r := [t.cv]) (h.tB t ht).2.1
theorem Bk.im (h : Bk B w k last T I vT vI) {i : Nat × Ix} (hi : i ∈ I) : Im w i.1 i.2 := by
  obtain ⟨_, b, t, ht, h1, h2⟩ := h.iB i hi
  refine ⟨En.of_bx (r := [.pointer (some ⟨i.2.tb, 0, none⟩), .int .i64 (i.2.col : Int)]) b, b.cell 4, ?_⟩
  rw [← h1, ← h2]
  exact h.en ht
theorem Bk.m (h : Bk B w k last T I vT vI) : ∃ AT ct AI ci, vT = .slice AT T.length ct ∧ vI = .slice AI I.length ci ∧ T.length ≤ 9223372036854775807 ∧ I.length ≤ 9223372036854775807 ∧ BkM w k last AT T.length ct (T.map Tb.p) AI I.length ci I := by
  obtain ⟨AT, ct, hv, h1, h2, hr⟩ := own_form h.oT
  obtain ⟨AI, ci, hu, h3, h4, hs⟩ := own_form h.oI
  refine ⟨AT, ct, AI, ci, hv, hu, by unfold maxLen at h2; omega, by unfold maxLen at h4; omega, ?_⟩
  have hb := h.box
  rw [hv, hu] at hb
  refine ⟨hb, by simp, ?_, ?_, rfl, hs, fun t ht => h.im ht⟩
  · have : pts (T.map Tb.p) = T.map fun t => ptr t.b := by unfold pts; rw [List.map_map]; rfl
    rw [this]; exact hr
  · intro t ht
    obtain ⟨t, h, rfl⟩ := List.mem_map.1 ht
    exact Bk.en ‹_› h
end
end Go.Proofs.Ytbmkhopmhmmibaa
