/-
  A map in memory whose keys are numbers that aren't below 0, whatever its elements: what it has, by a function.
-/
import Derived.Test.YtbmkhopmhmmibaaFram
import Derived.Test.YtbmkhopmhmmibaaProg
import Derived.Maps.OwnSet
import Derived.Maps.OwnOps
namespace Go.Proofs.Ytbmkhopmhmmibaa
open Go.RowKit Go.Maps
set_option linter.unusedVariables false

theorem lawG : Keyed Try.prog 28 := int_keyed Try.underlying28
/-- How elements stand: what they read as, and what they are; the type's zero value. -/
structure ElG (e : TypeId) (H α : Type) where
  R : Value → Option (DataW H × List MemPlace)
  L : α → DataW H
  V : α → Value
  zl : DataW H
  zv : Value
  zero : ∀ w, (zeroValue e).run Try.prog w = .ok zv w
  pz : R zv = some (zl, [])
  pv : ∀ a, R (V a) = some (L a, [])
  iz : ∀ v ps, R v = some (zl, ps) → v = zv
  iv : ∀ a v ps, R v = some (L a, ps) → v = V a
def kg (x : Nat) : Lit := .int .u64 (x : Int)
theorem kg_inj {x y : Nat} (h : kg x = kg y) : x = y := by
  unfold kg at h
  injection h with _ h
  omega
theorem kg_key (x : Nat) : WideAt.IsKeyLit (kg x) := show WideAt.IsKeyLit (.int .u64 (x : Int)) from trivial
theorem kg_of {x : Nat} (hx : x < 18446744073709551616) : keyOf Try.prog 28 (.int .u64 (x : Int)) = some (kg x) :=
  keyOf_int_mk Try.underlying28 (by simp [Lit.wf, IntKind.min, IntKind.max, IntKind.signed, IntKind.bits]; omega)
/-- Block b is a map that has just what f says, c elements; n: so many stores at most. -/
def MG {H α : Type} {e : TypeId} (E : ElG e H α) (w : World) (b : Nat) (f : Nat → Option α) (c n : Nat) : Prop :=
  ∃ D : DataW H, w.ownsMap Try.prog 28 E.R b n D ∧ (∀ x, Maps.has D (kg x) = (f x).isSome) ∧ (∀ x u, f x = some u → ∀ z, D.atKey (kg x) z = E.L u) ∧ Maps.size D = c
def updG {α : Type} (f : Nat → Option α) (x : Nat) (u : Option α) (y : Nat) : Option α := if y = x then u else f y
section
variable {H α : Type} {e : TypeId} {E : ElG e H α} {w w' : World} {b c n : Nat} {f : Nat → Option α}
theorem mg_made (E : ElG e H α) (w : World) : MG E (w.alloc (.map #[] 0)) w.heap.size (fun _ => none) 0 0 :=
  ⟨.map [], World.ownsMap_made _ _ _ _, fun _ => rfl, fun _ _ h => (by cases h), rfl⟩
theorem MG.lt (h : MG E w b f c n) : b < w.heap.size := by
  obtain ⟨D, h, _⟩ := h
  exact h.lt
theorem MG.fr {T : Nat → Prop} (h : MG E w b f c n) (hf : Fr T w w') (hn : ¬ T b) : MG E w' b f c n := by
  obtain ⟨D, ⟨es, clock, hb, r⟩, h2⟩ := h
  exact ⟨D, ⟨es, clock, (hf.block b (Array.getElem?_eq_some_iff.1 hb).1 hn).trans hb, r⟩, h2⟩
theorem MG.below (h : MG E w b f c n) (hb : Below w.heap.size w w') : MG E w' b f c n := h.fr (T := fun _ => False) (Fr.of_below hb) fun hh => hh
theorem MG.alloc (h : MG E w b f c n) (o : Obj) : MG E (w.alloc o) b f c n := h.below ((Below.refl _ _).alloc (Nat.le_refl _) o)
/-- A map's block is no row's. -/
theorem MG.not_ty (h : MG E w b f c n) {t : TypeId} : ¬ Ty w b t := fun ⟨cs, i, hb⟩ => by
  obtain ⟨D, ⟨es, clock, hb', _⟩, _⟩ := h
  rw [hb] at hb'
  cases hb'
theorem MG.get (h : MG E w b f c n) {t : TypeId} (ht : Try.prog.underlying t = some (.map 28 e)) {x : Nat} (hx : x < 18446744073709551616) :
    (Instr.lookup t (.map (some b)) (.int .u64 (x : Int)) false).run Try.prog w = .ok ((f x).elim E.zv E.V) w := by
  obtain ⟨D, ho, h1, h2, _⟩ := h
  obtain ⟨v, ps, hr, hv⟩ := ho.lookup lawG ht (E.zero w) E.pz (kg_of hx)
  rw [hr]
  cases hf : f x with
  | none =>
    rw [Maps.atKey_of_not_has (by rw [h1, hf]; rfl)] at hv
    rw [E.iz v ps hv]; rfl
  | some u =>
    rw [h2 x u hf] at hv
    rw [E.iv u v ps hv]; rfl
theorem MG.len (h : MG E w b f c n) {t : TypeId} (ht : Try.prog.underlying t = some (.map 28 e)) (ty : TypeId) :
    (Builtin.len_ #[t] ty #[.map (some b)]).run Try.prog w = .ok (.int .i64 (c : Int)) w := by
  obtain ⟨D, ho, _, _, rfl⟩ := h
  exact ho.len ht ty
theorem mg_put_D {D : DataW H} (hT : Maps.Tidy D) (h1 : ∀ x, Maps.has D (kg x) = (f x).isSome) (h2 : ∀ x u, f x = some u → ∀ z, D.atKey (kg x) z = E.L u) (x : Nat) (u : α) :
    (∀ y, Maps.has (D.put (kg x) (E.L u)) (kg y) = (updG f x (some u) y).isSome) ∧ (∀ y v, updG f x (some u) y = some v → ∀ z, (D.put (kg x) (E.L u)).atKey (kg y) z = E.L v) ∧
    Maps.size (D.put (kg x) (E.L u)) = if (f x).isSome then Maps.size D else Maps.size D + 1 := by
  refine ⟨fun y => ?_, fun y v hv z => ?_, by rw [Maps.size_put hT, h1]⟩
  · unfold updG
    by_cases hy : y = x
    · subst hy; rw [if_pos rfl, Maps.has_put_same hT.isMap (kg_key y)]; rfl
    · rw [if_neg hy, Maps.has_put_other (fun hh => hy (kg_inj hh)), h1]
  · unfold updG at hv
    by_cases hy : y = x
    · subst hy
      rw [if_pos rfl] at hv
      cases hv
      exact Maps.atKey_put_same hT.isMap (kg_key y) _ z
    · rw [if_neg hy] at hv
      rw [Maps.atKey_put_other (fun hh => hy (kg_inj hh))]
      exact h2 y v hv z
theorem mg_del_D {D : DataW H} (hT : Maps.Tidy D) (h1 : ∀ x, Maps.has D (kg x) = (f x).isSome) (h2 : ∀ x u, f x = some u → ∀ z, D.atKey (kg x) z = E.L u) (x : Nat) :
    (∀ y, Maps.has (D.del (kg x)) (kg y) = (updG f x none y).isSome) ∧ (∀ y v, updG f x none y = some v → ∀ z, (D.del (kg x)).atKey (kg y) z = E.L v) ∧
    Maps.size (D.del (kg x)) = if (f x).isSome then Maps.size D - 1 else Maps.size D := by
  refine ⟨fun y => ?_, fun y v hv z => ?_, ?_⟩
  · unfold updG
    by_cases hy : y = x
    · subst hy; rw [if_pos rfl, Maps.has_del_same]; rfl
    · rw [if_neg hy, Maps.has_del_other (fun hh => hy (kg_inj hh)), h1]
  · unfold updG at hv
    by_cases hy : y = x
    · subst hy; rw [if_pos rfl] at hv; cases hv
    · rw [if_neg hy] at hv
      rw [Maps.atKey_del_other (fun hh => hy (kg_inj hh))]
      exact h2 y v hv z
  · have := Maps.size_del (k := kg x) hT
    rw [h1] at this
    split
    · rename_i hh; rw [if_pos hh] at this; omega
    · rename_i hh; rw [if_neg hh] at this; omega
end
section
variable {H α : Type} {e : TypeId} {ops : Array Oper} {rest : List Oper} {o : Oper} {a : Act} {Q : Exit → Act → World → Prop}
/-- A store, at the operation. -/
theorem wpList_mg_put (E : ElG e H α) (w : World) (hg : o.guard = none) (m x v : Operand) (t : TypeId) (hop : o.op = Op.mapUpdate t m x v) (ht : Try.prog.underlying t = some (.map 28 e))
    (b c n : Nat) (f : Nat → Option α) (hm : a.eval m = .map (some b)) (h : MG E w b f c n) (hn : n < 9223372036854775807) (k : Nat) (hk : k < 18446744073709551616) (u : α) (hx : a.eval x = .int .u64 (k : Int)) (hv : a.eval v = E.V u)
    (hK : ∀ w', MG E w' b (updG f k (some u)) (if (f k).isSome then c else c + 1) (n + 1) → Fr (fun i => i = b) w w' → wpList Try.prog ops Q rest (a.put o.dst undef) w') :
    wpList Try.prog ops Q (o :: rest) a w := by
  obtain ⟨D, ho, h1, h2, rfl⟩ := h
  refine wpList_mapUpdate_own w hg m x v t hop 28 e lawG ht E.R b n D hm ho (by unfold maxLen; omega) _ _ (kg k) hx hv (kg_of hk) (E.L u) [] (E.pv u) fun w' ho' hg' => ?_
  have hp := mg_put_D (E := E) (ho.tidy lawG) h1 h2 k u
  exact hK w' ⟨_, ho', hp.1, hp.2.1, hp.2.2⟩ ⟨hg'.os, hg'.tape, hg'.output, hg'.size, fun i hi hne => hg'.block i hi (fun ee => hne (by injection ee))⟩
/-- A deletion, at the operation. -/
theorem wpList_mg_del (E : ElG e H α) (w : World) (hg : o.guard = none) (m x : Operand) (t kt : TypeId) (hkt : kt = 28) (hop : o.op = Op.call { callee := Callee.builtin Builtin.delete, args := #[m, x], argTypes := #[t, kt] }) (ht : Try.prog.underlying t = some (.map 28 e))
    (b c n : Nat) (f : Nat → Option α) (hm : a.eval m = .map (some b)) (h : MG E w b f c n) (k : Nat) (hk : k < 18446744073709551616) (hx : a.eval x = .int .u64 (k : Int))
    (hK : ∀ w', MG E w' b (updG f k none) (if (f k).isSome then c - 1 else c) n → Fr (fun i => i = b) w w' → wpList Try.prog ops Q rest (a.put o.dst (.tuple #[])) w') :
    wpList Try.prog ops Q (o :: rest) a w := by
  subst hkt
  obtain ⟨D, ho, h1, h2, rfl⟩ := h
  refine wpList_delete_own w hg m x t 28 hop e lawG ht E.R b n D hm ho _ (kg k) hx (kg_of hk) fun w' ho' hg' => ?_
  have hp := mg_del_D (E := E) (ho.tidy lawG) h1 h2 k
  have hg2 := hg'.grown
  exact hK w' ⟨_, ho', hp.1, hp.2.1, hp.2.2⟩ ⟨hg2.os, hg2.tape, hg2.output, hg2.size, fun i hi hne => hg2.block i hi (fun ee => hne (by injection ee))⟩
end
end Go.Proofs.Ytbmkhopmhmmibaa
