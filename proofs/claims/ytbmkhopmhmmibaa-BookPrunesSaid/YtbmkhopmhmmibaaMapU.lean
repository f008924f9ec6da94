/-
  A map in memory whose keys are numbers that aren't below 0: what it has, by a function.
-/
import Derived.Test.YtbmkhopmhmmibaaFram
import Derived.Test.YtbmkhopmhmmibaaProg
import Derived.Maps.OwnSet
import Derived.Maps.OwnOps
namespace Go.Proofs.Ytbmkhopmhmmibaa
open Go.RowKit Go.Maps
set_option linter.unusedVariables false

theorem lawU : Keyed Try.prog 28 := int_keyed Try.underlying28
/-- How elements stand: what they read as, and what they are; the type's zero value. -/
structure El (e : TypeId) (α : Type) where
  L : α → Lit
  V : α → Value
  zl : Lit
  zv : Value
  zero : ∀ w, (zeroValue e).run Try.prog w = .ok zv w
  pz : plainElem (H := Unit) Try.prog e zv = some (.lit zl, [])
  pv : ∀ a, plainElem (H := Unit) Try.prog e (V a) = some (.lit (L a), [])
  iz : ∀ v ps, plainElem (H := Unit) Try.prog e v = some (.lit zl, ps) → v = zv
  iv : ∀ a v ps, plainElem (H := Unit) Try.prog e v = some (.lit (L a), ps) → v = V a
def ku (x : Nat) : Lit := .int .u64 (x : Int)
theorem ku_inj {x y : Nat} (h : ku x = ku y) : x = y := by
  unfold ku at h
  injection h with _ h
  omega
theorem ku_key (x : Nat) : WideAt.IsKeyLit (ku x) := show WideAt.IsKeyLit (.int .u64 (x : Int)) from trivial
theorem ku_of {x : Nat} (hx : x < 18446744073709551616) : keyOf Try.prog 28 (.int .u64 (x : Int)) = some (ku x) :=
  keyOf_int_mk Try.underlying28 (by simp [Lit.wf, IntKind.min, IntKind.max, IntKind.signed, IntKind.bits]; omega)
/-- Block b is a map that has just what f says, c elements; n: so many stores at most. -/
def MU {α : Type} {e : TypeId} (E : El e α) (w : World) (b : Nat) (f : Nat → Option α) (c n : Nat) : Prop :=
  ∃ D : DataW Unit, w.ownsMap Try.prog 28 (plainElem Try.prog e) b n D ∧ (∀ x, Maps.has D (ku x) = (f x).isSome) ∧ (∀ x u, f x = some u → ∀ z, D.atKey (ku x) z = .lit (E.L u)) ∧ Maps.size D = c
def upd {α : Type} (f : Nat → Option α) (x : Nat) (u : Option α) (y : Nat) : Option α := if y = x then u else f y
section
variable {α : Type} {e : TypeId} {E : El e α} {w w' : World} {b c n : Nat} {f : Nat → Option α}
theorem mu_made (E : El e α) (w : World) : MU E (w.alloc (.map #[] 0)) w.heap.size (fun _ => none) 0 0 :=
  ⟨.map [], World.ownsMap_made _ _ _ _, fun _ => rfl, fun _ _ h => (by cases h), rfl⟩
theorem MU.lt (h : MU E w b f c n) : b < w.heap.size := by
  obtain ⟨D, h, _⟩ := h
  exact h.lt
theorem MU.fr {T : Nat → Prop} (h : MU E w b f c n) (hf : Fr T w w') (hn : ¬ T b) : MU E w' b f c n := by
  obtain ⟨D, ⟨es, clock, hb, r⟩, h2⟩ := h
  exact ⟨D, ⟨es, clock, (hf.block b (Array.getElem?_eq_some_iff.1 hb).1 hn).trans hb, r⟩, h2⟩
theorem MU.below (h : MU E w b f c n) (hb : Below w.heap.size w w') : MU E w' b f c n := h.fr (T := fun _ => False) (Fr.of_below hb) fun hh => hh
theorem MU.alloc (h : MU E w b f c n) (o : Obj) : MU E (w.alloc o) b f c n := h.below ((Below.refl _ _).alloc (Nat.le_refl _) o)
/-- A map's block is no row's. -/
theorem MU.not_ty (h : MU E w b f c n) {t : TypeId} : ¬ Ty w b t := fun ⟨cs, i, hb⟩ => by
  obtain ⟨D, ⟨es, clock, hb', _⟩, _⟩ := h
  rw [hb] at hb'
  cases hb'
theorem MU.get (h : MU E w b f c n) {t : TypeId} (ht : Try.prog.underlying t = some (.map 28 e)) {x : Nat} (hx : x < 18446744073709551616) :
    (Instr.lookup t (.map (some b)) (.int .u64 (x : Int)) false).run Try.prog w = .ok ((f x).elim E.zv E.V) w := by
  obtain ⟨D, ho, h1, h2, _⟩ := h
  obtain ⟨v, ps, hr, hv⟩ := ho.lookup lawU ht (E.zero w) E.pz (ku_of hx)
  rw [hr]
  cases hf : f x with
  | none =>
    rw [Maps.atKey_of_not_has (by rw [h1, hf]; rfl)] at hv
    rw [E.iz v ps hv]; rfl
  | some u =>
    rw [h2 x u hf] at hv
    rw [E.iv u v ps hv]; rfl
theorem MU.len (h : MU E w b f c n) {t : TypeId} (ht : Try.prog.underlying t = some (.map 28 e)) (ty : TypeId) :
    (Builtin.len_ #[t] ty #[.map (some b)]).run Try.prog w = .ok (.int .i64 (c : Int)) w := by
  obtain ⟨D, ho, _, _, rfl⟩ := h
  exact ho.len ht ty
theorem mu_put_D {D : DataW Unit} (hT : Maps.Tidy D) (h1 : ∀ x, Maps.has D (ku x) = (f x).isSome) (h2 : ∀ x u, f x = some u → ∀ z, D.atKey (ku x) z = .lit (E.L u)) (x : Nat) (u : α) :
    (∀ y, Maps.has (D.put (ku x) (.lit (E.L u))) (ku y) = (upd f x (some u) y).isSome) ∧ (∀ y v, upd f x (some u) y = some v → ∀ z, (D.put (ku x) (.lit (E.L u))).atKey (ku y) z = .lit (E.L v)) ∧
    Maps.size (D.put (ku x) (.lit (E.L u))) = if (f x).isSome then Maps.size D else Maps.size D + 1 := by
  refine ⟨fun y => ?_, fun y v hv z => ?_, by rw [Maps.size_put hT, h1]⟩
  · unfold upd
    by_cases hy : y = x
    · subst hy; rw [if_pos rfl, Maps.has_put_same hT.isMap (ku_key y)]; rfl
    · rw [if_neg hy, Maps.has_put_other (fun hh => hy (ku_inj hh)), h1]
  · unfold upd at hv
    by_cases hy : y = x
    · subst hy
      rw [if_pos rfl] at hv
      cases hv
      exact Maps.atKey_put_same hT.isMap (ku_key y) _ z
    · rw [if_neg hy] at hv
      rw [Maps.atKey_put_other (fun hh => hy (ku_inj hh))]
      exact h2 y v hv z
theorem mu_del_D {D : DataW Unit} (hT : Maps.Tidy D) (h1 : ∀ x, Maps.has D (ku x) = (f x).isSome) (h2 : ∀ x u, f x = some u → ∀ z, D.atKey (ku x) z = .lit (E.L u)) (x : Nat) :
    (∀ y, Maps.has (D.del (ku x)) (ku y) = (upd f x none y).isSome) ∧ (∀ y v, upd f x none y = some v → ∀ z, (D.del (ku x)).atKey (ku y) z = .lit (E.L v)) ∧
    Maps.size (D.del (ku x)) = if (f x).isSome then Maps.size D - 1 else Maps.size D := by
  refine ⟨fun y => ?_, fun y v hv z => ?_, ?_⟩
  · unfold upd
    by_cases hy : y = x
    · subst hy; rw [if_pos rfl, Maps.has_del_same]; rfl
    · rw [if_neg hy, Maps.has_del_other (fun hh => hy (ku_inj hh)), h1]
  · unfold upd at hv
    by_cases hy : y = x
    · subst hy; rw [if_pos rfl] at hv; cases hv
    · rw [if_neg hy] at hv
      rw [Maps.atKey_del_other (fun hh => hy (ku_inj hh))]
      exact h2 y v hv z
  · have := Maps.size_del (k := ku x) hT
    rw [h1] at this
    split
    · rename_i hh; rw [if_pos hh] at this; omega
    · rename_i hh; rw [if_neg hh] at this; omega
end
section
variable {α : Type} {e : TypeId} {ops : Array Oper} {rest : List Oper} {o : Oper} {a : Act} {Q : Exit → Act → World → Prop}
/-- A store, at the operation. -/
theorem wpList_mu_put (E : El e α) (w : World) (hg : o.guard = none) (m x v : Operand) (t : TypeId) (hop : o.op = Op.mapUpdate t m x v) (ht : Try.prog.underlying t = some (.map 28 e))
    (b c n : Nat) (f : Nat → Option α) (hm : a.eval m = .map (some b)) (h : MU E w b f c n) (hn : n < 9223372036854775807) (k : Nat) (hk : k < 18446744073709551616) (u : α) (hx : a.eval x = .int .u64 (k : Int)) (hv : a.eval v = E.V u)
    (hK : ∀ w', MU E w' b (upd f k (some u)) (if (f k).isSome then c else c + 1) (n + 1) → Fr (fun i => i = b) w w' → wpList Try.prog ops Q rest (a.put o.dst undef) w') :
    wpList Try.prog ops Q (o :: rest) a w := by
  obtain ⟨D, ho, h1, h2, rfl⟩ := h
  refine wpList_mapUpdate_own w hg m x v t hop 28 e lawU ht (plainElem Try.prog e) b n D hm ho (by unfold maxLen; omega) _ _ (ku k) hx hv (ku_of hk) (.lit (E.L u)) [] (E.pv u) fun w' ho' hg' => ?_
  have hp := mu_put_D (E := E) (ho.tidy lawU) h1 h2 k u
  exact hK w' ⟨_, ho', hp.1, hp.2.1, hp.2.2⟩ ⟨hg'.os, hg'.tape, hg'.output, hg'.size, fun i hi hne => hg'.block i hi (fun ee => hne (by injection ee))⟩
/-- A deletion, at the operation. -/
theorem wpList_mu_del (E : El e α) (w : World) (hg : o.guard = none) (m x : Operand) (t kt : TypeId) (hkt : kt = 28) (hop : o.op = Op.call { callee := Callee.builtin Builtin.delete, args := #[m, x], argTypes := #[t, kt] }) (ht : Try.prog.underlying t = some (.map 28 e))
    (b c n : Nat) (f : Nat → Option α) (hm : a.eval m = .map (some b)) (h : MU E w b f c n) (k : Nat) (hk : k < 18446744073709551616) (hx : a.eval x = .int .u64 (k : Int))
    (hK : ∀ w', MU E w' b (upd f k none) (if (f k).isSome then c - 1 else c) n → Fr (fun i => i = b) w w' → wpList Try.prog ops Q rest (a.put o.dst (.tuple #[])) w') :
    wpList Try.prog ops Q (o :: rest) a w := by
  subst hkt
  obtain ⟨D, ho, h1, h2, rfl⟩ := h
  refine wpList_delete_own w hg m x t 28 hop e lawU ht (plainElem Try.prog e) b n D hm ho _ (ku k) hx (ku_of hk) fun w' ho' hg' => ?_
  have hp := mu_del_D (E := E) (ho.tidy lawU) h1 h2 k
  have hg2 := hg'.grown
  exact hK w' ⟨_, ho', hp.1, hp.2.1, hp.2.2⟩ ⟨hg2.os, hg2.tape, hg2.output, hg2.size, fun i hi hne => hg2.block i hi (fun ee => hne (by injection ee))⟩
end
end Go.Proofs.Ytbmkhopmhmmibaa
