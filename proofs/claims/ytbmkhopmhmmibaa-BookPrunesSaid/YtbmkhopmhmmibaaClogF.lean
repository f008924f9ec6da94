/-
  Package clog: a log by its footprint; what laws use. lapidarylaw09.awake.
-/
import Derived.Test.YtbmkhopmhmmibaaClogE
namespace Go.Proofs.Ytbmkhopmhmmibaa
open Go.RowKit
set_option linter.unusedVariables false

/-- A log, by its blocks. -/
def LG (w : World) (g f : Nat) (S : List Nat) (F : Nat → Prop) : Prop := ∃ v rv, Lg w g v rv f S ∧ F = Lf g v rv
def begR (f : Nat) (S : List Nat) : Value := if f + S.length ≤ 1099511627776 then .tuple #[.int .u64 ((f + S.length : Nat) : Int), .int .i64 0] else .tuple #[.int .u64 0, .int .i64 12]
def begL (f : Nat) (S : List Nat) : List Nat := if f + S.length ≤ 1099511627776 then S ++ [1] else S
section
variable {w w' : World} {g f : Nat} {S : List Nat} {F T : Nat → Prop}
theorem LG.fr (h : LG w g f S F) (hf : Fr T w w') (hn : ∀ k, F k → ¬ T k) : LG w' g f S F := by
  obtain ⟨v, rv, h, rfl⟩ := h
  exact ⟨v, rv, h.fr hf hn, rfl⟩
theorem LG.below (h : LG w g f S F) (hb : Below w.heap.size w w') : LG w' g f S F := h.fr (T := fun _ => False) (Fr.of_below hb) fun _ _ hh => hh
theorem LG.alloc (h : LG w g f S F) (o : Obj) : LG (w.alloc o) g f S F := h.below ((Below.refl _ _).alloc (Nat.le_refl _) o)
theorem LG.drewN (h : LG w g f S F) (n : Nat) : LG (w.drewN n) g f S F := h.below (below_n w n)
theorem LG.ty (h : LG w g f S F) {k : Nat} (hk : F k) : Ty w k 96 ∨ Ty w k 5 ∨ Ty w k 28 := by
  obtain ⟨v, rv, h, rfl⟩ := h
  exact h.ty hk
theorem LG.lt (h : LG w g f S F) {k : Nat} (hk : F k) : k < w.heap.size := by
  obtain ⟨v, rv, h, rfl⟩ := h
  exact h.lt hk
theorem LG.mem (h : LG w g f S F) : F g := by
  obtain ⟨v, rv, h, rfl⟩ := h
  exact .inl rfl
theorem LG.pos (h : LG w g f S F) : 1 ≤ f := by
  obtain ⟨v, rv, h, rfl⟩ := h
  exact h.pos
theorem LG.max (h : LG w g f S F) : f + S.length ≤ 1099511627777 := by
  obtain ⟨v, rv, h, rfl⟩ := h
  exact h.max
/-- A block of another type is none of the log's. -/
theorem LG.not (h : LG w g f S F) {k : Nat} {e : TypeId} (hT : Ty w k e) (h1 : e ≠ 96) (h2 : e ≠ 5) (h3 : e ≠ 28) : ¬ F k := fun hk => by
  rcases h.ty hk with h | h | h
  · exact hT.ne h h1 rfl
  · exact hT.ne h h2 rfl
  · exact hT.ne h h3 rfl
end
theorem lg_new (w : World) (x : Nat) (h0 : 1 ≤ x) (h : x ≤ 1099511627776) :
    Calls Try.prog 9 #[.int .u64 (x : Int)] w fun e w' => e = .returned (.tuple #[.pointer (some ⟨w.heap.size, 0, none⟩), .int .i64 0]) ∧ LG w' w.heap.size x [] (fun k => k = w.heap.size) ∧ Below w.heap.size w w' := by
  refine (new_ok w x h0 h).mono ?_
  rintro e w' ⟨rfl, hl, hb, _⟩
  exact ⟨rfl, ⟨_, _, hl, by
    funext k
    simp [Lf, Value.ownBlock]⟩, hb⟩
theorem lg_next (w : World) (g f : Nat) (S : List Nat) (F : Nat → Prop) (h : LG w g f S F) :
    Calls Try.prog 40 #[.pointer (some ⟨g, 0, none⟩)] w fun e w' => e = .returned (.int .u64 ((f + S.length : Nat) : Int)) ∧ ∃ n, w' = w.drewN n := by
  obtain ⟨v, rv, h, rfl⟩ := h
  exact next_any w g f v rv S h
theorem lg_state (w : World) (g f x : Nat) (S : List Nat) (F : Nat → Prop) (h : LG w g f S F) :
    Calls Try.prog 28 #[.pointer (some ⟨g, 0, none⟩), .int .u64 (x : Int)] w fun e w' => e = .returned (.int .i64 (stt f S x : Int)) ∧ ∃ n, w' = w.drewN n := by
  obtain ⟨v, rv, h, rfl⟩ := h
  exact state_any w g f x v rv S h
theorem lg_all (w : World) (g f : Nat) (S : List Nat) (F : Nat → Prop) (h : LG w g f S F) :
    Calls Try.prog 43 #[.pointer (some ⟨g, 0, none⟩)] w fun e w' => ∃ v', e = .returned v' ∧ w'.ownsRow w.heap.size 28 1 v' (runs f S).length (ucells .u64 (runs f S)) ∧ Below w.heap.size w w' := by
  obtain ⟨v, rv, h, rfl⟩ := h
  exact all_any w g f v rv S h
theorem lg_begin (w : World) (g f : Nat) (S : List Nat) (F : Nat → Prop) (h : LG w g f S F) :
    Calls Try.prog 13 #[.pointer (some ⟨g, 0, none⟩)] w fun e w' => e = .returned (begR f S) ∧ ∃ F', LG w' g f (begL f S) F' ∧ Chg F F' w w' := by
  obtain ⟨v, rv, h, rfl⟩ := h
  unfold begR begL
  by_cases hm : f + S.length ≤ 1099511627776
  · rw [if_pos hm, if_pos hm]
    refine (begin_ok w g f v rv S h hm).mono ?_
    rintro e w' ⟨rfl, v', rv', hl, hc⟩
    exact ⟨rfl, _, ⟨v', rv', hl, rfl⟩, hc⟩
  · rw [if_neg hm, if_neg hm]
    refine (begin_full w g f v rv S h (by have := h.max; omega)).mono ?_
    rintro e w' ⟨rfl, n, rfl⟩
    exact ⟨rfl, _, ⟨v, rv, h.drewN n, rfl⟩, Fr.of_below (below_n w n), fun k hk => .inl hk⟩
theorem lg_commit (w : World) (g f x : Nat) (S : List Nat) (F : Nat → Prop) (h : LG w g f S F) (hx64 : x < 18446744073709551616) :
    Calls Try.prog 17 #[.pointer (some ⟨g, 0, none⟩), .int .u64 (x : Int)] w fun e w' => e = .returned (.int .i64 (endE f S x)) ∧ ∃ F', LG w' g f (endL f S x 2) F' ∧ Chg F F' w w' := by
  obtain ⟨v, rv, h, rfl⟩ := h
  refine (commit_any w g f x v rv S h hx64).mono ?_
  rintro e w' ⟨rfl, rv', hl, hc⟩
  exact ⟨rfl, _, ⟨v, rv', hl, rfl⟩, hc⟩
theorem lg_abort (w : World) (g f x : Nat) (S : List Nat) (F : Nat → Prop) (h : LG w g f S F) (hx64 : x < 18446744073709551616) :
    Calls Try.prog 19 #[.pointer (some ⟨g, 0, none⟩), .int .u64 (x : Int)] w fun e w' => e = .returned (.int .i64 (endE f S x)) ∧ ∃ F', LG w' g f (endL f S x 3) F' ∧ Chg F F' w w' := by
  obtain ⟨v, rv, h, rfl⟩ := h
  refine (abort_any w g f x v rv S h hx64).mono ?_
  rintro e w' ⟨rfl, rv', hl, hc⟩
  exact ⟨rfl, _, ⟨v, rv', hl, rfl⟩, hc⟩
/-- The call's own footprint: it lies above B, and what lay below B is as it was. -/
structure Mine (B : Nat) (w0 w : World) (F : Nat → Prop) : Prop where
  above : ∀ k, F k → B ≤ k
  below : Below B w0 w
  size : B ≤ w.heap.size
section
variable {B : Nat} {w0 w w' : World} {F F' : Nat → Prop}
theorem Mine.chg (h : Mine B w0 w F) (hc : Chg F F' w w') : Mine B w0 w' F' :=
  ⟨fun k hk => (hc.new k hk).elim (h.above k) fun hh => Nat.le_trans h.size hh, h.below.trans (hc.fr.below h.above h.size), Nat.le_trans h.size hc.fr.size⟩
theorem Mine.next (h : Mine B w0 w F) (hb : Below w.heap.size w w') : Mine B w0 w' F := ⟨h.above, h.below.trans (hb.mono h.size), Nat.le_trans h.size hb.size⟩
theorem Mine.alloc (h : Mine B w0 w F) (o : Obj) : Mine B w0 (w.alloc o) F := h.next ((Below.refl _ _).alloc (Nat.le_refl _) o)
theorem Mine.drewN (h : Mine B w0 w F) (n : Nat) : Mine B w0 (w.drewN n) F := h.next (below_n w n)
end
end Go.Proofs.Ytbmkhopmhmmibaa
