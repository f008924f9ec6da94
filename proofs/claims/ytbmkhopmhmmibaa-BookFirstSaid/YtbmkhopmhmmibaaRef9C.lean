/-
  The log and the document's log side by side: the same first number, the same states.
-/
import Derived.Test.YtbmkhopmhmmibaaRef9B
namespace Go.Proofs.Ytbmkhopmhmmibaa
open Go.RowKit
set_option linter.unusedVariables false

def RG (w : World) (g f : Nat) (S : List Nat) (G : Nat → Prop) : Prop := ∃ v, Rg w g v f S ∧ G = Rf g v
section
variable {w w' : World} {g f : Nat} {S : List Nat} {G T : Nat → Prop}
theorem RG.fr (h : RG w g f S G) (hf : Fr T w w') (hn : ∀ k, G k → ¬ T k) : RG w' g f S G := by
  obtain ⟨v, h, rfl⟩ := h
  exact ⟨v, h.fr hf hn, rfl⟩
theorem RG.below (h : RG w g f S G) (hb : Below w.heap.size w w') : RG w' g f S G := h.fr (T := fun _ => False) (Fr.of_below hb) fun _ _ hh => hh
theorem RG.ty (h : RG w g f S G) {k : Nat} (hk : G k) : Ty w k 99 ∨ Ty w k 3 := by
  obtain ⟨v, h, rfl⟩ := h
  exact h.ty hk
theorem RG.lt (h : RG w g f S G) {k : Nat} (hk : G k) : k < w.heap.size := by
  obtain ⟨v, h, rfl⟩ := h
  exact h.lt hk
/-- Two logs share no block. -/
theorem LG.apart {F : Nat → Prop} {g2 : Nat} (h : LG w g f S F) (r : RG w g2 f S G) {k : Nat} (hk : F k) : ¬ G k := fun hg => by
  rcases r.ty hg with hT | hT
  · exact h.not hT (by decide) (by decide) (by decide) hk
  · exact h.not hT (by decide) (by decide) (by decide) hk
end
theorem rg_new (w : World) (x : Nat) (h0 : 1 ≤ x) (h : x ≤ 1099511627776) :
    Calls Try.prog 10 #[.int .u64 (x : Int)] w fun e w' => e = .returned (.tuple #[.pointer (some ⟨w.heap.size, 0, none⟩), .int .i64 0]) ∧ RG w' w.heap.size x [] (fun k => k = w.heap.size) ∧ Below w.heap.size w w' := by
  refine (rnew_ok w x h0 h).mono ?_
  rintro e w' ⟨rfl, hl, hb⟩
  exact ⟨rfl, ⟨_, hl, by funext k; simp [Rf, Value.ownBlock]⟩, hb⟩
theorem rg_next (w : World) (g f : Nat) (S : List Nat) (G : Nat → Prop) (h : RG w g f S G) :
    Calls Try.prog 41 #[.pointer (some ⟨g, 0, none⟩)] w fun e w' => e = .returned (.int .u64 ((f + S.length : Nat) : Int)) ∧ ∃ n, w' = w.drewN n := by
  obtain ⟨v, h, rfl⟩ := h
  exact rnext_any w g f v S h
theorem rg_state (w : World) (g f x : Nat) (S : List Nat) (G : Nat → Prop) (h : RG w g f S G) (hx64 : x < 18446744073709551616) :
    Calls Try.prog 47 #[.pointer (some ⟨g, 0, none⟩), .int .u64 (x : Int)] w fun e w' => e = .returned (.int .i64 (stt f S x : Int)) ∧ ∃ n, w' = w.drewN n := by
  obtain ⟨v, h, rfl⟩ := h
  exact rstate_any w g f x v S h hx64
theorem rg_all (w : World) (g f : Nat) (S : List Nat) (G : Nat → Prop) (h : RG w g f S G) :
    Calls Try.prog 45 #[.pointer (some ⟨g, 0, none⟩)] w fun e w' => ∃ v', e = .returned v' ∧ w'.ownsRow w.heap.size 28 1 v' (runs f S).length (ucells .u64 (runs f S)) ∧ Below w.heap.size w w' := by
  obtain ⟨v, h, rfl⟩ := h
  exact rall_any w g f v S h
theorem rg_begin (w : World) (g f : Nat) (S : List Nat) (G : Nat → Prop) (h : RG w g f S G) :
    Calls Try.prog 14 #[.pointer (some ⟨g, 0, none⟩)] w fun e w' => e = .returned (begR f S) ∧ ∃ G', RG w' g f (begL f S) G' ∧ Chg G G' w w' := by
  obtain ⟨v, h, rfl⟩ := h
  unfold begR begL
  by_cases hm : f + S.length ≤ 1099511627776
  · rw [if_pos hm, if_pos hm]
    refine (rbegin_ok w g f v S h hm).mono ?_
    rintro e w' ⟨rfl, v', hl, hc⟩
    exact ⟨rfl, _, ⟨v', hl, rfl⟩, hc⟩
  · rw [if_neg hm, if_neg hm]
    refine (rbegin_full w g f v S h (by have := h.max; omega)).mono ?_
    rintro e w' ⟨rfl, n, rfl⟩
    exact ⟨rfl, _, ⟨v, h.drewN n, rfl⟩, Fr.of_below (below_n w n), fun k hk => .inl hk⟩
theorem rg_end (w : World) (g f x s : Nat) (S : List Nat) (G : Nat → Prop) (h : RG w g f S G) (hx64 : x < 18446744073709551616) :
    Calls Try.prog 18 #[.pointer (some ⟨g, 0, none⟩), .int .u64 (x : Int), .int .i64 (s : Int)] w fun e w' => e = .returned (.int .i64 (endE f S x)) ∧ ∃ G', RG w' g f (endL f S x s) G' ∧ Chg G G' w w' := by
  obtain ⟨v, h, rfl⟩ := h
  refine (rend_any w g f x s v S h hx64).mono ?_
  rintro e w' ⟨rfl, hl, hc⟩
  exact ⟨rfl, _, ⟨v, hl, rfl⟩, hc⟩
/-- Both logs, by what blocks they have; they lie above B. -/
structure Bo (B : Nat) (w0 w : World) (g r f : Nat) (S : List Nat) (H : Nat → Prop) : Prop where
  two : ∃ F G, LG w g f S F ∧ RG w r f S G ∧ H = fun k => F k ∨ G k
  mine : Mine B w0 w H
section
variable {B : Nat} {w0 w w' : World} {g r f : Nat} {S : List Nat} {H T : Nat → Prop}
theorem Bo.below (h : Bo B w0 w g r f S H) (hb : Below w.heap.size w w') : Bo B w0 w' g r f S H := by
  obtain ⟨⟨F, G, hl, hr, e⟩, hm⟩ := h
  exact ⟨⟨F, G, hl.below hb, hr.below hb, e⟩, hm.next hb⟩
theorem Bo.alloc (h : Bo B w0 w g r f S H) (o : Obj) : Bo B w0 (w.alloc o) g r f S H := h.below ((Below.refl _ _).alloc (Nat.le_refl _) o)
theorem Bo.drewN (h : Bo B w0 w g r f S H) (n : Nat) : Bo B w0 (w.drewN n) g r f S H := h.below (below_n w n)
theorem Bo.lt (h : Bo B w0 w g r f S H) {k : Nat} (hk : H k) : k < w.heap.size := by
  obtain ⟨⟨F, G, hl, hr, rfl⟩, hm⟩ := h
  exact hk.elim hl.lt hr.lt
theorem Bo.pos (h : Bo B w0 w g r f S H) : 1 ≤ f := by
  obtain ⟨⟨F, G, hl, hr, rfl⟩, hm⟩ := h
  exact hl.pos
theorem Bo.max (h : Bo B w0 w g r f S H) : f + S.length ≤ 1099511627777 := by
  obtain ⟨⟨F, G, hl, hr, rfl⟩, hm⟩ := h
  exact hl.max
/-- What lies in other blocks stays. -/
theorem bo_other {w w' : World} {H H' : Nat → Prop} (hc : Chg H H' w w') {k : Nat} (hk : k < w.heap.size) (hn : ¬ H k) : w'.heap[k]? = w.heap[k]? ∧ ¬ H' k :=
  ⟨hc.fr.block k hk hn, fun hh => (hc.new k hh).elim hn fun hh => by omega⟩
end
theorem chg_left {F F' G : Nat → Prop} {w w' : World} (h : Chg F F' w w') : Chg (fun k => F k ∨ G k) (fun k => F' k ∨ G k) w w' :=
  ⟨h.fr.mono fun k hk => .inl hk, fun k hk => hk.elim (fun hk => (h.new k hk).imp (fun h => .inl h) id) fun hk => .inl (.inr hk)⟩
theorem chg_right {F G G' : Nat → Prop} {w w' : World} (h : Chg G G' w w') : Chg (fun k => F k ∨ G k) (fun k => F k ∨ G' k) w w' :=
  ⟨h.fr.mono fun k hk => .inr hk, fun k hk => hk.elim (fun hk => .inl (.inl hk)) fun hk => (h.new k hk).imp (fun h => .inr h) id⟩
/-- Half a step: the log has gone ahead. -/
structure Ha (B : Nat) (w0 w : World) (g r f : Nat) (S S' : List Nat) (H : Nat → Prop) : Prop where
  two : ∃ F G, LG w g f S' F ∧ RG w r f S G ∧ H = (fun k => F k ∨ G k) ∧ (∀ k, F k → ¬ G k)
  mine : Mine B w0 w H
theorem lg_ty' {w : World} {g f : Nat} {S : List Nat} {F : Nat → Prop} (h : LG w g f S F) {k : Nat} {e : TypeId} (hT : Ty w k e) (h1 : e ≠ 96) (h2 : e ≠ 5) (h3 : e ≠ 28) : ¬ F k := h.not hT h1 h2 h3
theorem rl_apart {w : World} {g r f : Nat} {S S' : List Nat} {F G : Nat → Prop} (h : LG w g f S F) (hr : RG w r f S' G) : ∀ k, F k → ¬ G k := fun k hk hg => by
  rcases hr.ty hg with hT | hT
  · exact h.not hT (by decide) (by decide) (by decide) hk
  · exact h.not hT (by decide) (by decide) (by decide) hk
section
variable {B : Nat} {w0 : World} {g r f : Nat} {S : List Nat} {H : Nat → Prop}
theorem bo_ahead {w w' : World} {S' : List Nat} {F F' G : Nat → Prop} (hl : LG w g f S F) (hr : RG w r f S G) (hm : Mine B w0 w (fun k => F k ∨ G k)) (hl' : LG w' g f S' F') (hc : Chg F F' w w') :
    Ha B w0 w' g r f S S' (fun k => F' k ∨ G k) ∧ Chg (fun k => F k ∨ G k) (fun k => F' k ∨ G k) w w' := by
  have hr' := hr.fr hc.fr fun k hk hf => rl_apart hl hr k hf hk
  exact ⟨⟨⟨F', G, hl', hr', rfl, rl_apart hl' hr'⟩, hm.chg (chg_left hc)⟩, chg_left hc⟩
theorem ha_meet {w w' : World} {S' : List Nat} {F G G' : Nat → Prop} (hl : LG w g f S' F) (hr : RG w r f S G) (ha : ∀ k, F k → ¬ G k) (hm : Mine B w0 w (fun k => F k ∨ G k)) (hr' : RG w' r f S' G') (hc : Chg G G' w w') :
    Bo B w0 w' g r f S' (fun k => F k ∨ G' k) ∧ Chg (fun k => F k ∨ G k) (fun k => F k ∨ G' k) w w' := by
  have hl' := hl.fr hc.fr ha
  exact ⟨⟨⟨F, G', hl', hr', rfl⟩, hm.chg (chg_right hc)⟩, chg_right hc⟩
theorem bo_commit {w : World} (x : Nat) (h : Bo B w0 w g r f S H) (hx64 : x < 18446744073709551616) :
    Calls Try.prog 17 #[.pointer (some ⟨g, 0, none⟩), .int .u64 (x : Int)] w fun e w' => e = .returned (.int .i64 (endE f S x)) ∧ ∃ H', Ha B w0 w' g r f S (endL f S x 2) H' ∧ Chg H H' w w' := by
  obtain ⟨⟨F, G, hl, hr, rfl⟩, hm⟩ := h
  refine (lg_commit w g f x S F hl hx64).mono ?_
  rintro e w' ⟨rfl, F', hl', hc⟩
  exact ⟨rfl, _, (bo_ahead hl hr hm hl' hc).1, (bo_ahead hl hr hm hl' hc).2⟩
theorem bo_abort {w : World} (x : Nat) (h : Bo B w0 w g r f S H) (hx64 : x < 18446744073709551616) :
    Calls Try.prog 19 #[.pointer (some ⟨g, 0, none⟩), .int .u64 (x : Int)] w fun e w' => e = .returned (.int .i64 (endE f S x)) ∧ ∃ H', Ha B w0 w' g r f S (endL f S x 3) H' ∧ Chg H H' w w' := by
  obtain ⟨⟨F, G, hl, hr, rfl⟩, hm⟩ := h
  refine (lg_abort w g f x S F hl hx64).mono ?_
  rintro e w' ⟨rfl, F', hl', hc⟩
  exact ⟨rfl, _, (bo_ahead hl hr hm hl' hc).1, (bo_ahead hl hr hm hl' hc).2⟩
theorem bo_begin {w : World} (h : Bo B w0 w g r f S H) :
    Calls Try.prog 13 #[.pointer (some ⟨g, 0, none⟩)] w fun e w' => e = .returned (begR f S) ∧ ∃ H', Ha B w0 w' g r f S (begL f S) H' ∧ Chg H H' w w' := by
  obtain ⟨⟨F, G, hl, hr, rfl⟩, hm⟩ := h
  refine (lg_begin w g f S F hl).mono ?_
  rintro e w' ⟨rfl, F', hl', hc⟩
  exact ⟨rfl, _, (bo_ahead hl hr hm hl' hc).1, (bo_ahead hl hr hm hl' hc).2⟩
theorem ha_end {w : World} (x s : Nat) (h : Ha B w0 w g r f S (endL f S x s) H) (hx64 : x < 18446744073709551616) :
    Calls Try.prog 18 #[.pointer (some ⟨r, 0, none⟩), .int .u64 (x : Int), .int .i64 (s : Int)] w fun e w' => e = .returned (.int .i64 (endE f S x)) ∧ ∃ H', Bo B w0 w' g r f (endL f S x s) H' ∧ Chg H H' w w' := by
  obtain ⟨⟨F, G, hl, hr, rfl, ha⟩, hm⟩ := h
  refine (rg_end w r f x s S G hr hx64).mono ?_
  rintro e w' ⟨rfl, G', hr', hc⟩
  exact ⟨rfl, _, (ha_meet hl hr ha hm hr' hc).1, (ha_meet hl hr ha hm hr' hc).2⟩
theorem ha_begin {w : World} (h : Ha B w0 w g r f S (begL f S) H) :
    Calls Try.prog 14 #[.pointer (some ⟨r, 0, none⟩)] w fun e w' => e = .returned (begR f S) ∧ ∃ H', Bo B w0 w' g r f (begL f S) H' ∧ Chg H H' w w' := by
  obtain ⟨⟨F, G, hl, hr, rfl, ha⟩, hm⟩ := h
  refine (rg_begin w r f S G hr).mono ?_
  rintro e w' ⟨rfl, G', hr', hc⟩
  exact ⟨rfl, _, (ha_meet hl hr ha hm hr' hc).1, (ha_meet hl hr ha hm hr' hc).2⟩
theorem bo_state {w : World} (x : Nat) (h : Bo B w0 w g r f S H) :
    Calls Try.prog 28 #[.pointer (some ⟨g, 0, none⟩), .int .u64 (x : Int)] w fun e w' => e = .returned (.int .i64 (stt f S x : Int)) ∧ ∃ n, w' = w.drewN n := by
  obtain ⟨⟨F, G, hl, hr, rfl⟩, hm⟩ := h
  exact lg_state w g f x S F hl
theorem bo_rstate {w : World} (x : Nat) (h : Bo B w0 w g r f S H) (hx64 : x < 18446744073709551616) :
    Calls Try.prog 47 #[.pointer (some ⟨r, 0, none⟩), .int .u64 (x : Int)] w fun e w' => e = .returned (.int .i64 (stt f S x : Int)) ∧ ∃ n, w' = w.drewN n := by
  obtain ⟨⟨F, G, hl, hr, rfl⟩, hm⟩ := h
  exact rg_state w r f x S G hr hx64
theorem bo_next {w : World} (h : Bo B w0 w g r f S H) :
    Calls Try.prog 40 #[.pointer (some ⟨g, 0, none⟩)] w fun e w' => e = .returned (.int .u64 ((f + S.length : Nat) : Int)) ∧ ∃ n, w' = w.drewN n := by
  obtain ⟨⟨F, G, hl, hr, rfl⟩, hm⟩ := h
  exact lg_next w g f S F hl
theorem bo_rnext {w : World} (h : Bo B w0 w g r f S H) :
    Calls Try.prog 41 #[.pointer (some ⟨r, 0, none⟩)] w fun e w' => e = .returned (.int .u64 ((f + S.length : Nat) : Int)) ∧ ∃ n, w' = w.drewN n := by
  obtain ⟨⟨F, G, hl, hr, rfl⟩, hm⟩ := h
  exact rg_next w r f S G hr
theorem bo_all {w : World} (h : Bo B w0 w g r f S H) :
    Calls Try.prog 43 #[.pointer (some ⟨g, 0, none⟩)] w fun e w' => ∃ v', e = .returned v' ∧ w'.ownsRow w.heap.size 28 1 v' (runs f S).length (ucells .u64 (runs f S)) ∧ Below w.heap.size w w' := by
  obtain ⟨⟨F, G, hl, hr, rfl⟩, hm⟩ := h
  exact lg_all w g f S F hl
theorem bo_rall {w : World} (h : Bo B w0 w g r f S H) :
    Calls Try.prog 45 #[.pointer (some ⟨r, 0, none⟩)] w fun e w' => ∃ v', e = .returned v' ∧ w'.ownsRow w.heap.size 28 1 v' (runs f S).length (ucells .u64 (runs f S)) ∧ Below w.heap.size w w' := by
  obtain ⟨⟨F, G, hl, hr, rfl⟩, hm⟩ := h
  exact rg_all w r f S G hr
end
end Go.Proofs.Ytbmkhopmhmmibaa
