/-
  BookPrunes: the map of what was seen; the horizon; what stands within a pruning.
-/
import Derived.Test.YtbmkhopmhmmibaaPruneM
import Derived.Maps.RangeWalk
import Derived.Test.YtbmkhopmhmmibaaOpen
namespace Go.Proofs.Ytbmkhopmhmmibaa
open Go.RowKit Go.Maps
set_option linter.unusedVariables false

structure U64 where
  n : Nat
  lt : n < 18446744073709551616
theorem u64_wf {n : Nat} (h : n < 18446744073709551616) : (Lit.int .u64 (n : Int)).wf = true := by simp [Lit.wf, IntKind.min, IntKind.max, IntKind.signed, IntKind.bits]; omega
set_option maxRecDepth 100000 in
def EN : El 28 U64 where
  L a := .int .u64 (a.n : Int)
  V a := .int .u64 (a.n : Int)
  zl := .int .u64 0
  zv := .int .u64 0
  zero w := Try.zeroValue28 w
  pz := plainElem_int Try.underlying28 (by decide)
  pv a := plainElem_int Try.underlying28 (u64_wf a.lt)
  iz v ps h := by
    obtain ⟨a, rfl, e, _⟩ := plainElem_int_inv Try.underlying28 h
    injection e with e _
    injection e with e
    injection e with _ e
    rw [e]
  iv a v ps h := by
    obtain ⟨a, rfl, e, _⟩ := plainElem_int_inv Try.underlying28 h
    injection e with e _
    injection e with e
    injection e with _ e
    rw [e]
/-- A store into the map of numbers, as a run. -/
theorem mu_run {w : World} {b c n : Nat} {f : Nat → Option U64} (h : MU EN w b f c n) (hn : n < 1000) {k : Nat} (hk : k < 18446744073709551616) (u : U64) :
    ∃ w', (Instr.mapUpdate 92 (.map (some b)) (.int .u64 (k : Int)) (.int .u64 (u.n : Int))).run Try.prog w = .ok () w' ∧ MU EN w' b (upd f k (some u)) (if (f k).isSome then c else c + 1) (n + 1) ∧ Fr (fun i => i = b) w w' := by
  obtain ⟨D, ho, h1, h2, rfl⟩ := h
  obtain ⟨w', hr, ho', hg'⟩ := ho.update lawU Try.underlying92 (by unfold maxLen; omega) (ku_of hk) (EN.pv u)
  have hp := mu_put_D (E := EN) (ho.tidy lawU) h1 h2 k u
  exact ⟨w', hr, ⟨_, ho', hp.1, hp.2.1, hp.2.2⟩, ⟨hg'.os, hg'.tape, hg'.output, hg'.size, fun i hi hne => hg'.block i hi (fun ee => hne (by injection ee))⟩⟩
theorem hor_any (w : World) (g f N b : Nat) (S : List Nat) (F : Nat → Prop) (L : List Sn) (A : Option Addr) (c : Nat) (hl : LG w g f S F) (hN : N = L.length) (ho : w.ownsRow b 50 4 (.slice A N c) L.length (L.flatMap Sn.e)) :
    Calls Try.prog 30 #[.pointer (some ⟨g, 0, none⟩), .slice A N c] w fun e w' => e = .returned (.int .u64 ((hzn (f + S.length) L : Nat) : Int)) ∧ Below w.heap.size w w' := by
  obtain ⟨A', c', hv, hc, hm, hr⟩ := own_form ho
  injection hv with e1 e2 e3
  subst e1 e3 hN
  cases L with
  | nil => exact hor_nil w g f S F A c hl
  | cons s r => exact hor_cons w _ s r A c hr hc (by unfold maxLen at hm; omega)
theorem ranges_below {w w' : World} {b r n : Nat} {D : DataW Unit} {left : Lit → Bool} {cnt : Nat} (h : w.ranges Try.prog 28 (plainElem Try.prog 28) b r n D left cnt) (hb : Below w.heap.size w w') : w'.ranges Try.prog 28 (plainElem Try.prog 28) b r n D left cnt := by
  obtain ⟨es, clock, since, seen, c0, h1, h2, h3, h4, h5, h6⟩ := h
  exact ⟨es, clock, since, seen, c0, (hb.block b (Array.getElem?_eq_some_iff.1 h1).1).trans h1, h2, h3, h4, (hb.block r (Array.getElem?_eq_some_iff.1 h5).1).trans h5, h6⟩
section
variable {w0 w w' : World} {g k bm last cm nm m : Nat} {S : List Nat} {T : List Tb} {I : List (Nat × Ix)} {fl : Nat → Option Sn} {vo : Value}
theorem lw_hor (h : Lw w0 w g k bm S last T I fl cm nm vo m) (N b c : Nat) (A : Option Addr) (L : List Sn) (hN : N = L.length) (ho : w.ownsRow b 50 4 (.slice A N c) L.length (L.flatMap Sn.e)) :
    Calls Try.prog 30 #[.pointer (some ⟨g, 0, none⟩), .slice A N c] w fun e w' => e = .returned (.int .u64 ((hzn (1 + S.length) L : Nat) : Int)) ∧ Below w.heap.size w w' := by
  obtain ⟨Q, ⟨F, vT, vI, hl, _⟩, _⟩ := h.wd
  exact hor_any w g 1 N b S F L A c hl hN ho
/-- What turns another map or a row of another type leaves all. -/
theorem Lw.other {X : Nat → Prop} (h : Lw w0 w g k bm S last T I fl cm nm vo m) (hf : Fr X w w') (hB : ∀ j, X j → w0.heap.size ≤ j) (hX : ∀ j, X j → j ≠ bm ∧ ∀ e, Ty w j e → e = 50) : Lw w0 w' g k bm S last T I fl cm nm vo m := by
  obtain ⟨Q, ⟨F, vT, vI, hl, hm, hb, hq⟩, h2, h3⟩ := h.wd
  have hn : ∀ {j : Nat} {e : TypeId}, Ty w j e → e ≠ 50 → ¬ X j := fun ht he hx => he ((hX _ hx).2 _ ht)
  refine ⟨⟨Q, ⟨F, vT, vI, hl.fr hf (fun j hj hx => ?_), ⟨hm.above, hm.below.trans (hf.below hB hm.size), Nat.le_trans hm.size hf.size⟩, hb.fr hf (fun j e hj hx => ?_), fun q h => ⟨hf.own (hq q h).1 fun j hj => hn (own_ty (hq q h).1 hj) (by decide), (hq q h).2⟩⟩, h2, h3⟩, h.mp.fr hf (fun hx => (hX _ hx).1 rfl), h.bmB, h.tl, h.il, h.cl, h.ids⟩
  · rcases hl.ty hj with ht | ht | ht
    · exact hn ht (by decide) hx
    · exact hn ht (by decide) hx
    · exact hn ht (by decide) hx
  · have := (hX _ hx).2 _ hj
    subst this
    decide
end
theorem tid_le {w0 w : World} {g k bm last cm nm m : Nat} {S : List Nat} {T : List Tb} {I : List (Nat × Ix)} {fl : Nat → Option Sn} {vo : Value} (h : Lw w0 w g k bm S last T I fl cm nm vo m) (s : Sn) (n : ByteArray) : tidV S s n T ≤ last := by
  unfold tidV
  cases hf : findTb S s.own s.xmax s.R n T with
  | none => exact Nat.zero_le _
  | some t => exact h.ids t (findTb_mem hf)
theorem ixs_le {w0 w : World} {g k bm last cm nm m : Nat} {S : List Nat} {T : List Tb} {I : List (Nat × Ix)} {fl : Nat → Option Sn} {vo : Value} (h : Lw w0 w g k bm S last T I fl cm nm vo m) (p : Nat × Ix → Bool) : (I.filter p).length ≤ 16 := Nat.le_trans (List.length_filter_le _ _) h.il
/-- The live ones among the first j. -/
def lvs (fl : Nat → Option Sn) (j : Nat) : List Sn := (List.range' 1 j).filterMap fl
theorem lvs_succ (fl : Nat → Option Sn) (j : Nat) : lvs fl (j + 1) = lvs fl j ++ (fl (j + 1)).toList := by
  unfold lvs
  rw [List.range'_1_concat, List.filterMap_append, Nat.add_comm 1 j]
  congr 1
theorem lvs_len (fl : Nat → Option Sn) (j : Nat) : (lvs fl j).length ≤ j := by
  unfold lvs
  exact Nat.le_trans (List.length_filterMap_le _ _) (by simp)
theorem lvs_mem {fl : Nat → Option Sn} {j y : Nat} {s : Sn} (h : fl y = some s) (h1 : 1 ≤ y) (h2 : y ≤ j) : s ∈ lvs fl j := by
  unfold lvs
  rw [List.mem_filterMap]
  exact ⟨y, by rw [List.mem_range'_1]; omega, h⟩
/-- What was seen by the first j. -/
def wasF (fl : Nat → Option Sn) (v : Sn → Nat) (j y : Nat) : Option Nat := if 1 ≤ y ∧ y ≤ j then (fl y).map v else none
/-- The map has just that. -/
structure Was (w : World) (b : Nat) (fl : Nat → Option Sn) (v : Sn → Nat) (j c n : Nat) : Prop where
  ex : ∃ f, MU EN w b f c n ∧ ∀ y, (f y).map U64.n = wasF fl v j y
theorem was_zero (w : World) (fl : Nat → Option Sn) (v : Sn → Nat) : Was (w.alloc (.map #[] 0)) w.heap.size fl v 0 0 0 :=
  ⟨⟨_, mu_made EN w, fun y => by unfold wasF; rw [if_neg (by omega)]; rfl⟩⟩
theorem Was.skip {w : World} {b j c n : Nat} {fl : Nat → Option Sn} {v : Sn → Nat} (h : Was w b fl v j c n) (hf : fl (j + 1) = none) : Was w b fl v (j + 1) c n := by
  obtain ⟨f, h1, h2⟩ := h.ex
  refine ⟨⟨f, h1, fun y => ?_⟩⟩
  rw [h2 y]
  unfold wasF
  by_cases hy : y = j + 1
  · subst hy; rw [if_neg (by omega), if_pos ⟨by omega, Nat.le_refl _⟩, hf]; rfl
  · by_cases h3 : 1 ≤ y ∧ y ≤ j
    · rw [if_pos h3, if_pos (by omega)]
    · rw [if_neg h3, if_neg (by omega)]
theorem Was.below {w w' : World} {b j c n : Nat} {fl : Nat → Option Sn} {v : Sn → Nat} (h : Was w b fl v j c n) (hb : Below w.heap.size w w') : Was w' b fl v j c n := by
  obtain ⟨f, h1, h2⟩ := h.ex
  exact ⟨⟨f, h1.below hb, h2⟩⟩
/-- One more is kept. -/
theorem Was.put {w : World} {b j c n : Nat} {fl : Nat → Option Sn} {v : Sn → Nat} {s : Sn} (h : Was w b fl v j c n) (hn : n < 1000) (hj : j < 1000) (hf : fl (j + 1) = some s) (hv : v s < 18446744073709551616) :
    ∃ w', (Instr.mapUpdate 92 (.map (some b)) (.int .u64 ((j + 1 : Nat) : Int)) (.int .u64 (v s : Int))).run Try.prog w = .ok () w' ∧ (∃ c', Was w' b fl v (j + 1) c' (n + 1)) ∧ Fr (fun i => i = b) w w' := by
  obtain ⟨f, h1, h2⟩ := h.ex
  obtain ⟨w', hr, hm, hfr⟩ := mu_run h1 hn (k := j + 1) (by omega) ⟨v s, hv⟩
  refine ⟨w', hr, ⟨_, ⟨⟨_, hm, fun y => ?_⟩⟩⟩, hfr⟩
  unfold upd
  by_cases hy : y = j + 1
  · subst hy
    rw [if_pos rfl]
    unfold wasF
    rw [if_pos ⟨by omega, Nat.le_refl _⟩, hf]
    rfl
  · rw [if_neg hy, h2 y]
    unfold wasF
    by_cases h3 : 1 ≤ y ∧ y ≤ j
    · rw [if_pos h3, if_pos (by omega)]
    · rw [if_neg h3, if_neg (by omega)]
theorem Was.fr {X : Nat → Prop} {w w' : World} {b j c n : Nat} {fl : Nat → Option Sn} {v : Sn → Nat} (h : Was w b fl v j c n) (hf : Fr X w w') (hX : ∀ i, X i → ∃ e, Ty w i e) : Was w' b fl v j c n := by
  obtain ⟨f, h1, h2⟩ := h.ex
  exact ⟨⟨f, h1.fr hf fun hx => by obtain ⟨e, ht⟩ := hX _ hx; exact h1.not_ty ht, h2⟩⟩
theorem Was.frt {B : Nat} {l : List TypeId} {w w' : World} {b j c n : Nat} {fl : Nat → Option Sn} {v : Sn → Nat} (h : Was w b fl v j c n) (hf : FrT l B w w') : Was w' b fl v j c n := h.fr hf fun i ⟨_, e, _, ht⟩ => ⟨e, ht⟩
theorem Was.lt {w : World} {b j c n : Nat} {fl : Nat → Option Sn} {v : Sn → Nat} (h : Was w b fl v j c n) : b < w.heap.size := by
  obtain ⟨f, h1, h2⟩ := h.ex
  exact h1.lt
/-- Another map turns. -/
theorem Lw.map' {w0 w w' : World} {g k bm last cm nm m b : Nat} {S : List Nat} {T : List Tb} {I : List (Nat × Ix)} {fl : Nat → Option Sn} {vo : Value} (h : Lw w0 w g k bm S last T I fl cm nm vo m) (hf : Fr (fun i => i = b) w w') (hb : ∀ e, ¬ Ty w b e) (hne : bm ≠ b) (hB : w0.heap.size ≤ b) : Lw w0 w' g k bm S last T I fl cm nm vo m := by
  obtain ⟨Q, hw, h2, h3⟩ := h.wd
  exact ⟨⟨Q, hw.map hf hb hB, h2, h3⟩, h.mp.fr hf hne, h.bmB, h.tl, h.il, h.cl, h.ids⟩
theorem Was.not_ty {w : World} {b j c n : Nat} {fl : Nat → Option Sn} {v : Sn → Nat} (h : Was w b fl v j c n) (e : TypeId) : ¬ Ty w b e := by
  obtain ⟨f, h1, h2⟩ := h.ex
  exact h1.not_ty
/-- What comes up in the range. -/
theorem Was.at {w : World} {b j c n : Nat} {fl : Nat → Option Sn} {v : Sn → Nat} (h : Was w b fl v j c n) : ∃ D : DataW Unit, w.ownsMap Try.prog 28 (plainElem Try.prog 28) b n D ∧
    ∀ x cc : Int, (Lit.int .u64 x).wf = true → Maps.has D (.int .u64 x) = true → (∀ z, D.atKey (.int .u64 x) z = .lit (.int .u64 cc)) → ∃ (y : Nat) (t : Sn), x = (y : Int) ∧ 1 ≤ y ∧ y ≤ j ∧ fl y = some t ∧ cc = (v t : Int) := by
  obtain ⟨f, ⟨D, ho, h1, h2, _⟩, h3⟩ := h.ex
  refine ⟨D, ho, fun x cc hw hh ha => ?_⟩
  obtain ⟨y, rfl, hy⟩ := nat_u64 hw
  have h4 := h1 y
  rw [show Maps.has D (ku y) = true from hh] at h4
  obtain ⟨u, hu⟩ := Option.isSome_iff_exists.1 h4.symm
  have h5 := h2 y u hu (.lit (.int .u64 0))
  have h6 := ha (.lit (.int .u64 0))
  have h7 : cc = (u.n : Int) := by
    rw [show (D.atKey (.int .u64 (y : Int)) (.lit (.int .u64 0))) = D.atKey (ku y) (.lit (.int .u64 0)) from rfl, h5] at h6
    injection h6 with h6
    injection h6 with _ h6
    exact h6.symm
  have h8 := h3 y
  rw [hu] at h8
  unfold wasF at h8
  by_cases h9 : 1 ≤ y ∧ y ≤ j
  · rw [if_pos h9] at h8
    cases hf : fl y with
    | none => rw [hf] at h8; cases h8
    | some t =>
      rw [hf] at h8
      injection h8 with h8
      exact ⟨y, t, rfl, h9.1, h9.2, hf, by rw [h7, h8]⟩
  · rw [if_neg h9] at h8; cases h8
end Go.Proofs.Ytbmkhopmhmmibaa
