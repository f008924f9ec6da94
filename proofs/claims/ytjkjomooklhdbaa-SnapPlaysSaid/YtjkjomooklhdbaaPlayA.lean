/-
  lapidarylaw10.play: what stands between the steps of a script: both logs, the snapshots taken of each.
-/
import Derived.Test.YtjkjomooklhdbaaRef10B
import Derived.Test.YtjkjomooklhdbaaSnapH
namespace Go.Proofs.Ytjkjomooklhdbaa
open Go.RowKit
set_option linter.unusedVariables false

/-- A snapshot that was taken of both logs: what both say; where their rows lie. -/
structure Pn where
  own : Nat
  xmax : Nat
  R : List Nat
  A : Option Addr
  c : Nat
  A2 : Option Addr
  c2 : Nat
def Pn.s (q : Pn) : Sn := ⟨q.own, least q.R q.xmax, q.xmax, q.R, q.A, q.c⟩
def Pn.e (q : Pn) : List Value := q.s.e
def Pn.f (q : Pn) : List Value := [.int .u64 (q.own : Int), .int .u64 (q.xmax : Int), .slice q.A2 q.R.length q.c2]
/-- What holds of a snapshot, whatever has become of the log behind it. -/
structure Sinv (S : List Nat) (q : Pn) : Prop where
  le : q.xmax ≤ 1 + S.length
  sorted : q.R.Pairwise (· < ·)
  lt : ∀ x ∈ q.R, x < q.xmax
  over : ∀ x, x < q.xmax → x ≠ q.own → x ∉ q.R → stt 1 S x ≠ 1
theorem sinv_take (S : List Nat) (own : Nat) (A A2 : Option Addr) (c c2 : Nat) : Sinv S ⟨own, 1 + S.length, others (runs 1 S) own, A, c, A2, c2⟩ := by
  refine ⟨Nat.le_refl _, (runs_sorted 1 S).filter _, fun x hx => ?_, fun x h1 h2 h3 h4 => h3 ?_⟩
  · have := (runs_mem 1 S x).1 (List.mem_filter.1 hx).1
    exact (stt_lt (by rw [this]; decide : stt 1 S x ≠ 0)).2
  · exact List.mem_filter.2 ⟨(runs_mem 1 S x).2 h4, by simpa using h2⟩
theorem sinv_begin {S : List Nat} {q : Pn} (h : Sinv S q) : Sinv (S ++ [1]) q :=
  ⟨by have := h.le; simp; omega, h.sorted, h.lt, fun x h1 h2 h3 => by rw [stt_app, if_neg (by have := h.le; omega)]; exact h.over x h1 h2 h3⟩
theorem sinv_end {S : List Nat} {q : Pn} (h : Sinv S q) (x s : Nat) (hs : s ≠ 1) : Sinv (endL 1 S x s) q := by
  unfold endL
  by_cases hx : stt 1 S x = 1
  · rw [if_pos hx]
    have hr := stt_lt (by rw [hx]; decide : stt 1 S x ≠ 0)
    refine ⟨by rw [List.length_set]; exact h.le, h.sorted, h.lt, fun y h1 h2 h3 => ?_⟩
    rw [stt_set hr.1 hr.2]
    split
    · exact hs
    · exact h.over y h1 h2 h3
  · rw [if_neg hx]; exact h
/-- Between the steps. -/
structure Py (w wr : World) (p g r : Nat) (S : List Nat) (H : Nat → Prop) (v1 v2 : Value) (L : List Pn) : Prop where
  box : Bx wr p 65 [.pointer (some ⟨g, 0, none⟩), .pointer (some ⟨r, 0, none⟩), v1, v2]
  bo : Bo w.heap.size w wr g r 1 S H
  rs : wr.ownsRow w.heap.size 76 4 v1 L.length (L.flatMap Pn.e)
  rt : wr.ownsRow w.heap.size 80 3 v2 L.length (L.flatMap Pn.f)
  p0 : w.heap.size ≤ p
  rows : ∀ q ∈ L, wr.ownsRow w.heap.size 22 1 (.slice q.A q.R.length q.c) q.R.length (ucells .u64 q.R) ∧ wr.ownsRow w.heap.size 22 1 (.slice q.A2 q.R.length q.c2) q.R.length (ucells .u64 q.R) ∧
    (∀ k, (Value.slice q.A q.R.length q.c).ownBlock = some k → ¬ H k) ∧ (∀ k, (Value.slice q.A2 q.R.length q.c2).ownBlock = some k → ¬ H k)
  inv : ∀ q ∈ L, Sinv S q
section
variable {w wr w1 : World} {p g r : Nat} {S S' : List Nat} {H H' : Nat → Prop} {v1 v2 : Value} {L : List Pn}
theorem Bo.ty {B : Nat} {w0 w : World} {g r f : Nat} {S : List Nat} {H : Nat → Prop} (h : Bo B w0 w g r f S H) {k : Nat} (hk : H k) : Ty w k 98 ∨ Ty w k 5 ∨ Ty w k 22 ∨ Ty w k 101 ∨ Ty w k 3 := by
  obtain ⟨⟨F, G, hl, hr, rfl⟩, hm⟩ := h
  rcases hk with hk | hk
  · rcases hl.ty hk with h | h | h
    · exact .inl h
    · exact .inr (.inl h)
    · exact .inr (.inr (.inl h))
  · rcases hr.ty hk with h | h
    · exact .inr (.inr (.inr (.inl h)))
    · exact .inr (.inr (.inr (.inr h)))
theorem Bo.not {B : Nat} {w0 w : World} {g r f : Nat} {S : List Nat} {H : Nat → Prop} (h : Bo B w0 w g r f S H) {k : Nat} {e : TypeId} (hT : Ty w k e) (h1 : e ≠ 98) (h2 : e ≠ 5) (h3 : e ≠ 22) (h4 : e ≠ 101) (h5 : e ≠ 3) : ¬ H k := fun hk => by
  rcases h.ty hk with h | h | h | h | h
  · exact hT.ne h h1 rfl
  · exact hT.ne h h2 rfl
  · exact hT.ne h h3 rfl
  · exact hT.ne h h4 rfl
  · exact hT.ne h h5 rfl
theorem Py.pH (h : Py w wr p g r S H v1 v2 L) : ¬ H p := h.bo.not h.box.ty (by decide) (by decide) (by decide) (by decide) (by decide)
theorem Py.below (h : Py w wr p g r S H v1 v2 L) (hb : Below wr.heap.size wr w1) : Py w w1 p g r S H v1 v2 L :=
  ⟨h.box.below hb, h.bo.below hb, own_below h.rs hb, own_below h.rt hb, h.p0, fun q hq => by
    obtain ⟨h1, h2, h3, h4⟩ := h.rows q hq
    exact ⟨own_below h1 hb, own_below h2 hb, h3, h4⟩, h.inv⟩
/-- Both logs have gone ahead. -/
theorem Py.step (h : Py w wr p g r S H v1 v2 L) (hc : Chg H H' wr w1) (hb : Bo w.heap.size w w1 g r 1 S' H') (hi : ∀ q ∈ L, Sinv S' q) : Py w w1 p g r S' H' v1 v2 L := by
  have nT : ∀ {u : Value} {e : TypeId} {n size : Nat} {xs : List Value}, wr.ownsRow w.heap.size e size u n xs → e ≠ 98 → e ≠ 5 → e ≠ 22 → e ≠ 101 → e ≠ 3 → ∀ k, u.ownBlock = some k → ¬ H k := fun ho a1 a2 a3 a4 a5 k e => h.bo.not (own_ty ho e) a1 a2 a3 a4 a5
  have nN : ∀ k, k < wr.heap.size → ¬ H k → ¬ H' k := fun k hk hn hh => (hc.new k hh).elim hn fun hh => by omega
  refine ⟨hc.fr.bx h.box h.pH, hb, hc.fr.own h.rs (nT h.rs (by decide) (by decide) (by decide) (by decide) (by decide)), hc.fr.own h.rt (nT h.rt (by decide) (by decide) (by decide) (by decide) (by decide)), h.p0, fun q hq => ?_, hi⟩
  obtain ⟨h1, h2, h3, h4⟩ := h.rows q hq
  exact ⟨hc.fr.own h1 h3, hc.fr.own h2 h4, fun k e => nN k (h1.lt k e).2 (h3 k e), fun k e => nN k (h2.lt k e).2 (h4 k e)⟩
end
theorem bo_take {B : Nat} {w0 w : World} {g r f own : Nat} {S : List Nat} {H : Nat → Prop} (h : Bo B w0 w g r f S H) :
    Calls Try.prog 40 #[.pointer (some ⟨g, 0, none⟩), .int .u64 (own : Int)] w fun e w' => ∃ v', e = .returned (snv own (least (others (runs f S) own) (f + S.length)) (f + S.length) v') ∧ w'.ownsRow w.heap.size 22 1 v' (others (runs f S) own).length (ucells .u64 (others (runs f S) own)) ∧ Below w.heap.size w w' := by
  obtain ⟨⟨F, G, hl, hr, rfl⟩, hm⟩ := h
  exact take_any w g f own S F hl
theorem bo_rtake {B : Nat} {w0 w : World} {g r f own : Nat} {S : List Nat} {H : Nat → Prop} (h : Bo B w0 w g r f S H) :
    Calls Try.prog 43 #[.pointer (some ⟨r, 0, none⟩), .int .u64 (own : Int)] w fun e w' => ∃ v', e = .returned (rsv own (f + S.length) v') ∧ w'.ownsRow w.heap.size 22 1 v' (others (runs f S) own).length (ucells .u64 (others (runs f S) own)) ∧ Below w.heap.size w w' := by
  obtain ⟨⟨F, G, hl, hr, rfl⟩, hm⟩ := h
  exact rtake_any w r f own S G hr hl.max
theorem info_rs : (Try.prog.info? 80).map (fun i => (i.zero, i.size, i.bytes)) = some (some (.agg #[.int .u64 0, .int .u64 0, .slice none 0 0]), 3, 40) := by kernel_rfl
end Go.Proofs.Ytjkjomooklhdbaa
