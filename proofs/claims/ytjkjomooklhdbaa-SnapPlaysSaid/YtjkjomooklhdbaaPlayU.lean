/-
  A snapshot of each log is put behind those that are kept: what stands while that is done.
-/
import Derived.Test.YtjkjomooklhdbaaPlayT
namespace Go.Proofs.Ytjkjomooklhdbaa
open Go.RowKit
set_option linter.unusedVariables false

section
variable {B B' n n' sz sz' b : Nat} {e e' T : TypeId} {v u : Value} {xs ys l : List Value} {w V V' : World} {p g r x lm nx : Nat} {S : List Nat} {H : Nat → Prop} {v1 v2 v1' v2' : Value} {L : List Pn} {A4 A5 : Option Addr} {k4 k5 : Nat} {Q : List Nat}
theorem Bo.fr' {B : Nat} {w0 w w' : World} {g r f : Nat} {S : List Nat} {H T : Nat → Prop} (h : Bo B w0 w g r f S H) (hf : Fr T w w') (hB : ∀ k, T k → B ≤ k) (hn : ∀ k, H k → ¬ T k) : Bo B w0 w' g r f S H := by
  obtain ⟨⟨F, G, hl, hr, rfl⟩, hm⟩ := h
  exact ⟨⟨F, G, hl.fr hf fun k hk => hn k (.inl hk), hr.fr hf fun k hk => hn k (.inr hk), rfl⟩, ⟨hm.1, hm.below.trans (hf.below hB hm.size), Nat.le_trans hm.size hf.size⟩⟩
theorem bx_news {w : World} {b : Nat} {T : TypeId} {l : List Value} (h : Bx w b T l) : ∀ (j : Nat) (u : Value), l[j]? = some u → w.cell? ((⟨b, 0, none⟩ : Addr).add j) = some u := fun j u hu => by
  rw [← hu, ← h.cell j]
  unfold Addr.add
  split
  · rename_i h; rw [h]
  · simp
theorem one4 (x lm nx : Nat) (v : Value) (hv : v.oneCell' = true) : ∀ u ∈ [Value.int .u64 (x : Int), .int .u64 (lm : Int), .int .u64 (nx : Int), v], u.oneCell' = true := by
  intro u hu
  simp only [List.mem_cons, List.not_mem_nil, or_false] at hu
  rcases hu with rfl | rfl | rfl | rfl <;> first | rfl | exact hv
theorem one3 (x nx : Nat) (v : Value) (hv : v.oneCell' = true) : ∀ u ∈ [Value.int .u64 (x : Int), .int .u64 (nx : Int), v], u.oneCell' = true := by
  intro u hu
  simp only [List.mem_cons, List.not_mem_nil, or_false] at hu
  rcases hu with rfl | rfl | rfl <;> first | rfl | exact hv
/-- What an append to a row of one type leaves: rows of others, boxes of others. -/
theorem app_own (h : V.ownsRow B e sz v n xs) (hg : V.grownBy V' v.ownBlock) (h' : V.ownsRow B' e' sz' u n' ys) (hne : e' ≠ e) : V'.ownsRow B' e' sz' u n' ys :=
  (Fr.of_own (S := fun k => v.ownBlock = some k) hg fun k e => e).own h' fun k hk hT => (own_ty h' hk).ne (own_ty h hT) hne rfl
theorem app_bx (h : V.ownsRow B e sz v n xs) (hg : V.grownBy V' v.ownBlock) (hb : Bx V b T l) (hne : T ≠ e) : Bx V' b T l :=
  (Fr.of_own (S := fun k => v.ownBlock = some k) hg fun k e => e).bx hb fun hT => hb.ty.ne (own_ty h hT) hne rfl
theorem app_bx' (hg : V.grownBy V' v.ownBlock) (hb : Bx V b T l) (hne : ∀ k, v.ownBlock = some k → k ≠ b) : Bx V' b T l :=
  (Fr.of_own (S := fun k => v.ownBlock = some k) hg fun k e => e).bx hb fun hT => hne b hT rfl
/-- All that stands but both rows of snapshots. -/
structure Pz (w wr : World) (p g r : Nat) (S : List Nat) (H : Nat → Prop) (v1 v2 : Value) (L : List Pn) : Prop where
  box : Bx wr p 65 [.pointer (some ⟨g, 0, none⟩), .pointer (some ⟨r, 0, none⟩), v1, v2]
  bo : Bo w.heap.size w wr g r 1 S H
  p0 : w.heap.size ≤ p
  rows : ∀ q ∈ L, wr.ownsRow w.heap.size 22 1 (.slice q.A q.R.length q.c) q.R.length (ucells .u64 q.R) ∧ wr.ownsRow w.heap.size 22 1 (.slice q.A2 q.R.length q.c2) q.R.length (ucells .u64 q.R) ∧
    (∀ k, (Value.slice q.A q.R.length q.c).ownBlock = some k → ¬ H k) ∧ (∀ k, (Value.slice q.A2 q.R.length q.c2).ownBlock = some k → ¬ H k)
  inv : ∀ q ∈ L, Sinv S q
theorem Py.z (h : Py w V p g r S H v1 v2 L) : Pz w V p g r S H v1 v2 L := ⟨h.box, h.bo, h.p0, h.rows, h.inv⟩
theorem Pz.below (h : Pz w V p g r S H v1 v2 L) (hb : Below V.heap.size V V') : Pz w V' p g r S H v1 v2 L :=
  ⟨h.box.below hb, h.bo.below hb, h.p0, fun q hq => by
    obtain ⟨h1, h2, h3, h4⟩ := h.rows q hq
    exact ⟨own_below h1 hb, own_below h2 hb, h3, h4⟩, h.inv⟩
theorem Pz.app (z : Pz w V p g r S H v1 v2 L) (h : V.ownsRow w.heap.size e sz v n xs) (hg : V.grownBy V' v.ownBlock) (h0 : 65 ≠ e) (h1 : e ≠ 98) (h2 : e ≠ 5) (h3 : e ≠ 22) (h4 : e ≠ 101) (h5 : e ≠ 3) : Pz w V' p g r S H v1 v2 L := by
  have hf := Fr.of_own (S := fun k => v.ownBlock = some k) hg fun k e => e
  refine ⟨app_bx h hg z.box h0, z.bo.fr' hf (fun k hk => (h.lt k hk).1) (fun k hk hT => z.bo.not (own_ty h hT) h1 h2 h3 h4 h5 hk), z.p0, fun q hq => ?_, z.inv⟩
  obtain ⟨g1, g2, g3, g4⟩ := z.rows q hq
  exact ⟨app_own h hg g1 (Ne.symm h3), app_own h hg g2 (Ne.symm h3), g3, g4⟩
theorem Pz.pH (h : Pz w V p g r S H v1 v2 L) : ¬ H p := h.bo.not h.box.ty (by decide) (by decide) (by decide) (by decide) (by decide)
theorem Pz.more (z : Pz w V p g r S H v1 v2 L) (q : Pn) (rs' : V.ownsRow w.heap.size 76 4 v1' (L.length + 1) (L.flatMap Pn.e ++ q.e)) (rt' : V.ownsRow w.heap.size 80 3 v2' (L.length + 1) (L.flatMap Pn.f ++ q.f))
    (o4 : V.ownsRow w.heap.size 22 1 (.slice q.A q.R.length q.c) q.R.length (ucells .u64 q.R)) (o5 : V.ownsRow w.heap.size 22 1 (.slice q.A2 q.R.length q.c2) q.R.length (ucells .u64 q.R))
    (hn4 : ∀ k, (Value.slice q.A q.R.length q.c).ownBlock = some k → ¬ H k) (hn5 : ∀ k, (Value.slice q.A2 q.R.length q.c2).ownBlock = some k → ¬ H k) (hi : Sinv S q) :
    Py w ((V.setCell ⟨p, 2, none⟩ v1').setCell ⟨p, 3, none⟩ v2') p g r S H v1' v2' (L ++ [q]) := by
  have hf : Fr (fun k => k = p) V ((V.setCell ⟨p, 2, none⟩ v1').setCell ⟨p, 3, none⟩ v2') := ((Fr.refl (fun k => k = p) V).set (b := p) (.inl rfl) 2 v1').set (b := p) (.inl rfl) 3 v2'
  have own : ∀ {B n sz : Nat} {e : TypeId} {v : Value} {xs : List Value}, V.ownsRow B e sz v n xs → e ≠ 65 → ((V.setCell ⟨p, 2, none⟩ v1').setCell ⟨p, 3, none⟩ v2').ownsRow B e sz v n xs := fun ho hne =>
    hf.own ho fun k hk hT => (own_ty ho hk).ne (hT ▸ z.box.ty) hne rfl
  refine ⟨(z.box.set 2 v1').set 3 v2', z.bo.fr' hf (fun k hk => hk ▸ z.p0) (fun k hk hT => z.pH (hT ▸ hk)), ?_, ?_, z.p0, fun q' hq => ?_, fun q' hq => ?_⟩
  · rw [List.length_append, List.length_singleton, List.flatMap_append, List.flatMap_cons, List.flatMap_nil, List.append_nil]
    exact own rs' (by decide)
  · rw [List.length_append, List.length_singleton, List.flatMap_append, List.flatMap_cons, List.flatMap_nil, List.append_nil]
    exact own rt' (by decide)
  · rcases List.mem_append.1 hq with hq | hq
    · obtain ⟨g1, g2, g3, g4⟩ := z.rows q' hq
      exact ⟨own g1 (by decide), own g2 (by decide), g3, g4⟩
    · rw [List.mem_singleton] at hq
      subst hq
      exact ⟨own o4 (by decide), own o5 (by decide), hn4, hn5⟩
  · rcases List.mem_append.1 hq with hq | hq
    · exact z.inv q' hq
    · rw [List.mem_singleton] at hq
      subst hq
      exact hi
end
end Go.Proofs.Ytjkjomooklhdbaa
