/-
  Behind law10.play: the log and the snapshots that were taken of it, whatever happens then; a snapshot stays.
-/
import Derived.Test.YtjkjomooklhdbaaPlayU
namespace Go.Proofs.Ytjkjomooklhdbaa
open Go.RowKit
set_option linter.unusedVariables false

theorem stt_end_other {S : List Nat} {x y s : Nat} (h : stt 1 S y ≠ 1) : stt 1 (endL 1 S x s) y = stt 1 S y := by
  unfold endL
  by_cases hx : stt 1 S x = 1
  · rw [if_pos hx]
    have hr := stt_lt (by rw [hx]; decide : stt 1 S x ≠ 0)
    rw [stt_set hr.1 hr.2, if_neg]
    intro e
    rw [e] at h
    exact h hx
  · rw [if_neg hx]
/-- What a snapshot sees, but of its own, is what it saw. -/
structure Sy (S0 S : List Nat) (q : Pn) : Prop where
  inv : Sinv S q
  same : ∀ x, x ≠ q.own → seesB 1 S q.own q.xmax q.R x = seesB 1 S0 q.own q.xmax q.R x
theorem sy_refl {S : List Nat} {q : Pn} (h : Sinv S q) : Sy S S q := ⟨h, fun _ _ => rfl⟩
theorem sees_same {S T : List Nat} {q : Pn} (h : Sinv S q) (hs : ∀ x, x < q.xmax → stt 1 S x ≠ 1 → stt 1 T x = stt 1 S x) {x : Nat} (hx : x ≠ q.own) : seesB 1 T q.own q.xmax q.R x = seesB 1 S q.own q.xmax q.R x := by
  unfold seesB
  by_cases h1 : x < q.xmax
  · by_cases h2 : x ∈ q.R
    · simp [h2]
    · rw [hs x h1 (h.over x h1 hx h2)]
  · simp [h1]
theorem sy_begin {S0 S : List Nat} {q : Pn} (h : Sy S0 S q) : Sy S0 (S ++ [1]) q :=
  ⟨sinv_begin h.inv, fun x hx => (sees_same h.inv (fun y h1 h2 => by rw [stt_app, if_neg (by have := h.inv.le; omega)]) hx).trans (h.same x hx)⟩
theorem sy_end {S0 S : List Nat} {q : Pn} (h : Sy S0 S q) (x s : Nat) (hs : s ≠ 1) : Sy S0 (endL 1 S x s) q :=
  ⟨sinv_end h.inv x s hs, fun y hy => (sees_same h.inv (fun z h1 h2 => stt_end_other h2) hy).trans (h.same y hy)⟩
/-- The log, and the snapshots that are kept. -/
structure Kp (w wr : World) (p g r : Nat) (S : List Nat) (F : Nat → Prop) (v1 v2 : Value) (L : List Pn) : Prop where
  box : Bx wr p 65 [.pointer (some ⟨g, 0, none⟩), .pointer (some ⟨r, 0, none⟩), v1, v2]
  log : LG wr g 1 S F
  mine : Mine w.heap.size w wr F
  rs : wr.ownsRow w.heap.size 76 4 v1 L.length (L.flatMap Pn.e)
  p0 : w.heap.size ≤ p
  rows : ∀ q ∈ L, wr.ownsRow w.heap.size 22 1 (.slice q.A q.R.length q.c) q.R.length (ucells .u64 q.R) ∧ (∀ k, (Value.slice q.A q.R.length q.c).ownBlock = some k → ¬ F k)
section
variable {w wr w1 : World} {p g r : Nat} {S S' : List Nat} {F F' : Nat → Prop} {v1 v2 : Value} {L : List Pn}
theorem Py.kp {H : Nat → Prop} (h : Py w wr p g r S H v1 v2 L) : ∃ F, Kp w wr p g r S F v1 v2 L := by
  obtain ⟨F, G, hl, hr, e⟩ := h.bo.two
  subst e
  exact ⟨F, h.box, hl, ⟨fun k hk => h.bo.mine.above k (.inl hk), h.bo.mine.below, h.bo.mine.size⟩, h.rs, h.p0, fun q hq => by
    obtain ⟨h1, h2, h3, h4⟩ := h.rows q hq
    exact ⟨h1, fun k hk hF => h3 k hk (.inl hF)⟩⟩
theorem Kp.pF (h : Kp w wr p g r S F v1 v2 L) : ¬ F p := h.log.not h.box.ty (by decide) (by decide) (by decide)
theorem Kp.below (h : Kp w wr p g r S F v1 v2 L) (hb : Below wr.heap.size wr w1) : Kp w w1 p g r S F v1 v2 L :=
  ⟨h.box.below hb, h.log.below hb, h.mine.next hb, own_below h.rs hb, h.p0, fun q hq => ⟨own_below (h.rows q hq).1 hb, (h.rows q hq).2⟩⟩
theorem Kp.fr {T : Nat → Prop} (h : Kp w wr p g r S F v1 v2 L) (hf : Fr T wr w1) (h0 : ∀ k, T k → w.heap.size ≤ k) (hT : ∀ k, T k → ¬ Ty wr k 65 ∧ ¬ Ty wr k 76 ∧ ¬ Ty wr k 22 ∧ ¬ F k) : Kp w w1 p g r S F v1 v2 L :=
  ⟨hf.bx h.box fun e => (hT p e).1 h.box.ty, h.log.fr hf fun k hk e => (hT k e).2.2.2 hk, ⟨h.mine.above, h.mine.below.trans (hf.below h0 h.mine.size), Nat.le_trans h.mine.size hf.size⟩,
    hf.own h.rs fun k e e' => (hT k e').2.1 (own_ty h.rs e), h.p0, fun q hq => ⟨hf.own (h.rows q hq).1 fun k e e' => (hT k e').2.2.1 (own_ty (h.rows q hq).1 e), (h.rows q hq).2⟩⟩
/-- A row of another type has grown. -/
theorem Kp.grown {e : TypeId} {sz n : Nat} {v : Value} {xs : List Value} (h : Kp w wr p g r S F v1 v2 L) (ho : wr.ownsRow w.heap.size e sz v n xs) (hg : wr.grownBy w1 v.ownBlock) (h1 : e ≠ 65) (h2 : e ≠ 76) (h3 : e ≠ 22) (h4 : e ≠ 98) (h5 : e ≠ 5) : Kp w w1 p g r S F v1 v2 L :=
  h.fr (Fr.of_own (S := fun k => v.ownBlock = some k) hg fun k e => e) (fun k e => (ho.lt k e).1) fun k hk => ⟨fun t => (own_ty ho hk).ne t h1 rfl, fun t => (own_ty ho hk).ne t h2 rfl, fun t => (own_ty ho hk).ne t h3 rfl, h.log.not (own_ty ho hk) h4 h5 h3⟩
/-- The log has gone ahead. -/
theorem Kp.step (h : Kp w wr p g r S F v1 v2 L) (h1 : LG w1 g 1 S' F') (hc : Chg F F' wr w1) : Kp w w1 p g r S' F' v1 v2 L :=
  ⟨hc.fr.bx h.box h.pF, h1, h.mine.chg hc, hc.fr.own h.rs fun k e hk => h.log.not (own_ty h.rs e) (by decide) (by decide) (by decide) hk, h.p0, fun q hq => ⟨hc.fr.own (h.rows q hq).1 fun k e => (h.rows q hq).2 k e, fun k e hk => (hc.new k hk).elim ((h.rows q hq).2 k e) fun hh => by have := ((h.rows q hq).1.lt k e).2; omega⟩⟩
/-- The k-th snapshot. -/
theorem pn_at {w : World} {A : Option Addr} {l : List Pn} (h : Rd w 4 A l.length (l.flatMap Pn.e)) {k : Nat} (hk : k < l.length) :
    ∃ ad : Addr, A = some ad ∧ w.cell? (ad.add (k * 4)) = some (.int .u64 (l[k].own : Int)) ∧ w.cell? ⟨(ad.add (k * 4)).block, (ad.add (k * 4)).off + 1, none⟩ = some (.int .u64 (least l[k].R l[k].xmax : Nat)) ∧
      w.cell? ⟨(ad.add (k * 4)).block, (ad.add (k * 4)).off + 2, none⟩ = some (.int .u64 (l[k].xmax : Int)) ∧ w.cell? ⟨(ad.add (k * 4)).block, (ad.add (k * 4)).off + 3, none⟩ = some (.slice l[k].A l[k].R.length l[k].c) := by
  obtain ⟨ad, e, hc⟩ := flat_elem Pn.e 4 (fun _ => rfl) h hk (by decide)
  exact ⟨ad, e, hc 0 _ rfl, hc 1 _ rfl, hc 2 _ rfl, hc 3 _ rfl⟩
end
end Go.Proofs.Ytjkjomooklhdbaa
