/-
  SnapDead, plain: what is dead below the horizon of those that run is seen by none of them, whatever happens behind it; the rows that hold them.
-/
import Derived.Test.YtjkjomooklhdbaaSnapK
import Derived.Test.YtjkjomooklhdbaaSnapG
namespace Go.Proofs.Ytjkjomooklhdbaa
open Go.RowKit
set_option linter.unusedVariables false

/-- What was over stays so. -/
def Kept (S T : List Nat) : Prop := ∀ x, (stt 1 S x = 2 ∨ stt 1 S x = 3) → stt 1 T x = stt 1 S x
theorem kept_refl (S : List Nat) : Kept S S := fun _ _ => rfl
theorem kept_begin {S T : List Nat} (h : Kept S T) : Kept S (T ++ [1]) := fun x hx => by
  have h1 := h x hx
  rw [stt_app, if_neg]
  · exact h1
  · intro e
    have h2 : stt 1 T x ≠ 0 := by rw [h1]; omega
    have := stt_lt h2
    omega
theorem kept_end {S T : List Nat} (h : Kept S T) (x s : Nat) : Kept S (endL 1 T x s) := fun y hy => by
  have h1 := h y hy
  rw [stt_end_other (by rw [h1]; omega)]
  exact h1
/-- Below the horizon h everything that was committed is over for q. -/
def Good (S : List Nat) (h : Nat) (q : Pn) : Prop := ∀ b, b < h → stt 1 S b = 2 → b < q.xmax ∧ b ∉ q.R
theorem least_le {R : List Nat} {n : Nat} (hs : R.Pairwise (· < ·)) (hn : ∀ x ∈ R, x < n) {b : Nat} (hb : b < least R n) : b < n ∧ b ∉ R := by
  unfold least at hb
  cases R with
  | nil => exact ⟨hb, by simp⟩
  | cons a r =>
    have hb : b < a := hb
    have ha := hn a (List.mem_cons_self ..)
    rw [List.pairwise_cons] at hs
    refine ⟨by omega, fun hm => ?_⟩
    rcases List.mem_cons.1 hm with e | e
    · omega
    · have := hs.1 b e; omega
theorem good_old {S : List Nat} {live : List Pn} {q : Pn} (hq : q ∈ live) (hi : Sinv S q) : Good S (hzn (1 + S.length) (live.map Pn.s)) q := fun b hb _ =>
  least_le hi.sorted hi.lt ((Go.Proofs.Ytjkjomooklhdbaa.snapRests.hzn_iff.1 hb).1 q.s (List.mem_map.2 ⟨q, hq, rfl⟩))
theorem good_new {S T : List Nat} {h : Nat} (hk : Kept S T) (A A2 : Option Addr) (c c2 : Nat) : Good S h ⟨1 + T.length, 1 + (T ++ [1]).length, others (runs 1 (T ++ [1])) (1 + T.length), A, c, A2, c2⟩ := fun b _ hb => by
  have h1 := kept_begin hk b (.inl hb)
  have h2 : stt 1 (T ++ [1]) b ≠ 0 := by rw [h1, hb]; decide
  refine ⟨(stt_lt h2).2, fun hm => ?_⟩
  have := (runs_mem 1 (T ++ [1]) b).1 (List.mem_filter.1 hm).1
  rw [h1, hb] at this
  cases this
theorem dead_unseen {S T : List Nat} {h a b : Nat} {q : Pn} (hk : Kept S T) (hg : Good S h q) (hd : deadB 1 S a b h = true) (ha : a ≠ q.own) (hb : b ≠ q.own) : visB 1 T q.own q.xmax q.R a b = false := by
  unfold deadB at hd
  simp only [Bool.or_eq_true, Bool.and_eq_true, decide_eq_true_eq] at hd
  unfold visB
  rcases hd with hd | ⟨h1, h2⟩
  · have : seesB 1 T q.own q.xmax q.R a = false := by
      unfold seesB
      rw [hk a (.inr hd), hd]
      simp [ha]
    rw [this]; rfl
  · have hs : seesB 1 T q.own q.xmax q.R b = true := by
      obtain ⟨g1, g2⟩ := hg b h1 h2
      unfold seesB
      rw [hk b (.inl h2), h2]
      simp [g1, g2]
    have hb0 : b ≠ 0 := fun e => by
      have := (stt_lt (show stt 1 S b ≠ 0 by rw [h2]; decide)).1
      omega
    rw [hs]
    simp [hb0]
/-- The snapshots of those that run, beside those that were kept. -/
structure Dv (w w2 wr : World) (p g r : Nat) (S : List Nat) (F : Nat → Prop) (v1 v2 : Value) (L : List Pn) (vl : Value) (live : List Pn) (vd : Value) (D : List (Nat × Nat)) : Prop where
  kp : Kp w wr p g r S F v1 v2 L
  row : wr.ownsRow w2.heap.size 76 4 vl live.length (live.flatMap Pn.e)
  rows : ∀ q ∈ live, wr.ownsRow w.heap.size 22 1 (.slice q.A q.R.length q.c) q.R.length (ucells .u64 q.R) ∧ (∀ k, (Value.slice q.A q.R.length q.c).ownBlock = some k → ¬ F k)
  old : ∀ k, v1.ownBlock = some k → k < w2.heap.size
  w12 : w.heap.size ≤ w2.heap.size
  sz : w2.heap.size ≤ wr.heap.size
  dead : wr.ownsRow w.heap.size 71 6 vd D.length (D.flatMap tpc)
section
variable {w w2 wr w1 : World} {p g r : Nat} {S S' : List Nat} {F F' : Nat → Prop} {v1 v2 vl vl' vd vd' : Value} {L live : List Pn} {D D' : List (Nat × Nat)}
theorem Dv.below (h : Dv w w2 wr p g r S F v1 v2 L vl live vd D) (hb : Below wr.heap.size wr w1) : Dv w w2 w1 p g r S F v1 v2 L vl live vd D :=
  ⟨h.kp.below hb, own_below h.row hb, fun q hq => ⟨own_below (h.rows q hq).1 hb, (h.rows q hq).2⟩, h.old, h.w12, Nat.le_trans h.sz hb.size, own_below h.dead hb⟩
/-- One more that runs. -/
theorem Dv.more (h : Dv w w2 wr p g r S F v1 v2 L vl live vd D) (hg : wr.grownBy w1 vl.ownBlock) (q : Pn) (ho : w1.ownsRow w2.heap.size 76 4 vl' (live.length + 1) (live.flatMap Pn.e ++ q.e)) (hq : wr.ownsRow w.heap.size 22 1 (.slice q.A q.R.length q.c) q.R.length (ucells .u64 q.R)) (hF : ∀ k, (Value.slice q.A q.R.length q.c).ownBlock = some k → ¬ F k) : Dv w w2 w1 p g r S F v1 v2 L vl' (live ++ [q]) vd D := by
  have hf := Fr.of_own (S := fun k => vl.ownBlock = some k) hg fun k e => e
  have hu : ∀ {B n : Nat} {v : Value} {xs : List Value}, wr.ownsRow B 22 1 v n xs → w1.ownsRow B 22 1 v n xs := fun ho => app_own h.row hg ho (by decide)
  refine ⟨⟨app_bx h.row hg h.kp.box (by decide), h.kp.log.fr hf fun k hk e => h.kp.log.not (own_ty h.row e) (by decide) (by decide) (by decide) hk, ⟨h.kp.mine.above, h.kp.mine.below.trans (hf.below (fun k e => Nat.le_trans h.w12 (h.row.lt k e).1) h.kp.mine.size), Nat.le_trans h.kp.mine.size hf.size⟩, hf.own h.kp.rs fun k e e' => ?_, h.kp.p0, fun q hq => ⟨hu (h.kp.rows q hq).1, (h.kp.rows q hq).2⟩⟩, ?_, fun q' hq' => ?_, h.old, h.w12, Nat.le_trans h.sz hf.size, app_own h.row hg h.dead (by decide)⟩
  · have := h.old k e
    have := (h.row.lt k e').1
    omega
  · rw [List.length_append, List.length_singleton, List.flatMap_append, List.flatMap_cons, List.flatMap_nil, List.append_nil]
    exact ho
  · rcases List.mem_append.1 hq' with h1 | h1
    · exact ⟨hu (h.rows q' h1).1, (h.rows q' h1).2⟩
    · rw [List.mem_singleton] at h1
      subst h1
      exact ⟨hu hq, hF⟩
/-- One more version that is dead. -/
theorem Dv.die (h : Dv w w2 wr p g r S F v1 v2 L vl live vd D) (hg : wr.grownBy w1 vd.ownBlock) (t : Nat × Nat) (ho : w1.ownsRow w.heap.size 71 6 vd' (D.length + 1) (D.flatMap tpc ++ tpc t)) : Dv w w2 w1 p g r S F v1 v2 L vl live vd' (D ++ [t]) := by
  refine ⟨h.kp.grown h.dead hg (by decide) (by decide) (by decide) (by decide) (by decide), app_own h.dead hg h.row (by decide), fun q hq => ⟨app_own h.dead hg (h.rows q hq).1 (by decide), (h.rows q hq).2⟩, h.old, h.w12, Nat.le_trans h.sz hg.size, ?_⟩
  rw [List.length_append, List.length_singleton, List.flatMap_append, List.flatMap_cons, List.flatMap_nil, List.append_nil]
  exact ho
/-- The log has gone ahead. -/
theorem Dv.step (h : Dv w w2 wr p g r S F v1 v2 L vl live vd D) (h1 : LG w1 g 1 S' F') (hc : Chg F F' wr w1) : Dv w w2 w1 p g r S' F' v1 v2 L vl live vd D :=
  ⟨h.kp.step h1 hc, hc.fr.own h.row fun k e hk => h.kp.log.not (own_ty h.row e) (by decide) (by decide) (by decide) hk, fun q hq => ⟨hc.fr.own (h.rows q hq).1 fun k e => (h.rows q hq).2 k e, fun k e hk => (hc.new k hk).elim ((h.rows q hq).2 k e) fun hh => by have := ((h.rows q hq).1.lt k e).2; omega⟩, h.old, h.w12, Nat.le_trans h.sz hc.fr.size, hc.fr.own h.dead fun k e hk => h.kp.log.not (own_ty h.dead e) (by decide) (by decide) (by decide) hk⟩
end
end Go.Proofs.Ytjkjomooklhdbaa
