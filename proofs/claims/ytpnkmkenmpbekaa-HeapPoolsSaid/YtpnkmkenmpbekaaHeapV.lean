/-
  Heaps, the plain side: what an Insert and a Free leave; a list of places; places in memory.
-/
import Derived.Test.YtpnkmkenmpbekaaPageV
import Derived.Test.YtpnkmkenmpbekaaHeapI
namespace Go.Proofs.Ytpnkmkenmpbekaa
open Go.RowKit
set_option linter.unusedVariables false

section
variable {Ps : List Pg} {n : Nat} {t : Ver}
theorem hin_E0 (hok : t.ok) (hn : 0 < n) : hinE Ps n t = 0 := by
  unfold hinE
  rw [if_pos hok]
  cases hfind Ps t.d.length with
  | some i => rfl
  | none => exact if_neg (by omega)
theorem getN0 (s : Nat) : getN Pg0 s = none := getL_none (.inr rfl)
theorem hin_put (h : hinE Ps n t = 0) : (∀ q, hget (hinS Ps n t) q = if q = hinX Ps n t then some t else hget Ps q) ∧ hget Ps (hinX Ps n t) = none ∧ usedL (hinS Ps n t) = usedL Ps + 1 ∧ (hinS Ps n t).length + hinN Ps n t = Ps.length + n := by
  have hok : t.ok := by
    by_cases hok : t.ok
    · exact hok
    · unfold hinE at h; rw [if_neg hok] at h; cases h
  cases hf : hfind Ps t.d.length with
  | some i =>
    obtain ⟨P, hP, _⟩ := hfind_some hf
    obtain ⟨_, e2, e3, e4⟩ := hin_f (n := n) hok hf hP
    rw [e2, e3, e4]
    refine ⟨hget_set hP fun s => getN_ins, by rw [hget_at hP]; exact getN_low, ?_, by rw [List.length_set]⟩
    have := usedL_set (Q := insP P t) hP
    rw [used_ins] at this
    unfold usedL
    omega
  | none =>
    rcases Nat.eq_zero_or_pos n with h0 | h0
    · subst h0
      rw [(hin_z hok hf).1] at h; cases h
    · obtain ⟨m, rfl⟩ : ∃ m, n = m + 1 := ⟨n - 1, by omega⟩
      obtain ⟨_, e2, e3, e4⟩ := hin_n (n := m) hok hf
      rw [e2, e3, e4]
      refine ⟨fun q => ?_, by unfold hget; rw [List.getElem?_eq_none (Nat.le_refl _)]; rfl, ?_, by simp; omega⟩
      · unfold hget
        by_cases h1 : q.1 < Ps.length
        · rw [List.getElem?_append_left h1, if_neg (fun e => by rw [e] at h1; exact Nat.lt_irrefl _ h1)]
        · rw [List.getElem?_append_right (by omega), List.getElem?_eq_none (l := Ps) (by omega)]
          by_cases h2 : q.1 = Ps.length
          · rw [h2, Nat.sub_self]
            show getN (insP Pg0 t) q.2 = _
            rw [getN_ins, low0, getN0]
            by_cases h3 : q.2 = 0
            · rw [if_pos h3, if_pos (by rw [← h2, ← h3])]
            · rw [if_neg h3, if_neg (fun e => h3 (by rw [e]))]; rfl
          · rw [List.getElem?_eq_none (by simp; omega), if_neg (fun e => h2 (by rw [e]))]
      · unfold usedL
        rw [List.map_append, List.sum_append]
        have := used_ins Pg0 t
        have h0 : Pg0.used = 0 := rfl
        simp; omega
theorem hfre_put {q : Nat × Nat} (h : hget Ps q = some t) : ∃ P, Ps[q.1]? = some P ∧ (getP P (q.2 : Int)).isSome = true ∧ (∀ q', hget (Ps.set q.1 (freN P (q.2 : Int))) q' = if q' = q then none else hget Ps q') ∧ usedL (Ps.set q.1 (freN P (q.2 : Int))) + 1 = usedL Ps := by
  obtain ⟨P, hP, hg⟩ := hget_some h
  have hs : (getN P q.2).isSome = true := by rw [← getP_nat, hg]; rfl
  refine ⟨P, hP, by rw [hg]; rfl, fun q' => ?_, ?_⟩
  · exact hget_set hP (fun s => by rw [freN_get hs]; exact getN_free) q'
  · have h1 := usedL_set (Q := freN P (q.2 : Int)) hP
    have h2 := used_free hs
    rw [← freN_get hs] at h2
    unfold usedL
    omega
end
/-- Places, each with its version, none twice; and no other version. -/
structure Lay (T : List (Nat × Nat)) (Ps : List Pg) (f : Nat → Ver) : Prop where
  used : usedL Ps = T.length
  at_ : ∀ (j : Nat) q, T[j]? = some q → hget Ps q = some (f j)
theorem Lay.nil (f : Nat → Ver) : Lay [] [] f := ⟨rfl, fun j q h => by simp at h⟩
theorem Lay.add {T : List (Nat × Nat)} {Ps : List Pg} {f : Nat → Ver} {n : Nat} {t : Ver} (h : Lay T Ps f) (hE : hinE Ps n t = 0) (hf : f T.length = t) : Lay (T ++ [hinX Ps n t]) (hinS Ps n t) f := by
  obtain ⟨h1, h2, h3, _⟩ := hin_put hE
  refine ⟨by rw [h3, h.used]; simp, fun j q hq => ?_⟩
  rw [h1]
  by_cases hj : j < T.length
  · rw [List.getElem?_append_left hj] at hq
    have := h.at_ j q hq
    rw [if_neg (fun e => by rw [e, h2] at this; cases this)]
    exact this
  · rw [List.getElem?_append_right (by omega)] at hq
    by_cases h0 : j - T.length = 0
    · rw [h0] at hq
      simp at hq
      rw [if_pos hq.symm, ← hf, show j = T.length by omega]
    · rw [List.getElem?_eq_none (by simp; omega)] at hq; cases hq
/-- Places in memory. -/
def tidc (T : List (Nat × Nat)) : List Value := T.flatMap fun q => [.int .i64 (q.1 : Int), .int .i64 (q.2 : Int)]
theorem tidc_length (T : List (Nat × Nat)) : (tidc T).length = T.length * 2 := by
  induction T with
  | nil => rfl
  | cons a l ih =>
    have e : tidc (a :: l) = [.int .i64 (a.1 : Int), .int .i64 (a.2 : Int)] ++ tidc l := rfl
    rw [e, List.length_append, ih]; simp; omega
theorem tidc_append (a b : List (Nat × Nat)) : tidc (a ++ b) = tidc a ++ tidc b := by simp [tidc]
theorem tidc_one (T : List (Nat × Nat)) : ∀ u ∈ tidc T, u.oneCell' = true := by
  intro u hu
  obtain ⟨q, _, h⟩ := List.mem_flatMap.1 hu
  simp at h
  rcases h with rfl | rfl <;> rfl
theorem tidc_at (T : List (Nat × Nat)) : ∀ (k : Nat) (hk : k < T.length), (tidc T)[k * 2]? = some (.int .i64 (T[k].1 : Int)) ∧ (tidc T)[k * 2 + 1]? = some (.int .i64 (T[k].2 : Int)) := by
  induction T with
  | nil => intro k hk; simp at hk
  | cons a l ih =>
    intro k hk
    have e : tidc (a :: l) = [.int .i64 (a.1 : Int), .int .i64 (a.2 : Int)] ++ tidc l := rfl
    cases k with
    | zero => rw [e]; exact ⟨rfl, rfl⟩
    | succ k =>
      have := ih k (by simpa using hk)
      rw [e, List.getElem?_append_right (by simp; omega), List.getElem?_append_right (by simp; omega)]
      simp only [List.length_cons, List.length_nil, List.getElem_cons_succ]
      rw [show (k + 1) * 2 - (0 + 1 + 1) = k * 2 by omega, show (k + 1) * 2 + 1 - (0 + 1 + 1) = k * 2 + 1 by omega]
      exact this
theorem info_tid : (Try.prog.info? 41).map (fun i => (i.zero, i.size, i.bytes)) = some (some (.agg #[.int .i64 0, .int .i64 0]), 2, 16) := by kernel_rfl
theorem size_tid (W : World) : (sizeOf 41).run Try.prog W = .ok 2 W := by kernel_rfl
theorem idx_tid (g n c k : Nat) (h : k < n) (W : World) : (Instr.indexAt 105 (.slice (some ⟨g, 0, none⟩) n c) (.int .i64 (k : Int))).run Try.prog W = .ok (.pointer (some ⟨g, k * 2, none⟩)) W := by
  rw [run_indexAt_slice (h := by kernel_rfl), if_pos (by omega)]
  rw [show Try.prog.elem 105 = 41 by kernel_rfl, size_tid]
  simp [Result.andThen, Addr.add_lit]
/-- A row of places. -/
def Tids (w : World) (B : Nat) (v : Value) (T : List (Nat × Nat)) : Prop := w.ownsRow B 41 2 v T.length (tidc T)
theorem Tids.at_ {w : World} {B g c k : Nat} {T : List (Nat × Nat)} (h : Tids w B (.slice (some ⟨g, 0, none⟩) T.length c) T) (hk : k < T.length) : w.cell? ⟨g, k * 2, none⟩ = some (.int .i64 (T[k].1 : Int)) ∧ w.cell? ⟨g, k * 2 + 1, none⟩ = some (.int .i64 (T[k].2 : Int)) :=
  ⟨(World.ownsRow.cellAt h (k * 2) (by omega)).trans (tidc_at T k hk).1, (World.ownsRow.cellAt h (k * 2 + 1) (by omega)).trans (tidc_at T k hk).2⟩
/-- Another row written. -/
theorem Hs.other {w0 w w' : World} {h p n m size : Nat} {F : Nat → Prop} {Ps : List Pg} {T : TypeId} {v : Value} {xs : List Value} (H : Hs w0 w h p F Ps n) (ho : w.ownsRow w0.heap.size T size v m xs) (hg : w.grownBy w' v.ownBlock) (h1 : T ≠ 149) (h2 : T ≠ 119) (h3 : T ≠ 3) (h4 : T ≠ 35) (h5 : T ≠ 123) (h6 : T ≠ 146) : Hs w0 w' h p F Ps n := by
  have hf : Fr (fun k => v.ownBlock = some k) w w' := Fr.of_own hg fun k e => e
  exact ⟨H.heap.fr hf (fun k hk e => H.heap.not (own_ty ho e) h1 h2 h3 h4 h5 hk), H.pool.fr hf (fun e => (own_ty ho e).ne H.pool.ty h6 rfl), H.below.trans (hf.below (fun k e => (ho.lt k e).1) H.below.size), H.lowF, H.lowp⟩
theorem Tids.alloc {w : World} {B : Nat} {v : Value} {T : List (Nat × Nat)} (h : Tids w B v T) (o : Obj) : Tids (w.alloc o) B v T := World.ownsRow.alloc h o
theorem Tids.below {w w' : World} {B : Nat} {v : Value} {T : List (Nat × Nat)} (h : Tids w B v T) (hb : Below w.heap.size w w') : Tids w' B v T := own_below h hb
end Go.Proofs.Ytpnkmkenmpbekaa
