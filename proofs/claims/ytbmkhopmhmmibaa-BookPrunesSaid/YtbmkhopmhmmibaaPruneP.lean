/-
  What is pruned nobody sees who runs: plain. Maps of numbers.
-/
import Derived.Test.YtbmkhopmhmmibaaPruneC
import Derived.Test.YtbmkhopmhmmibaaMapG
namespace Go.Proofs.Ytbmkhopmhmmibaa
open Go.RowKit Go.Maps
set_option linter.unusedVariables false

theorem least_le {R : List Nat} {n x : Nat} (hs : R.Pairwise (· < ·)) (hx : x ∈ R) : least R n ≤ x := by
  cases R with
  | nil => cases hx
  | cons a R =>
    show a ≤ x
    rcases List.mem_cons.1 hx with rfl | hx
    · exact Nat.le_refl _
    · exact Nat.le_of_lt (List.rel_of_pairwise_cons hs hx)
theorem least_le_max {R : List Nat} {n : Nat} (h : ∀ y ∈ R, y < n) : least R n ≤ n := by
  cases R with
  | nil => exact Nat.le_refl _
  | cons a R => exact Nat.le_of_lt (h a List.mem_cons_self)
theorem sees_not {S : List Nat} {own xmax x : Nat} {R : List Nat} (h1 : x ≠ own) (h2 : stt 1 S x ≠ 2) : seesB 1 S own xmax R x = false := by
  unfold seesB
  rw [decide_eq_false h1, decide_eq_false h2, Bool.and_false]
  rfl
theorem dead_vis {S R : List Nat} {h a b own xmax : Nat} (hd : deadB 1 S a b h = true) (ho : stt 1 S own = 1) (hs : R.Pairwise (· < ·)) (hl : ∀ y ∈ R, y < xmax) (hm : h ≤ least R xmax) : visB 1 S own xmax R a b = false := by
  unfold deadB at hd
  simp only [Bool.or_eq_true, Bool.and_eq_true, decide_eq_true_eq] at hd
  unfold visB
  rcases hd with hd | ⟨h1, h2⟩
  · rw [sees_not (fun e => by rw [e, ho] at hd; cases hd) (by rw [hd]; decide)]
    rfl
  · have hb : seesB 1 S own xmax R b = true := by
      unfold seesB
      have h3 : b < xmax := Nat.lt_of_lt_of_le h1 (Nat.le_trans hm (least_le_max hl))
      have h4 : b ∉ R := fun hb => by have := least_le (n := xmax) hs hb; omega
      rw [decide_eq_true h3, decide_eq_false h4, decide_eq_true h2]
      simp
    have hb0 : b ≠ 0 := fun e => by subst e; simp [stt] at h2
    rw [hb, decide_eq_false hb0]
    simp
/-- Of one that runs: its snapshot. -/
structure Lv (S : List Nat) (x : Nat) (s : Sn) : Prop where
  own : s.own = x
  run : stt 1 S x = 1
  srt : s.R.Pairwise (· < ·)
  lt : ∀ y ∈ s.R, y < s.xmax
  mn : s.xmin = least s.R s.xmax
section
variable {S : List Nat} {h x : Nat} {s : Sn} {T : List Tb} {I : List (Nat × Ix)}
theorem live_find (hv : Lv S x s) (hm : h ≤ s.xmin) (n : ByteArray) : findTb S s.own s.xmax s.R n (liveT S h T) = findTb S s.own s.xmax s.R n T := by
  unfold findTb liveT
  rw [List.find?_filter]
  congr 1
  funext t
  cases hd : ddE S h t.e
  · simp
  · have : visB 1 S s.own s.xmax s.R t.e.xmin t.e.xmax = false := dead_vis hd (by rw [hv.own]; exact hv.run) hv.srt hv.lt (by rw [← hv.mn]; exact hm)
    unfold seenE
    rw [this]
    simp
theorem live_ixs (hv : Lv S x s) (hm : h ≤ s.xmin) (id : Nat) : (liveI S h I).filter (ixP S s.own s.xmax s.R id) = I.filter (ixP S s.own s.xmax s.R id) := by
  unfold liveI
  rw [List.filter_filter]
  congr 1
  funext i
  cases hd : ddI S h i.2
  · simp
  · have : visI 1 S s.own s.xmax s.R i.2 = false := by
      unfold ddI at hd
      unfold visI
      rcases Bool.or_eq_true _ _ |>.mp hd with hd | hd
      · rw [dead_vis hd (by rw [hv.own]; exact hv.run) hv.srt hv.lt (by rw [← hv.mn]; exact hm)]; rfl
      · rw [dead_vis hd (by rw [hv.own]; exact hv.run) hv.srt hv.lt (by rw [← hv.mn]; exact hm), Bool.and_false]
    unfold ixP
    rw [this]
    simp
end
/-- What the law keeps of one that runs. -/
def tidV (S : List Nat) (s : Sn) (n : ByteArray) (T : List Tb) : Nat := (findTb S s.own s.xmax s.R n T).elim 0 fun t => t.e.id
def wasV (S : List Nat) (s : Sn) (n : ByteArray) (T : List Tb) (I : List (Nat × Ix)) : Nat := tidV S s n T + 1000 * (I.filter (ixP S s.own s.xmax s.R (tidV S s n T))).length
theorem was_live {S : List Nat} {h x : Nat} {s : Sn} {T : List Tb} {I : List (Nat × Ix)} (hv : Lv S x s) (hm : h ≤ s.xmin) (n : ByteArray) : wasV S s n (liveT S h T) (liveI S h I) = wasV S s n T I := by
  unfold wasV tidV
  rw [live_find hv hm, live_ixs hv hm]
theorem hzn_le {nx : Nat} {L : List Sn} {s : Sn} (hs : s ∈ L) : hzn nx L ≤ s.xmin := by
  have key : ∀ (l : List Sn) (z : Nat), l.foldl (fun m t => min m t.xmin) z ≤ z ∧ ∀ t ∈ l, l.foldl (fun m t => min m t.xmin) z ≤ t.xmin := by
    intro l
    induction l with
    | nil => intro z; exact ⟨Nat.le_refl _, fun t ht => absurd ht List.not_mem_nil⟩
    | cons a l ih =>
      intro z
      obtain ⟨h1, h2⟩ := ih (min z a.xmin)
      refine ⟨Nat.le_trans h1 (Nat.min_le_left _ _), fun t ht => ?_⟩
      rcases List.mem_cons.1 ht with rfl | ht
      · exact Nat.le_trans h1 (Nat.min_le_right _ _)
      · exact h2 t ht
  cases L with
  | nil => cases hs
  | cons a l =>
    show l.foldl (fun m t => min m t.xmin) a.xmin ≤ s.xmin
    rcases List.mem_cons.1 hs with rfl | hs
    · exact (key l s.xmin).1
    · exact (key l a.xmin).2 s hs
def Sn.V (s : Sn) : Value := .agg #[.int .u64 (s.own : Int), .int .u64 (s.xmin : Int), .int .u64 (s.xmax : Int), .slice s.A s.R.length s.c]
def sn0 : Value := .agg #[.int .u64 0, .int .u64 0, .int .u64 0, .slice none 0 0]
set_option maxRecDepth 100000 in
def E11 : ElG 50 Value Sn where
  R v := some (.held v, [])
  L s := .held s.V
  V s := s.V
  zl := .held sn0
  zv := sn0
  zero w := Try.zeroValue50 w
  pz := rfl
  pv _ := rfl
  iz v ps h := by
    injection h with h
    injection h with h _
    injection h
  iv a v ps h := by
    injection h with h
    injection h with h _
    injection h
theorem m11_get {w : World} {b c n : Nat} {f : Nat → Option Sn} (h : MG E11 w b f c n) {x : Nat} (hx : x < 18446744073709551616) :
    (Instr.lookup 90 (.map (some b)) (.int .u64 (x : Int)) true).run Try.prog w = .ok (.tuple #[(f x).elim sn0 Sn.V, .bool (f x).isSome]) w := by
  obtain ⟨D, ho, h1, h2, _⟩ := h
  obtain ⟨v, ps, hr, hv⟩ := ho.look_ok lawG Try.underlying90 (E11.zero w) E11.pz (kg_of hx)
  rw [hr, h1]
  cases hf : f x with
  | none =>
    rw [Maps.atKey_of_not_has (by rw [h1, hf]; rfl)] at hv
    rw [E11.iz v ps hv]; rfl
  | some u =>
    rw [h2 x u hf] at hv
    rw [E11.iv u v ps hv]; rfl
end Go.Proofs.Ytbmkhopmhmmibaa
