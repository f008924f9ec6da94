/-
  BookFirst: what stands between its steps, plain; DropTable beside a log.
-/
import Derived.Test.YtbmkhopmhmmibaaBookZ
namespace Go.Proofs.Ytbmkhopmhmmibaa
open Go.RowKit
set_option linter.unusedVariables false

section
variable {B g k last : Nat} {w0 w : World} {S : List Nat} {T : List Tb} {I : List (Nat × Ix)} {Q : List (Value × List Nat)}
theorem wd_drOK (h : Wd B w0 w g S k last T I Q) (own xmin xmax : Nat) (v : Value) (R : List Nat) (n : ByteArray) (t : Tb) (hv : (v, R) ∈ Q) (hI : I.length ≤ 16) (hf : findTb S own xmax R n T = some t) (ha : allFree S own xmax R T I (goD S own xmax R t I) = true) (io im ix : Int) (e1 : (own : Int) = io) (e2 : (xmin : Int) = im) (e3 : (xmax : Int) = ix) :
    Calls Try.prog 25 #[.pointer (some ⟨k, 0, none⟩), .pointer (some ⟨g, 0, none⟩), .agg #[.int .u64 io, .int .u64 im, .int .u64 ix, v], .string n] w fun e w' => e = .returned (.tuple #[.int .u64 (t.e.id : Int), .int .i64 0]) ∧ Wd B w0 w' g S k last (T.map (Tb.st (goD S own xmax R t I) own)) (I.map (Ix.st (goD S own xmax R t I) own)) Q ∧ FrT allT B w w' := by
  subst e1 e2 e3
  obtain ⟨F, vT, vI, hl, hm, hb, hq⟩ := h
  refine (drtab_any w B k g own xmin xmax B last T I S R F v vT vI n hl (hq _ hv).1 (len_max (hq _ hv).1) hb hm.size hI).mono ?_
  intro e w' h1
  unfold DtR at h1
  rw [hf] at h1
  change (if allFree S own xmax R T I (goD S own xmax R t I) = true then _ else _) at h1
  rw [if_pos ha] at h1
  obtain ⟨rfl, h2, h3⟩ := h1
  exact ⟨rfl, wd_book hl hm hq h2 h3⟩
theorem wd_drNo (h : Wd B w0 w g S k last T I Q) (own xmin xmax : Nat) (v : Value) (R : List Nat) (n : ByteArray) (t : Tb) (hv : (v, R) ∈ Q) (hI : I.length ≤ 16) (hf : findTb S own xmax R n T = some t) (ha : allFree S own xmax R T I (goD S own xmax R t I) = false) (io im ix : Int) (e1 : (own : Int) = io) (e2 : (xmin : Int) = im) (e3 : (xmax : Int) = ix) :
    Calls Try.prog 25 #[.pointer (some ⟨k, 0, none⟩), .pointer (some ⟨g, 0, none⟩), .agg #[.int .u64 io, .int .u64 im, .int .u64 ix, v], .string n] w fun e w' => e = .returned (.tuple #[.int .u64 0, .int .i64 11]) ∧ Wd B w0 w' g S k last T I Q ∧ FrT allT B w w' := by
  subst e1 e2 e3
  obtain ⟨F, vT, vI, hl, hm, hb, hq⟩ := h
  refine (drtab_any w B k g own xmin xmax B last T I S R F v vT vI n hl (hq _ hv).1 (len_max (hq _ hv).1) hb hm.size hI).mono ?_
  intro e w' h1
  unfold DtR at h1
  rw [hf] at h1
  change (if allFree S own xmax R T I (goD S own xmax R t I) = true then _ else _) at h1
  rw [if_neg (by rw [ha]; decide)] at h1
  obtain ⟨rfl, x⟩ := h1
  exact ⟨rfl, Wd.next ⟨F, vT, vI, hl, hm, hb, hq⟩ x, FrT.of_below x⟩
end
/-- Those that have aborted, and those that run. -/
def SA (N a : Nat) : List Nat := 2 :: (List.replicate a 3 ++ List.replicate (N - a) 1)
theorem stt_one (l : List Nat) : stt 1 (2 :: l) 1 = 2 := rfl
theorem stt_SA {N a x : Nat} (h1 : 2 ≤ x) (h2 : x < N + 2) (ha : a ≤ N) : stt 1 (SA N a) x = if x < a + 2 then 3 else 1 := by
  unfold stt SA
  rw [if_pos (by omega)]
  obtain ⟨y, rfl⟩ : ∃ y, x = y + 2 := ⟨x - 2, by omega⟩
  rw [show y + 2 - 1 = y + 1 by omega, List.getD_cons_succ]
  by_cases h : y < a
  · rw [if_pos (by omega), List.getD_eq_getElem?_getD, List.getElem?_append_left (by simpa using h), List.getElem?_replicate, if_pos h]; rfl
  · rw [if_neg (by omega), List.getD_eq_getElem?_getD, List.getElem?_append_right (by simpa using Nat.le_of_not_lt h), List.length_replicate, List.getElem?_replicate, if_pos (by omega)]; rfl
theorem SA_end {N i : Nat} (h : i < N) : endL 1 (SA N i) (i + 2) 3 = SA N (i + 1) := by
  unfold endL
  rw [if_pos (by rw [stt_SA (by omega) (by omega) (by omega), if_neg (by omega)])]
  unfold SA
  rw [show i + 2 - 1 = i + 1 by omega, List.set_cons_succ, List.set_append_right _ _ (by simp)]
  rw [List.length_replicate, Nat.sub_self, show N - i = (N - (i + 1)) + 1 by omega, List.replicate_succ, List.set_cons_zero, List.replicate_succ', List.append_assoc]
  rfl
theorem SA_zero (N : Nat) : SA N 0 = 2 :: List.replicate N 1 := by unfold SA; simp
/-- The snapshots: whose; none says that 1 ran. -/
def Lok (L : List Sn) : Prop := ∀ j (h : j < L.length), L[j].own = j + 2 ∧ L[j].xmax = j + 3 ∧ 1 ∉ L[j].R
theorem Lok.more {L : List Sn} (h : Lok L) (s : Sn) (h1 : s.own = L.length + 2) (h2 : s.xmax = L.length + 3) (h3 : 1 ∉ s.R) : Lok (L ++ [s]) := fun j hj => by
  by_cases e : j < L.length
  · rw [List.getElem_append_left e]; exact h j e
  · have : j = L.length := by simp at hj; omega
    subst this
    simp
    exact ⟨h1, h2, h3⟩
theorem not_one {S : List Nat} {own : Nat} : 1 ∉ others (runs 1 (2 :: S)) own := fun h => by
  have := (runs_mem 1 (2 :: S) 1).1 (List.mem_filter.1 h).1
  rw [stt_one] at this
  cases this
/-- The tables when all make the same one. -/
structure Cr (T : List Tb) (N a : Nat) (f : Bool) : Prop where
  nm : ∀ t ∈ T, t.e.nm = ⟨#[116]⟩
  x0 : ∀ t ∈ T, t.e.xmax = 0
  lo : ∀ t ∈ T, 2 ≤ t.e.xmin ∧ t.e.xmin < a + (if f then 2 else 3)
  len : T.length = a + (if f then 0 else 1)
  one : f = false → ∃ t ∈ T, t.e.xmin = a + 2
theorem sees_no {S : List Nat} {own xmax x : Nat} {R : List Nat} (h1 : x ≠ own) (h2 : stt 1 S x ≠ 2) : seesB 1 S own xmax R x = false := by
  unfold seesB
  rw [decide_eq_false h1, decide_eq_false h2, Bool.and_false]
  rfl
theorem Cr.yes {T : List Tb} {N i : Nat} (h : Cr T N i true) (hi : i < N) (hN : N ≤ 9) (xmax : Nat) (R : List Nat) : crE (SA N i) (i + 2) xmax R ⟨#[116]⟩ [coA] T [] = 0 := by
  rw [crE_all _ _ _ _ _ name_t T h.nm]
  have hs : ∀ t ∈ T, stt 1 (SA N i) t.e.xmin = 3 := fun t ht => by
    have := h.lo t ht
    simp only [if_true] at this
    rw [stt_SA this.1 (by omega) (by omega), if_pos this.2]
  rw [show (T.any fun t => visB 1 (SA N i) (i + 2) xmax R t.e.xmin t.e.xmax) = false from by
    rw [List.any_eq_false]
    intro t ht
    unfold visB
    have := (h.lo t ht).2
    simp only [if_true] at this
    rw [sees_no (by omega) (by rw [hs t ht]; decide)]
    simp]
  rw [show (T.any fun t => blkE (SA N i) (i + 2) xmax R t.e) = false from by
    rw [List.any_eq_false]
    intro t ht
    unfold blkE aliveE
    rw [hs t ht]
    simp]
  have := h.len
  simp only [if_true] at this
  simp
  omega
theorem Cr.no {T : List Tb} {N a i : Nat} (h : Cr T N a false) (ha : a < i) (hi : i < N) (xmax : Nat) (R : List Nat) : crE (SA N a) (i + 2) xmax R ⟨#[116]⟩ [coA] T [] = 11 := by
  rw [crE_all _ _ _ _ _ name_t T h.nm]
  have hs : ∀ t ∈ T, t.e.xmin ≠ i + 2 ∧ stt 1 (SA N a) t.e.xmin ≠ 2 := fun t ht => by
    have := h.lo t ht
    simp only [Bool.false_eq_true, if_false] at this
    refine ⟨by omega, ?_⟩
    rw [stt_SA this.1 (by omega) (by omega)]
    split <;> decide
  have hv : ∀ t ∈ T, visB 1 (SA N a) (i + 2) xmax R t.e.xmin t.e.xmax = false := fun t ht => by
    unfold visB
    rw [sees_no (hs t ht).1 (hs t ht).2]
    rfl
  rw [show (T.any fun t => visB 1 (SA N a) (i + 2) xmax R t.e.xmin t.e.xmax) = false from by
    rw [List.any_eq_false]
    intro t ht
    rw [hv t ht]
    decide]
  obtain ⟨t, ht, hx⟩ := h.one rfl
  rw [show (T.any fun t => blkE (SA N a) (i + 2) xmax R t.e) = true from by
    rw [List.any_eq_true]
    refine ⟨t, ht, ?_⟩
    unfold blkE aliveE
    rw [hv t ht, h.x0 t ht, hx, stt_SA (by omega) (by omega) (by omega), if_neg (by omega)]
    rfl]
  rfl
theorem Cr.put {T : List Tb} {N i : Nat} (h : Cr T N i true) (t : Tb) (h1 : t.e.nm = ⟨#[116]⟩) (h2 : t.e.xmax = 0) (h3 : t.e.xmin = i + 2) (b : Bool) : Cr (T ++ [t]) N (if b then i + 1 else i) b := by
  have hl := h.len
  simp only [if_true] at hl
  refine ⟨fun u hu => ?_, fun u hu => ?_, fun u hu => ?_, ?_, fun hb => ⟨t, by simp, ?_⟩⟩
  · rcases List.mem_append.1 hu with hu | hu
    · exact h.nm u hu
    · rw [List.mem_singleton] at hu; subst hu; exact h1
  · rcases List.mem_append.1 hu with hu | hu
    · exact h.x0 u hu
    · rw [List.mem_singleton] at hu; subst hu; exact h2
  · rcases List.mem_append.1 hu with hu | hu
    · have := h.lo u hu
      simp only [if_true] at this
      cases b <;> simp <;> omega
    · rw [List.mem_singleton] at hu; subst hu; rw [h3]; cases b <;> simp
  · rw [List.length_append, hl]; cases b <;> simp
  · subst hb; exact h3
/-- The one table when all drop it. -/
structure Dr (t : Tb) (N a : Nat) (f : Bool) : Prop where
  nm : t.e.nm = ⟨#[116]⟩
  x1 : t.e.xmin = 1
  yes : f = true → t.e.xmax = 0 ∨ 2 ≤ t.e.xmax ∧ t.e.xmax < a + 2
  no : f = false → t.e.xmax = a + 2
theorem sees_one {N a own xmax : Nat} {R : List Nat} (h1 : own ≠ 1) (h2 : 1 < xmax) (h3 : 1 ∉ R) : seesB 1 (SA N a) own xmax R 1 = true := by
  unfold seesB
  rw [decide_eq_true h2, decide_eq_false h3, show stt 1 (SA N a) 1 = 2 from stt_one _]
  simp
theorem Dr.vis {t : Tb} {N a i : Nat} {f : Bool} (h : Dr t N a f) (ha : a ≤ i) (hf : f = false → a < i) (hi : i < N) (xmax : Nat) (R : List Nat) (hx : 1 < xmax) (hR : 1 ∉ R) : visB 1 (SA N a) (i + 2) xmax R t.e.xmin t.e.xmax = true := by
  unfold visB
  rw [h.x1, sees_one (by omega) hx hR]
  cases f with
  | true =>
    rcases h.yes rfl with h0 | h0
    · rw [h0]; rfl
    · rw [sees_no (by omega) (by rw [stt_SA h0.1 (by omega) (by omega), if_pos h0.2]; decide)]; simp
  | false =>
    have h0 := h.no rfl
    have := hf rfl
    rw [sees_no (by omega) (by rw [h0, stt_SA (by omega) (by omega) (by omega), if_neg (by omega)]; decide)]; simp
theorem Dr.find {t : Tb} {N a i : Nat} {f : Bool} (h : Dr t N a f) (ha : a ≤ i) (hf : f = false → a < i) (hi : i < N) (xmax : Nat) (R : List Nat) (hx : 1 < xmax) (hR : 1 ∉ R) : findTb (SA N a) (i + 2) xmax R ⟨#[116]⟩ [t] = some t :=
  find_hit (by unfold seenE; rw [h.vis ha hf hi xmax R hx hR, h.nm]; simp)
theorem Dr.free {t : Tb} {N a i : Nat} {f : Bool} (h : Dr t N a f) (ha : a ≤ i) (hf : f = false → a < i) (hi : i < N) (xmax : Nat) (R : List Nat) (hx : 1 < xmax) (hR : 1 ∉ R) : allFree (SA N a) (i + 2) xmax R [t] [] (goD (SA N a) (i + 2) xmax R t []) = f := by
  have he : entB [t] [] t.b = t.e := by unfold entB; simp
  unfold allFree goD
  simp only [List.filter_nil, List.map_nil, List.all_cons, List.all_nil, Bool.and_true, he]
  unfold freeE freeV
  rw [h.vis ha hf hi xmax R hx hR]
  cases f with
  | true =>
    rcases h.yes rfl with h0 | h0
    · rw [if_neg (fun hh => hh.1 h0)]; rfl
    · rw [if_neg (fun hh => hh.2.2 (by rw [stt_SA h0.1 (by omega) (by omega), if_pos h0.2]))]; rfl
  | false =>
    have h0 := h.no rfl
    have := hf rfl
    rw [if_pos ⟨by omega, by omega, by rw [h0, stt_SA (by omega) (by omega) (by omega), if_neg (by omega)]; decide⟩]; rfl
theorem Dr.put {t : Tb} {N i : Nat} (h : Dr t N i true) (b : Bool) : Dr (t.st [t.b] (i + 2)) N (if b then i + 1 else i) b := by
  have he : (t.st [t.b] (i + 2)).e = t.e.st (i + 2) := by unfold Tb.st; simp
  refine ⟨by rw [he]; exact h.nm, by rw [he]; exact h.x1, fun hb => .inr ?_, fun hb => ?_⟩
  · rw [he]; subst hb; simp [Ent.st]
  · rw [he]; subst hb; simp [Ent.st]
end Go.Proofs.Ytbmkhopmhmmibaa
