/-
  Pages, the plain side: freeing.
-/
import Derived.Test.YtpnkmkenmpbekaaPageN
namespace Go.Proofs.Ytpnkmkenmpbekaa

def noneAt (L : List Sl) (n : Nat) : Bool := match L[n]? with
  | some none => true
  | _ => false
theorem noneAt_iff {L : List Sl} {n : Nat} : noneAt L n = true ↔ L[n]? = some none := by
  unfold noneAt
  cases L[n]? with
  | none => simp
  | some o => cases o <;> simp
/-- How many slots are left where those at the end that hold nothing go. -/
def trimN (L : List Sl) : Nat → Nat
  | 0 => 0
  | n + 1 => if noneAt L n then trimN L n else n + 1
def trimP (P : Pg) : Pg := ⟨P.L.take (trimN P.L P.L.length), P.start⟩
def freeP (P : Pg) (k : Nat) : Pg := trimP ⟨P.L.set k none, P.start⟩
theorem trimN_le (L : List Sl) : ∀ n, trimN L n ≤ n
  | 0 => Nat.le_refl _
  | n + 1 => by unfold trimN; split; have := trimN_le L n; omega; exact Nat.le_refl _
theorem trimN_out (L : List Sl) : ∀ n j, trimN L n ≤ j → j < n → L[j]? = some none
  | 0, j, _, h => by omega
  | n + 1, j, h1, h2 => by
    unfold trimN at h1
    split at h1
    · rename_i e
      by_cases ej : j = n
      · subst ej; exact noneAt_iff.1 e
      · exact trimN_out L n j h1 (by omega)
    · omega
section
variable {f f' : Nat → UInt8} {P : Pg}
theorem Enc.trimF (h : Enc f P) : ∀ {n : Nat}, n ≤ P.L.length → Go.Proofs.Ytpnkmkenmpbekaa.trimF f n = trimN P.L n
  | 0, _ => rfl
  | n + 1, hn => by
    show (if Go.Proofs.Ytpnkmkenmpbekaa.fr f n then Go.Proofs.Ytpnkmkenmpbekaa.trimF f n else n + 1) = (if noneAt P.L n then trimN P.L n else n + 1)
    rw [h.trimF (n := n) (by omega)]
    by_cases e : noneAt P.L n = true
    · rw [if_pos e, if_pos ((h.fr (by omega)).2 (noneAt_iff.1 e))]
    · rw [if_neg e, if_neg (fun e' => e (noneAt_iff.2 ((h.fr (by omega)).1 e')))]
theorem take_has {L : List Sl} {m j : Nat} {s : Sl} (h : (L.take m)[j]? = some s) : j < m ∧ L[j]? = some s := by
  rw [List.getElem?_take] at h
  split at h
  · exact ⟨by assumption, h⟩
  · cases h
/-- Slots at the end that hold nothing go. -/
theorem Enc.cut (h : Enc f P) {m : Nat} (hm : m ≤ P.L.length) (hout : ∀ j, m ≤ j → j < P.L.length → P.L[j]? = some none) : Enc (lay f 0 (leb m 2)) ⟨P.L.take m, P.start⟩ := by
  have hlen : (P.L.take m).length = m := by rw [List.length_take]; omega
  have hl := h.len
  have ho : ∀ i, 2 ≤ i → lay f 0 (leb m 2) i = f i := fun i hi => lay_out (.inr (by rw [leb_length]; omega))
  have hback : ∀ j a v, P.has j a v → (Pg.mk (P.L.take m) P.start).has j a v := fun j a v hj => by
    have hjl := Pg.has_lt hj
    by_cases e : j < m
    · show (P.L.take m)[j]? = _
      rw [List.getElem?_take_of_lt e]; exact hj
    · have := hout j (by omega) hjl
      unfold Pg.has at hj; rw [this] at hj; cases hj
  have hin : ∀ {j a v}, (Pg.mk (P.L.take m) P.start).has j a v → P.has j a v := fun hj => (take_has hj).2
  refine ⟨?_, ?_, by rw [hlen]; have := h.hdr; show 4 + 4 * m ≤ P.start; omega, h.lim, fun j hj => ?_, fun j a v hj => ?_, fun i j a b u v hne hi hj => h.disj i j a b u v hne (hin hi) (hin hj), fun i h1 h2 h3 => ?_, ?_⟩
  · rw [hlen]
    show le _ 0 2 = m
    rw [le_leb, Nat.mod_eq_of_lt (by omega)]
  · rw [← h.b]; exact nB_congr fun i hi _ => ho i (by omega)
  · have := take_has hj
    rw [nA_congr (f := f) fun i hi _ => ho i (by omega), nZ_congr (f := f) fun i hi _ => ho i (by omega)]
    exact h.free j this.2
  · have hj' := hin hj
    obtain ⟨f1, f2, f3, f4, f5, f6⟩ := h.some_ j a v hj'
    have := h.hdr
    rw [nA_congr (f := f) fun i hi _ => ho i (by omega), nZ_congr (f := f) fun i hi _ => ho i (by omega)]
    have f3' : P.start ≤ a := f3
    exact ⟨f1, f2, f3, f4, f5, fun i hi => by rw [ho _ (by omega)]; exact f6 i hi⟩
  · rw [hlen] at h1
    rw [ho i (by omega)]
    by_cases e : i < 4 + 4 * P.L.length
    · obtain ⟨k, j, rfl, hj⟩ : ∃ k j, i = 4 + 4 * k + j ∧ j < 4 := ⟨(i - 4) / 4, (i - 4) % 4, by omega, by omega⟩
      obtain ⟨z1, z2⟩ := h.free k (hout k (by omega) (by omega))
      have y1 := le_two_zero (f := f) (a := 4 + 4 * k) z1
      have y2 := le_two_zero (f := f) (a := 6 + 4 * k) z2
      have : j = 0 ∨ j = 1 ∨ j = 2 ∨ j = 3 := by omega
      rcases this with rfl | rfl | rfl | rfl
      · exact y1.1
      · exact y1.2
      · have := y2.1; rwa [show 6 + 4 * k = 4 + 4 * k + 2 by omega] at this
      · have := y2.2; rwa [show 6 + 4 * k + 1 = 4 + 4 * k + 3 by omega] at this
    · exact h.zero i (by omega) h2 fun k a v hk => h3 k a v (hback k a v hk)
  · have hs := h.sum
    have : tot P.L = tot (P.L.take m) + tot (P.L.drop m) := by rw [← tot_append, List.take_append_drop]
    show tot (P.L.take m) + P.start ≤ 512
    omega
/-- A version goes; its slot stays, free. -/
theorem Enc.drop (h : Enc f P) {k a : Nat} {v : Ver} (hh : P.has k a v) : Enc (frF2 f k) ⟨P.L.set k none, P.start⟩ := by
  obtain ⟨e1, e2, e3, e4, _, _⟩ := h.some_ k a v hh
  have hk := Pg.has_lt hh
  have hdr := h.hdr
  have hlen : (P.L.set k none).length = P.L.length := List.length_set
  have hf2 : ∀ i, frF2 f k i = if 4 + 4 * k ≤ i ∧ i < 4 + 4 * k + 4 then 0 else if a ≤ i ∧ i < a + v.sz then 0 else f i := fun i => by
    unfold frF2
    rw [e1, e2]
    by_cases c1 : 4 + 4 * k ≤ i ∧ i < 4 + 4 * k + 4
    · rw [if_pos c1]
      obtain ⟨j, rfl⟩ : ∃ j, i = 4 + 4 * k + j := ⟨i - (4 + 4 * k), by omega⟩
      rw [lay_in (by rw [zer_length]; omega), zer_get]
    · rw [if_neg c1, lay_out (by rw [zer_length]; omega)]
      by_cases c2 : a ≤ i ∧ i < a + v.sz
      · rw [if_pos c2]
        obtain ⟨j, rfl⟩ : ∃ j, i = a + j := ⟨i - a, by omega⟩
        rw [lay_in (by rw [zer_length]; omega), zer_get]
      · rw [if_neg c2, lay_out (by rw [zer_length]; omega)]
  have hsame : ∀ i, (i < 4 + 4 * k ∨ 4 + 4 * k + 4 ≤ i) → (i < a ∨ a + v.sz ≤ i) → frF2 f k i = f i := fun i c1 c2 => by
    rw [hf2, if_neg (by omega), if_neg (by omega)]
  have hin : ∀ {j b u}, (Pg.mk (P.L.set k none) P.start).has j b u → j ≠ k ∧ P.has j b u := fun hj => by
    rcases (Pg.has_set hk).1 hj with ⟨_, e⟩ | e
    · cases e
    · exact e
  refine ⟨?_, ?_, by rw [hlen]; exact hdr, h.lim, fun j hj => ?_, fun j b u hj => ?_, fun i j b c u y hne hi' hj' => h.disj i j b c u y hne (hin hi').2 (hin hj').2, fun i h1 h2 h3 => ?_, ?_⟩
  · rw [hlen, ← h.n]; exact nS_congr fun i hi => hsame i (.inl (by omega)) (.inl (by omega))
  · rw [← h.b]; exact nB_congr fun i _ hi => hsame i (.inl (by omega)) (.inl (by omega))
  · by_cases e : j = k
    · subst e
      exact ⟨le_zero fun i hi => by rw [hf2, if_pos (by omega)], le_zero fun i hi => by rw [hf2, if_pos (by omega)]⟩
    · rw [List.getElem?_set_ne (fun e' => e e'.symm)] at hj
      have hjl := (List.getElem?_eq_some_iff.1 hj).1
      rw [nA_congr (f := f) fun i _ _ => hsame i (by omega) (.inl (by omega)), nZ_congr (f := f) fun i _ _ => hsame i (by omega) (.inl (by omega))]
      exact h.free j hj
  · obtain ⟨hne, hj'⟩ := hin hj
    obtain ⟨f1, f2, f3, f4, f5, f6⟩ := h.some_ j b u hj'
    have hjl := Pg.has_lt hj'
    rw [nA_congr (f := f) fun i _ _ => hsame i (by omega) (.inl (by omega)), nZ_congr (f := f) fun i _ _ => hsame i (by omega) (.inl (by omega))]
    refine ⟨f1, f2, f3, f4, f5, fun i hi => ?_⟩
    have := h.disj k j a b v u (fun e => hne e.symm) hh hj'
    rw [hsame _ (.inr (by omega)) (by omega)]
    exact f6 i hi
  · rw [hlen] at h1
    rw [hf2]
    by_cases c1 : 4 + 4 * k ≤ i ∧ i < 4 + 4 * k + 4
    · rw [if_pos c1]
    · rw [if_neg c1]
      by_cases c2 : a ≤ i ∧ i < a + v.sz
      · rw [if_pos c2]
      · rw [if_neg c2]
        refine h.zero i h1 h2 fun j b u hj => ?_
        by_cases e : j = k
        · subst e
          obtain ⟨rfl, rfl⟩ := Pg.has_one hh hj
          omega
        · exact h3 j b u ((Pg.has_set hk).2 (.inr ⟨e, hj⟩))
  · have := tot_set (t := (none : Sl)) hh
    have e0 : Sl.sz none = 0 := rfl
    have := h.sum
    show tot (P.L.set k none) + P.start ≤ 512
    omega
/-- Free, whole. -/
theorem Enc.free_ (h : Enc f P) {k a : Nat} {v : Ver} (hh : P.has k a v) : Enc (freeF f k) (freeP P k) := by
  have hd := h.drop hh
  unfold freeF freeP trimP
  rw [hd.n, hd.trimF (Nat.le_refl _)]
  exact hd.cut (trimN_le _ _) (trimN_out _ _)
end
end Go.Proofs.Ytpnkmkenmpbekaa
