/-
  Pages, the plain side: slots that hold versions, and the bytes that say so; stamping.
-/
import Derived.Test.YtpnkmkenmpbekaaPageL
namespace Go.Proofs.Ytpnkmkenmpbekaa

/-- A version. -/
structure Ver where
  r : Nat
  x : Nat
  m : Nat
  p : Int
  s : Int
  d : List UInt8
def Ver.sz (v : Ver) : Nat := 30 + v.d.length
def Ver.bytes (v : Ver) : List UInt8 := pk v.r v.x v.m v.p v.s v.d
def Ver.ok (v : Ver) : Prop := vdB v.r v.x v.m v.p v.s v.d.length = true
theorem Ver.bytes_length (v : Ver) : v.bytes.length = v.sz := pk_length _ _ _ _ _ _
/-- A slot: none, or where a version begins, and it. -/
abbrev Sl := Option (Nat × Ver)
def Sl.sz : Sl → Nat
  | none => 0
  | some (_, v) => v.sz
structure Pg where
  L : List Sl
  start : Nat
/-- Slot k holds this version there. -/
def Pg.has (P : Pg) (k a : Nat) (v : Ver) : Prop := P.L[k]? = some (some (a, v))
def tot (l : List Sl) : Nat := (l.map Sl.sz).sum
theorem tot_nil : tot [] = 0 := rfl
theorem tot_append (a b : List Sl) : tot (a ++ b) = tot a + tot b := by simp [tot]
theorem tot_cons (a : Sl) (b : List Sl) : tot (a :: b) = a.sz + tot b := by simp [tot]
theorem tot_take_succ {l : List Sl} {k : Nat} {s : Sl} (h : l[k]? = some s) : tot (l.take (k + 1)) = tot (l.take k) + s.sz := by
  obtain ⟨hk, rfl⟩ := List.getElem?_eq_some_iff.1 h
  rw [List.take_succ_eq_append_getElem hk, tot_append, tot_cons, tot_nil, Nat.add_zero]
theorem tot_set {l : List Sl} : ∀ {k : Nat} {s t : Sl}, l[k]? = some s → tot (l.set k t) + s.sz = tot l + t.sz := by
  induction l with
  | nil => intro k s t h; simp at h
  | cons a l ih =>
    intro k s t h
    cases k with
    | zero => simp at h; subst h; rw [List.set_cons_zero, tot_cons, tot_cons]; omega
    | succ k => rw [List.set_cons_succ, tot_cons, tot_cons]; have := ih (t := t) (by simpa using h); omega
theorem sz_le_tot {l : List Sl} {k : Nat} {s : Sl} (h : l[k]? = some s) : s.sz ≤ tot l := by
  have := tot_set (t := none) h
  have e : Sl.sz none = 0 := rfl
  omega
/-- These bytes are that page's. -/
structure Enc (f : Nat → UInt8) (P : Pg) : Prop where
  n : nS f = P.L.length
  b : nB f = P.start
  hdr : 4 + 4 * P.L.length ≤ P.start
  lim : P.start ≤ 512
  free : ∀ k, P.L[k]? = some none → nA f k = 0 ∧ nZ f k = 0
  some_ : ∀ k a v, P.has k a v → nA f k = a ∧ nZ f k = v.sz ∧ P.start ≤ a ∧ a + v.sz ≤ 512 ∧ v.ok ∧ ∀ j, j < v.sz → f (a + j) = v.bytes.getD j 0
  disj : ∀ k k' a a' v v', k ≠ k' → P.has k a v → P.has k' a' v' → a + v.sz ≤ a' ∨ a' + v'.sz ≤ a
  zero : ∀ i, 4 + 4 * P.L.length ≤ i → i < 512 → (∀ k a v, P.has k a v → i < a ∨ a + v.sz ≤ i) → f i = 0
  sum : tot P.L + P.start ≤ 512
section
variable {f : Nat → UInt8} {P : Pg}
theorem Pg.has_lt {k a : Nat} {v : Ver} (h : P.has k a v) : k < P.L.length := (List.getElem?_eq_some_iff.1 h).1
theorem Pg.has_one {k a a' : Nat} {v v' : Ver} (h : P.has k a v) (h' : P.has k a' v') : a = a' ∧ v = v' := by
  unfold Pg.has at h h'
  rw [h] at h'
  simpa using h'
theorem Ver.sz_ge (v : Ver) : 30 ≤ v.sz := Nat.le_add_right _ _
theorem Enc.len (h : Enc f P) : P.L.length ≤ 127 := by have := h.hdr; have := h.lim; omega
theorem Enc.fr (h : Enc f P) {k : Nat} (hk : k < P.L.length) : fr f k = true ↔ P.L[k]? = some none := by
  cases hs : P.L[k]? with
  | none => have := List.getElem?_eq_none_iff.1 hs; omega
  | some o =>
    cases o with
    | none => have := h.free k hs; unfold Go.Proofs.Ytpnkmkenmpbekaa.fr; simp [this]
    | some q =>
      obtain ⟨a, v⟩ := q
      have := (h.some_ k a v hs)
      have hz := v.sz_ge
      constructor
      · intro hf
        have := of_decide_eq_true hf
        omega
      · intro e; cases e
theorem Enc.has_of (h : Enc f P) {k : Nat} (hk : k < P.L.length) (hf : Go.Proofs.Ytpnkmkenmpbekaa.fr f k = false) : ∃ a v, P.has k a v := by
  cases hs : P.L[k]? with
  | none => have := List.getElem?_eq_none_iff.1 hs; omega
  | some o =>
    cases o with
    | none => rw [(h.fr hk).2 hs] at hf; cases hf
    | some q => exact ⟨q.1, q.2, hs⟩
theorem Enc.fr_has (h : Enc f P) {k a : Nat} {v : Ver} (hh : P.has k a v) : Go.Proofs.Ytpnkmkenmpbekaa.fr f k = false := by
  cases e : Go.Proofs.Ytpnkmkenmpbekaa.fr f k with
  | false => rfl
  | true =>
    have := (h.fr (Pg.has_lt hh)).1 e
    unfold Pg.has at hh
    rw [hh] at this
    cases this
theorem Enc.snd (h : Enc f P) : Snd f := by
  refine ⟨by rw [h.n]; exact h.len, fun k hk hf => ?_⟩
  rw [h.n] at hk
  obtain ⟨a, v, hh⟩ := h.has_of hk hf
  obtain ⟨e1, e2, _, e4, _⟩ := h.some_ k a v hh
  have := v.sz_ge
  omega
theorem Enc.totF (h : Enc f P) : ∀ {k : Nat}, k ≤ P.L.length → Go.Proofs.Ytpnkmkenmpbekaa.totF f k = tot (P.L.take k)
  | 0, _ => rfl
  | k + 1, hk => by
    have ih := h.totF (k := k) (by omega)
    show Go.Proofs.Ytpnkmkenmpbekaa.totF f k + nZ f k = _
    have hs : P.L[k]? = some (P.L[k]'(by omega)) := List.getElem?_eq_getElem (by omega)
    rw [tot_take_succ hs, ih]
    congr 1
    cases hq : P.L[k]'(by omega) with
    | none => rw [hq] at hs; exact (h.free k hs).2
    | some q => rw [hq] at hs; exact (h.some_ k q.1 q.2 hs).2.1
theorem Enc.totF_all (h : Enc f P) : Go.Proofs.Ytpnkmkenmpbekaa.totF f P.L.length = tot P.L := by
  rw [h.totF (Nat.le_refl _), List.take_length]
/-- Two that say one page are the same bytes. -/
theorem Enc.one {g : Nat → UInt8} (h : Enc f P) (h' : Enc g P) : ∀ i, i < 512 → f i = g i := by
  intro i hi
  have byt : ∀ {a j : Nat}, j < 2 → le f a 2 = le g a 2 → f (a + j) = g (a + j) := fun {a j} hj e => by rw [← dg_le (f := f) hj, ← dg_le (f := g) hj, e]
  by_cases h1 : i < 2
  · have := byt (a := 0) h1 (show nS f = nS g by rw [h.n, h'.n]); rwa [Nat.zero_add] at this
  · by_cases h2 : i < 4
    · have := byt (a := 2) (j := i - 2) (by omega) (show nB f = nB g by rw [h.b, h'.b]); rwa [show 2 + (i - 2) = i by omega] at this
    · by_cases h3 : i < 4 + 4 * P.L.length
      · obtain ⟨k, j, rfl, hj⟩ : ∃ k j, i = 4 + 4 * k + j ∧ j < 4 := ⟨(i - 4) / 4, (i - 4) % 4, by omega, by omega⟩
        have hk : k < P.L.length := by omega
        have hA : nA f k = nA g k ∧ nZ f k = nZ g k := by
          cases hs : P.L[k]? with
          | none => have := List.getElem?_eq_none_iff.1 hs; omega
          | some o =>
            cases o with
            | none => have e1 := h.free k hs; have e2 := h'.free k hs; omega
            | some q => have e1 := h.some_ k q.1 q.2 hs; have e2 := h'.some_ k q.1 q.2 hs; omega
        by_cases hj2 : j < 2
        · exact byt (a := 4 + 4 * k) hj2 hA.1
        · have := byt (a := 6 + 4 * k) (j := j - 2) (by omega) hA.2
          rwa [show 6 + 4 * k + (j - 2) = 4 + 4 * k + j by omega] at this
      · by_cases h4 : ∃ k a v, P.has k a v ∧ a ≤ i ∧ i < a + v.sz
        · obtain ⟨k, a, v, hh, ha, hz⟩ := h4
          have e1 := (h.some_ k a v hh).2.2.2.2.2 (i - a) (by omega)
          have e2 := (h'.some_ k a v hh).2.2.2.2.2 (i - a) (by omega)
          rw [show a + (i - a) = i by omega] at e1 e2
          rw [e1, e2]
        · have hz : ∀ k a v, P.has k a v → i < a ∨ a + v.sz ≤ i := fun k a v hh => by
            by_cases e : i < a
            · exact .inl e
            · by_cases e2 : a + v.sz ≤ i
              · exact .inr e2
              · exact absurd ⟨k, a, v, hh, by omega, by omega⟩ h4
          rw [h.zero i (by omega) hi hz, h'.zero i (by omega) hi hz]
end
end Go.Proofs.Ytpnkmkenmpbekaa
