/-
  Pages, the plain side: versions are moved to the end; a version is added.
-/
import Derived.Test.YtpnkmkenmpbekaaPageO
namespace Go.Proofs.Ytpnkmkenmpbekaa

/-- The first slot that holds nothing, of so many. -/
def lowN (L : List Sl) : Nat → Nat
  | 0 => 0
  | n + 1 => if lowN L n < n then lowN L n else if noneAt L n then n else n + 1
theorem lowN_le (L : List Sl) : ∀ n, lowN L n ≤ n
  | 0 => Nat.le_refl _
  | n + 1 => by have := lowN_le L n; unfold lowN; split; omega; split <;> omega
theorem lowN_none (L : List Sl) : ∀ n, lowN L n < n → L[lowN L n]? = some none
  | 0, h => by omega
  | n + 1, h => by
    unfold lowN at h ⊢
    by_cases c : lowN L n < n
    · rw [if_pos c]; exact lowN_none L n c
    · rw [if_neg c] at h ⊢
      by_cases c2 : noneAt L n = true
      · rw [if_pos c2]; exact noneAt_iff.1 c2
      · rw [if_neg c2] at h; omega
def Pg.low (P : Pg) : Nat := lowN P.L P.L.length
/-- The slots behind an Insert. -/
def Pg.mm (P : Pg) : Nat := max P.L.length (P.low + 1)
/-- How many bytes of data one more version may have; -1: none. -/
def Pg.room (P : Pg) : Int := max (512 - (4 + 4 * (P.mm : Int)) - 30 - (tot P.L : Int)) (-1)
def mvL (l : List Sl) : List Sl := l.mapIdx fun k s => match s with
  | none => none
  | some (_, v) => some (512 - tot (l.take (k + 1)), v)
def mvP (P : Pg) : Pg := ⟨mvL P.L, 512 - tot P.L⟩
theorem mvL_length (l : List Sl) : (mvL l).length = l.length := by simp [mvL]
theorem mvL_none {l : List Sl} {k : Nat} : (mvL l)[k]? = some none ↔ l[k]? = some none := by
  unfold mvL
  rw [List.getElem?_mapIdx]
  cases l[k]? with
  | none => simp
  | some o => cases o <;> simp
theorem mvL_some {l : List Sl} {k a : Nat} {v : Ver} : (mvL l)[k]? = some (some (a, v)) ↔ a = 512 - tot (l.take (k + 1)) ∧ ∃ b, l[k]? = some (some (b, v)) := by
  unfold mvL
  rw [List.getElem?_mapIdx]
  cases l[k]? with
  | none => simp
  | some o =>
    cases o with
    | none => simp
    | some q =>
      obtain ⟨b, u⟩ := q
      constructor
      · intro h
        have h' : (512 - tot (l.take (k + 1)), u) = (a, v) := by simpa using h
        injection h' with h1 h2
        subst h2
        exact ⟨h1.symm, b, rfl⟩
      · rintro ⟨rfl, b', h⟩
        have h' : (b, u) = (b', v) := by simpa using h
        injection h' with _ h2
        subst h2
        rfl
theorem mvL_sz (l : List Sl) : (mvL l).map Sl.sz = l.map Sl.sz := by
  apply List.ext_getElem?
  intro k
  unfold mvL
  rw [List.getElem?_map, List.getElem?_map, List.getElem?_mapIdx]
  cases l[k]? with
  | none => rfl
  | some o => cases o <;> rfl
theorem mvL_tot (l : List Sl) : tot (mvL l) = tot l := by unfold tot; rw [mvL_sz]
theorem mvL_low (l : List Sl) : ∀ n, lowN (mvL l) n = lowN l n
  | 0 => rfl
  | n + 1 => by
    show (if lowN (mvL l) n < n then lowN (mvL l) n else if noneAt (mvL l) n then n else n + 1) = (if lowN l n < n then lowN l n else if noneAt l n then n else n + 1)
    rw [mvL_low l n]
    have e : noneAt (mvL l) n = noneAt l n := by rw [Bool.eq_iff_iff, noneAt_iff, noneAt_iff, mvL_none]
    rw [e]
theorem tot_take_le (l : List Sl) (k : Nat) : tot (l.take k) ≤ tot l := by
  have : tot l = tot (l.take k) + tot (l.drop k) := by rw [← tot_append, List.take_append_drop]
  omega
theorem tot_take_mono (l : List Sl) {j k : Nat} (h : j ≤ k) : tot (l.take j) ≤ tot (l.take k) := by
  have := tot_take_le (l.take k) j
  rwa [List.take_take, Nat.min_eq_left h] at this
section
variable {f f' : Nat → UInt8} {P : Pg}
theorem Enc.low (h : Enc f P) : ∀ {n : Nat}, n ≤ P.L.length → lowF f n = lowN P.L n
  | 0, _ => rfl
  | n + 1, hn => by
    show (if lowF f n < n then lowF f n else if Go.Proofs.Ytpnkmkenmpbekaa.fr f n then n else n + 1) = (if lowN P.L n < n then lowN P.L n else if noneAt P.L n then n else n + 1)
    rw [h.low (n := n) (by omega)]
    have e : Go.Proofs.Ytpnkmkenmpbekaa.fr f n = noneAt P.L n := by rw [Bool.eq_iff_iff, h.fr (by omega), noneAt_iff]
    rw [e]
theorem Enc.low_ (h : Enc f P) : lowF f (nS f) = P.low := by rw [h.n, h.low (Nat.le_refl _)]; rfl
theorem Enc.mm_ (h : Enc f P) : insM f = P.mm := by unfold insM Pg.mm; rw [h.low_, h.n]
theorem Enc.room_ (h : Enc f P) : roomF f = P.room := by
  have e : roomF f = max (512 - (4 + 4 * (insM f : Int)) - 30 - (Go.Proofs.Ytpnkmkenmpbekaa.totF f (nS f) : Int)) (-1) := rfl
  rw [e, h.mm_, h.n, h.totF_all]; rfl
/-- Behind so many moved versions. -/
structure MvI (f : Nat → UInt8) (P : Pg) (k : Nat) (G : Nat → UInt8) : Prop where
  top : ∀ i, i < 4 → G i = f i
  free : ∀ j, P.L[j]? = some none → nA G j = 0 ∧ nZ G j = 0
  hd : ∀ j a v, j < k → P.has j a v → nA G j = 512 - tot (P.L.take (j + 1)) ∧ nZ G j = v.sz
  rest : ∀ i, 4 + 4 * k ≤ i → i < 4 + 4 * P.L.length → G i = f i
  ver : ∀ j a v, j < k → P.has j a v → ∀ i, i < v.sz → G (512 - tot (P.L.take (j + 1)) + i) = v.bytes.getD i 0
  zero : ∀ i, 4 + 4 * P.L.length ≤ i → i + tot (P.L.take k) < 512 → G i = 0
theorem MvI.keep {k : Nat} {G : Nat → UInt8} (m : MvI f P k G) (hk : k < P.L.length) : nA G k = nA f k ∧ nZ G k = nZ f k :=
  ⟨nA_congr fun i h1 h2 => m.rest i (by omega) (by omega), nZ_congr fun i h1 h2 => m.rest i (by omega) (by omega)⟩
theorem Enc.mv0 (h : Enc f P) : MvI f P 0 (moveG f 0) := by
  have e : moveG f 0 = lay f P.start (zer (512 - P.start)) := by show lay f (nB f) (zer (512 - nB f)) = _; rw [h.b]
  have hdr := h.hdr
  have hlow : ∀ i, i < P.start → moveG f 0 i = f i := fun i hi => by rw [e, lay_out (.inl hi)]
  refine ⟨fun i hi => hlow i (by omega), fun j hj => ?_, fun j _ _ hj => by omega, fun i _ hi => hlow i (by omega), fun j _ _ hj => by omega, fun i h1 h2 => ?_⟩
  · have hjl := (List.getElem?_eq_some_iff.1 hj).1
    rw [nA_congr (f := f) fun i _ hi => hlow i (by omega), nZ_congr (f := f) fun i _ hi => hlow i (by omega)]
    exact h.free j hj
  · rw [List.take_zero, tot_nil] at h2
    by_cases c : i < P.start
    · rw [hlow i c]
      exact h.zero i h1 (by omega) fun k a v hh => .inl (by have := (h.some_ k a v hh).2.2.1; omega)
    · rw [e]
      obtain ⟨j, rfl⟩ : ∃ j, i = P.start + j := ⟨i - P.start, by omega⟩
      rw [lay_in (by rw [zer_length]; omega), zer_get]
theorem btl_getD (f : Nat → UInt8) (a : Nat) {n j : Nat} (h : j < n) : (btl f a n).getD j 0 = f (a + j) := by
  rw [List.getD_eq_getElem?_getD, btl_get f a h]; rfl
theorem Enc.mvS (h : Enc f P) {k : Nat} (hk : k < P.L.length) (m : MvI f P k (moveG f k)) : MvI f P (k + 1) (moveG f (k + 1)) := by
  have hstep : moveG f (k + 1) = if Go.Proofs.Ytpnkmkenmpbekaa.fr f k then moveG f k else spanF (lay (moveG f k) (512 - Go.Proofs.Ytpnkmkenmpbekaa.totF f (k + 1)) (btl f (nA f k) (nZ f k))) k (512 - Go.Proofs.Ytpnkmkenmpbekaa.totF f (k + 1)) (nZ f k) := rfl
  cases hfr : Go.Proofs.Ytpnkmkenmpbekaa.fr f k with
  | true =>
    have hn := (h.fr hk).1 hfr
    rw [hfr, if_pos rfl] at hstep
    rw [hstep]
    have ht : tot (P.L.take (k + 1)) = tot (P.L.take k) := tot_take_succ hn
    refine ⟨m.top, m.free, fun j a v hj hh => m.hd j a v ?_ hh, fun i h1 h2 => m.rest i (by omega) h2, fun j a v hj hh => m.ver j a v ?_ hh, fun i h1 h2 => m.zero i h1 (by omega)⟩
    all_goals
      by_cases e : j = k
      · subst e; unfold Pg.has at hh; rw [hn] at hh; cases hh
      · omega
  | false =>
    obtain ⟨a, v, hh⟩ := h.has_of hk hfr
    obtain ⟨e1, e2, e3, e4, e5, e6⟩ := h.some_ k a v hh
    rw [hfr, if_neg (by simp), h.totF (k := k + 1) (by omega), e1, e2] at hstep
    have ht : tot (P.L.take (k + 1)) = tot (P.L.take k) + v.sz := tot_take_succ hh
    have hle := tot_take_le P.L (k + 1)
    have hs := h.sum
    have hdr := h.hdr
    obtain ⟨c, hc⟩ : ∃ c, c = 512 - tot (P.L.take (k + 1)) := ⟨_, rfl⟩
    rw [← hc] at hstep
    rw [hstep]
    -- byte by byte
    have hlo : ∀ i, (i < 4 + 4 * k ∨ 8 + 4 * k ≤ i) → (i < c ∨ c + v.sz ≤ i) → spanF (lay (moveG f k) c (btl f a v.sz)) k c v.sz i = moveG f k i := fun i c1 c2 => by
      unfold spanF
      rw [lay_out (by rw [leb_length]; omega), lay_out (by rw [leb_length]; omega), lay_out (by rw [btl_length]; omega)]
    have hver : ∀ i, i < v.sz → spanF (lay (moveG f k) c (btl f a v.sz)) k c v.sz (c + i) = f (a + i) := fun i hi => by
      unfold spanF
      rw [lay_out (by rw [leb_length]; omega), lay_out (by rw [leb_length]; omega), lay_in (by rw [btl_length]; exact hi), btl_getD f a hi]
    have hA : nA (spanF (lay (moveG f k) c (btl f a v.sz)) k c v.sz) k = c := by
      show le (lay (lay _ _ _) _ _) (4 + 4 * k) 2 = c
      rw [le_other (.inl (by omega)), le_leb, Nat.mod_eq_of_lt (by omega)]
    have hZ : nZ (spanF (lay (moveG f k) c (btl f a v.sz)) k c v.sz) k = v.sz := by
      show le (lay (lay _ _ _) _ _) (6 + 4 * k) 2 = v.sz
      rw [le_leb, Nat.mod_eq_of_lt (by omega)]
    have hother : ∀ j, j ≠ k → j < P.L.length → nA (spanF (lay (moveG f k) c (btl f a v.sz)) k c v.sz) j = nA (moveG f k) j ∧ nZ (spanF (lay (moveG f k) c (btl f a v.sz)) k c v.sz) j = nZ (moveG f k) j := fun j hj hjl =>
      ⟨nA_congr fun i _ _ => hlo i (by omega) (.inl (by omega)), nZ_congr fun i _ _ => hlo i (by omega) (.inl (by omega))⟩
    refine ⟨fun i hi => ?_, fun j hj => ?_, fun j b u hj hju => ?_, fun i h1 h2 => ?_, fun j b u hj hju i hi => ?_, fun i h1 h2 => ?_⟩
    · rw [hlo i (by omega) (.inl (by omega))]; exact m.top i hi
    · have hjl := (List.getElem?_eq_some_iff.1 hj).1
      have hne : j ≠ k := fun e => by subst e; unfold Pg.has at hh; rw [hj] at hh; cases hh
      rw [(hother j hne hjl).1, (hother j hne hjl).2]
      exact m.free j hj
    · by_cases e : j = k
      · subst e
        obtain ⟨rfl, rfl⟩ := Pg.has_one hh hju
        rw [hA, hZ, hc]; exact ⟨rfl, rfl⟩
      · have hjl := Pg.has_lt hju
        rw [(hother j e hjl).1, (hother j e hjl).2]
        exact m.hd j b u (by omega) hju
    · rw [hlo i (by omega) (.inl (by omega))]; exact m.rest i (by omega) h2
    · by_cases e : j = k
      · subst e
        obtain ⟨rfl, rfl⟩ := Pg.has_one hh hju
        rw [← hc, hver i hi]
        exact e6 i hi
      · have hm := tot_take_mono P.L (show j + 1 ≤ k by omega)
        have hjs : tot (P.L.take (j + 1)) = tot (P.L.take j) + u.sz := tot_take_succ hju
        rw [hlo _ (by omega) (by omega)]
        exact m.ver j b u (by omega) hju i hi
    · rw [hlo i (by omega) (by omega)]
      exact m.zero i h1 (by omega)
theorem Enc.mvI (h : Enc f P) : ∀ k, k ≤ P.L.length → MvI f P k (moveG f k)
  | 0, _ => h.mv0
  | k + 1, hk => h.mvS (by omega) (h.mvI k (by omega))
theorem Enc.mov (h : Enc f P) : Mov f := by
  have hs := h.sum
  refine ⟨h.snd, by rw [h.b]; exact h.lim, by rw [h.n, h.totF_all]; omega, ?_, fun k hk => ?_⟩
  · exact nS_congr fun i hi => h.mv0.top i (by omega)
  · rw [h.n] at hk
    obtain ⟨a1, a2⟩ := (h.mvI k (by omega)).keep hk
    refine ⟨?_, a1, a2⟩
    unfold Go.Proofs.Ytpnkmkenmpbekaa.fr
    rw [a1, a2]
theorem Enc.moved (h : Enc f P) : Enc (moveF f) (mvP P) := by
  have m := h.mvI _ (Nat.le_refl P.L.length)
  have hs := h.sum
  have hdr := h.hdr
  have e : moveF f = lay (moveG f P.L.length) 2 (leb (512 - tot P.L) 2) := by unfold moveF; rw [h.n, h.totF_all]
  have ho : ∀ i, i < 2 ∨ 4 ≤ i → moveF f i = moveG f P.L.length i := fun i hi => by rw [e, lay_out (by rw [leb_length]; omega)]
  have hlen : (mvP P).L.length = P.L.length := mvL_length _
  have hst : (mvP P).start = 512 - tot P.L := rfl
  have hA : ∀ j, nA (moveF f) j = nA (moveG f P.L.length) j ∧ nZ (moveF f) j = nZ (moveG f P.L.length) j := fun j => ⟨nA_congr fun i _ _ => ho i (.inr (by omega)), nZ_congr fun i _ _ => ho i (.inr (by omega))⟩
  refine ⟨?_, ?_, by rw [hlen, hst]; omega, by rw [hst]; omega, fun j hj => ?_, fun j a v hj => ?_, fun j k a b v u hne hj hk => ?_, fun i h1 h2 h3 => ?_, ?_⟩
  · rw [hlen, ← h.n]; exact nS_congr fun i hi => (ho i (.inl hi)).trans (m.top i (by omega))
  · rw [hst, e]
    show le _ 2 2 = _
    rw [le_leb, Nat.mod_eq_of_lt (by omega)]
  · have hj' := mvL_none.1 hj
    rw [(hA j).1, (hA j).2]; exact m.free j hj'
  · obtain ⟨rfl, b, hb⟩ := mvL_some.1 hj
    have hjl := Pg.has_lt hb
    obtain ⟨_, _, _, _, f5, _⟩ := h.some_ j b v hb
    have hts : tot (P.L.take (j + 1)) = tot (P.L.take j) + v.sz := tot_take_succ hb
    have hle := tot_take_le P.L (j + 1)
    rw [(hA j).1, (hA j).2, (m.hd j b v hjl hb).1, (m.hd j b v hjl hb).2, hst]
    refine ⟨rfl, rfl, by omega, by omega, f5, fun i hi => ?_⟩
    rw [ho _ (.inr (by omega))]
    exact m.ver j b v hjl hb i hi
  · obtain ⟨rfl, b', hb⟩ := mvL_some.1 hj
    obtain ⟨rfl, c', hc⟩ := mvL_some.1 hk
    have t1 : tot (P.L.take (j + 1)) = tot (P.L.take j) + v.sz := tot_take_succ hb
    have t2 : tot (P.L.take (k + 1)) = tot (P.L.take k) + u.sz := tot_take_succ hc
    have l1 := tot_take_le P.L (j + 1)
    have l2 := tot_take_le P.L (k + 1)
    rcases Nat.lt_or_ge j k with c | c
    · have := tot_take_mono P.L (show j + 1 ≤ k by omega); omega
    · have := tot_take_mono P.L (show k + 1 ≤ j by omega); omega
  · rw [hlen] at h1
    rw [ho i (.inr (by omega))]
    by_cases c : i + tot P.L < 512
    · exact m.zero i h1 (by rw [List.take_length]; exact c)
    · -- what lies behind the beginning is some version's
      exfalso
      have key : ∀ k, k ≤ P.L.length → 512 ≤ i + tot (P.L.take k) → False := by
        intro k
        induction k with
        | zero => intro _ hk; rw [List.take_zero, tot_nil] at hk; omega
        | succ k ih =>
          intro hk hki
          by_cases c2 : 512 ≤ i + tot (P.L.take k)
          · exact ih (by omega) c2
          · have hsk : P.L[k]? = some (P.L[k]'(by omega)) := List.getElem?_eq_getElem (by omega)
            have ht := tot_take_succ hsk
            cases hq : P.L[k]'(by omega) with
            | none =>
              rw [hq] at ht
              have : Sl.sz none = 0 := rfl
              omega
            | some q =>
              obtain ⟨b, u⟩ := q
              rw [hq] at hsk ht
              have hz : Sl.sz (some (b, u)) = u.sz := rfl
              have := h3 k _ u (mvL_some.2 ⟨rfl, b, hsk⟩)
              have hle := tot_take_le P.L (k + 1)
              omega
      exact key _ (Nat.le_refl _) (by rw [List.take_length]; omega)
  · show tot (mvL P.L) + (512 - tot P.L) ≤ 512
    rw [mvL_tot]; omega
/-- A version is added, ahead of all others. -/
theorem Enc.add (h : Enc f P) {slot a m : Nat} {v : Ver} {L' : List Sl} (hm : L'.length = m) (hslot : L'[slot]? = some (some (a, v))) (hoth : ∀ j, j ≠ slot → L'[j]? = P.L[j]?) (hold : ∀ b u, ¬ P.has slot b u)
    (hml : P.L.length ≤ m) (htot : tot L' = tot P.L + v.sz) (hroom : 4 + 4 * m ≤ a) (ha : a + v.sz = P.start) (hok : v.ok) :
    Enc (lay (spanF (lay (lay f 2 (leb a 2)) 0 (leb m 2)) slot a v.sz) a v.bytes) ⟨L', a⟩ := by
  have hsl : slot < m := by rw [← hm]; exact (List.getElem?_eq_some_iff.1 hslot).1
  have hlim := h.lim
  have hs := h.sum
  have hvl := v.bytes_length
  have hin : ∀ i, i < v.sz → lay (spanF (lay (lay f 2 (leb a 2)) 0 (leb m 2)) slot a v.sz) a v.bytes (a + i) = v.bytes.getD i 0 := fun i hi => lay_in (by rw [hvl]; exact hi)
  have ho : ∀ i, 4 ≤ i → (i < 4 + 4 * slot ∨ 8 + 4 * slot ≤ i) → (i < a ∨ a + v.sz ≤ i) → lay (spanF (lay (lay f 2 (leb a 2)) 0 (leb m 2)) slot a v.sz) a v.bytes i = f i := fun i c0 c1 c2 => by
    rw [lay_out (by rw [hvl]; omega)]
    unfold spanF
    rw [lay_out (by rw [leb_length]; omega), lay_out (by rw [leb_length]; omega), lay_out (by rw [leb_length]; omega), lay_out (by rw [leb_length]; omega)]
  have hn : nS (lay (spanF (lay (lay f 2 (leb a 2)) 0 (leb m 2)) slot a v.sz) a v.bytes) = m := by
    show le (lay (lay (lay (lay _ _ _) _ _) _ _) _ _) 0 2 = m
    rw [le_other (.inl (by omega)), le_other (.inl (by omega)), le_other (.inl (by omega)), le_leb, Nat.mod_eq_of_lt (by omega)]
  have hb : nB (lay (spanF (lay (lay f 2 (leb a 2)) 0 (leb m 2)) slot a v.sz) a v.bytes) = a := by
    show le (lay (lay (lay (lay (lay _ _ _) _ _) _ _) _ _) _ _) 2 2 = a
    rw [le_other (.inl (by omega)), le_other (.inl (by omega)), le_other (.inl (by omega)), le_other (.inr (by rw [leb_length]; omega)), le_leb, Nat.mod_eq_of_lt (by omega)]
  have hA : nA (lay (spanF (lay (lay f 2 (leb a 2)) 0 (leb m 2)) slot a v.sz) a v.bytes) slot = a := by
    show le (lay (lay (lay _ _ _) _ _) _ _) (4 + 4 * slot) 2 = a
    rw [le_other (.inl (by omega)), le_other (.inl (by omega)), le_leb, Nat.mod_eq_of_lt (by omega)]
  have hZ : nZ (lay (spanF (lay (lay f 2 (leb a 2)) 0 (leb m 2)) slot a v.sz) a v.bytes) slot = v.sz := by
    show le (lay (lay _ _ _) _ _) (6 + 4 * slot) 2 = v.sz
    rw [le_other (.inl (by omega)), le_leb, Nat.mod_eq_of_lt (by omega)]
  generalize lay (spanF (lay (lay f 2 (leb a 2)) 0 (leb m 2)) slot a v.sz) a v.bytes = F at *
  have hoA : ∀ j, j ≠ slot → j < m → nA F j = nA f j ∧ nZ F j = nZ f j := fun j hj hjm =>
    ⟨nA_congr fun i _ _ => ho i (by omega) (by omega) (by omega), nZ_congr fun i _ _ => ho i (by omega) (by omega) (by omega)⟩
  have hto : ∀ {j b u}, j ≠ slot → (Pg.mk L' a).has j b u → P.has j b u := fun hj hh => by
    unfold Pg.has at hh ⊢
    rw [← hoth _ hj]; exact hh
  have hat : ∀ {b u}, (Pg.mk L' a).has slot b u → b = a ∧ u = v := fun hh => by
    unfold Pg.has at hh
    have hh' : L'[slot]? = _ := hh
    rw [hslot] at hh'
    simp at hh'
    exact ⟨hh'.1.symm, hh'.2.symm⟩
  refine ⟨by rw [hn, hm], hb, by rw [hm]; exact hroom, by show a ≤ 512; omega, fun j hj => ?_, fun j b u hj => ?_, fun i j b c u y hne hi hj => ?_, fun i h1 h2 h3 => ?_, ?_⟩
  · have hne : j ≠ slot := fun e => by subst e; rw [hslot] at hj; cases hj
    have hjl : j < m := by rw [← hm]; exact (List.getElem?_eq_some_iff.1 hj).1
    rw [(hoA j hne hjl).1, (hoA j hne hjl).2]
    exact h.free j (by rw [← hoth j hne]; exact hj)
  · by_cases e : j = slot
    · subst e
      obtain ⟨rfl, rfl⟩ := hat hj
      refine ⟨hA, hZ, Nat.le_refl _, by omega, hok, hin⟩
    · have hj' := hto e hj
      have hjl : j < m := Nat.lt_of_lt_of_le (Pg.has_lt hj') hml
      obtain ⟨f1, f2, f3, f4, f5, f6⟩ := h.some_ j b u hj'
      rw [(hoA j e hjl).1, (hoA j e hjl).2]
      refine ⟨f1, f2, by show a ≤ b; omega, f4, f5, fun i hi => ?_⟩
      rw [ho _ (by omega) (by omega) (.inr (by omega))]
      exact f6 i hi
  · by_cases ei : i = slot
    · subst ei
      obtain ⟨rfl, rfl⟩ := hat hi
      have hj' := hto (fun e => hne e.symm) hj
      have := (h.some_ j c y hj').2.2.1
      exact .inl (by omega)
    · have hi' := hto ei hi
      by_cases ej : j = slot
      · subst ej
        obtain ⟨rfl, rfl⟩ := hat hj
        have := (h.some_ i b u hi').2.2.1
        exact .inr (by omega)
      · exact h.disj i j b c u y hne hi' (hto ej hj)
  · rw [hm] at h1
    have hv := h3 slot a v hslot
    rw [ho i (by omega) (.inr (by omega)) hv]
    refine h.zero i (by omega) h2 fun k b u hk => ?_
    by_cases e : k = slot
    · subst e; exact absurd hk (hold b u)
    · exact h3 k b u (by unfold Pg.has at hk ⊢; show L'[k]? = _; rw [hoth k e]; exact hk)
  · show tot L' + a ≤ 512
    omega
end
/-- Does an Insert move the others? -/
def insMv (P : Pg) (v : Ver) : Prop := (P.start : Int) - (4 + 4 * (P.mm : Int)) < (v.sz : Int)
instance (P : Pg) (v : Ver) : Decidable (insMv P v) := by unfold insMv; infer_instance
def ins0P (P : Pg) (v : Ver) : Pg := if insMv P v then mvP P else P
/-- An Insert. -/
def insP (P : Pg) (v : Ver) : Pg :=
  ⟨if P.low < P.L.length then (ins0P P v).L.set P.low (some ((ins0P P v).start - v.sz, v)) else (ins0P P v).L ++ [some ((ins0P P v).start - v.sz, v)], (ins0P P v).start - v.sz⟩
section
variable {f : Nat → UInt8} {P : Pg}
theorem ins0P_len (P : Pg) (v : Ver) : (ins0P P v).L.length = P.L.length := by unfold ins0P; split; exact mvL_length _; rfl
theorem ins0P_tot (P : Pg) (v : Ver) : tot (ins0P P v).L = tot P.L := by unfold ins0P; split; exact mvL_tot _; rfl
theorem ins0P_none (P : Pg) (v : Ver) (k : Nat) : (ins0P P v).L[k]? = some none ↔ P.L[k]? = some none := by unfold ins0P; split; exact mvL_none; exact Iff.rfl
theorem insP_len (P : Pg) (v : Ver) : (insP P v).L.length = P.mm := by
  have := lowN_le P.L P.L.length
  have e : P.low ≤ P.L.length := this
  unfold insP Pg.mm
  by_cases c : P.low < P.L.length
  · simp only [if_pos c, List.length_set, ins0P_len]; omega
  · simp only [if_neg c, List.length_append, ins0P_len, List.length_cons, List.length_nil]; omega
theorem Enc.ins0 (h : Enc f P) (v : Ver) : Enc (Go.Proofs.Ytpnkmkenmpbekaa.ins0 f v.d.length) (ins0P P v) := by
  have hi : insMoves f v.d.length ↔ insMv P v := by
    unfold insMoves insMv
    rw [h.b, h.mm_]
    have : (v.sz : Int) = 30 + (v.d.length : Int) := by unfold Ver.sz; omega
    rw [this]
  unfold Go.Proofs.Ytpnkmkenmpbekaa.ins0 ins0P
  by_cases c : insMv P v
  · rw [if_pos c, if_pos (hi.2 c)]; exact h.moved
  · rw [if_neg c, if_neg (fun e => c (hi.1 e))]; exact h
theorem Enc.ins_room (h : Enc f P) {v : Ver} (hr : (v.d.length : Int) ≤ P.room) : 4 + 4 * P.mm + v.sz ≤ (ins0P P v).start := by
  have hr' : (v.d.length : Int) ≤ 512 - (4 + 4 * (P.mm : Int)) - 30 - (tot P.L : Int) := by unfold Pg.room at hr; omega
  have hs := h.sum
  have hz : v.sz = 30 + v.d.length := rfl
  unfold ins0P
  by_cases c : insMv P v
  · rw [if_pos c]
    show _ ≤ 512 - tot P.L
    omega
  · rw [if_neg c]
    unfold insMv at c
    omega
theorem Enc.ins (h : Enc f P) {v : Ver} (hok : v.ok) (hr : (v.d.length : Int) ≤ P.room) : Enc (insF f v.r v.x v.m v.p v.s v.d) (insP P v) := by
  have h0 := h.ins0 v
  have hroom := h.ins_room hr
  have hlow : P.low ≤ P.L.length := lowN_le P.L P.L.length
  have hF : insF f v.r v.x v.m v.p v.s v.d = lay (spanF (lay (lay (Go.Proofs.Ytpnkmkenmpbekaa.ins0 f v.d.length) 2 (leb ((ins0P P v).start - v.sz) 2)) 0 (leb P.mm 2)) P.low ((ins0P P v).start - v.sz) v.sz) ((ins0P P v).start - v.sz) v.bytes := by
    unfold insF insA
    rw [h0.b, h.mm_, h.low_]; rfl
  rw [hF]
  have hL := insP_len P v
  have hl0 := ins0P_len P v
  refine h0.add (L' := (insP P v).L) hL ?_ (fun j hj => ?_) (fun b u hb => ?_) (by rw [hl0]; unfold Pg.mm; omega) ?_ (by omega) (by omega) hok
  · unfold insP
    by_cases c : P.low < P.L.length
    · simp only [if_pos c]; rw [List.getElem?_set_self (by rw [hl0]; exact c)]
    · simp only [if_neg c]; rw [List.getElem?_append_right (by rw [hl0]; omega), hl0, show P.low - P.L.length = 0 by omega]; rfl
  · unfold insP
    by_cases c : P.low < P.L.length
    · simp only [if_pos c]; rw [List.getElem?_set_ne (fun e => hj e.symm)]
    · simp only [if_neg c]
      by_cases c2 : j < P.L.length
      · rw [List.getElem?_append_left (by rw [hl0]; exact c2)]
      · rw [List.getElem?_eq_none (by simp [hl0]; omega), List.getElem?_eq_none (by rw [hl0]; omega)]
  · by_cases c : P.low < P.L.length
    · have := (ins0P_none P v P.low).2 (lowN_none P.L _ c)
      unfold Pg.has at hb
      rw [this] at hb; cases hb
    · have := Pg.has_lt hb
      rw [hl0] at this
      exact c this
  · unfold insP
    by_cases c : P.low < P.L.length
    · simp only [if_pos c]
      have := tot_set (t := (some ((ins0P P v).start - v.sz, v) : Sl)) ((ins0P_none P v P.low).2 (lowN_none P.L _ c))
      have e0 : Sl.sz none = 0 := rfl
      have e1 : Sl.sz (some ((ins0P P v).start - v.sz, v)) = v.sz := rfl
      omega
    · simp only [if_neg c]
      rw [tot_append]; rfl
end
end Go.Proofs.Ytpnkmkenmpbekaa
