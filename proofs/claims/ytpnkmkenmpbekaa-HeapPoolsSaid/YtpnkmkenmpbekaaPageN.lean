/-
  Pages, the plain side: a new page; a stamp; a version that goes.
-/
import Derived.Test.YtpnkmkenmpbekaaPageM
namespace Go.Proofs.Ytpnkmkenmpbekaa

theorem enc_new : Enc (lay (fun _ => 0) 2 (leb 512 2)) ⟨[], 512⟩ := by
  refine ⟨?_, ?_, by decide, by decide, fun k h => by simp at h, fun k a v h => by simp [Pg.has] at h, fun k k' a a' v v' _ h => by simp [Pg.has] at h, fun i h1 h2 _ => ?_, by decide⟩
  · show le _ 0 2 = 0
    rw [le_other (.inl (by decide))]
    exact le_zero fun _ _ => rfl
  · show le _ 2 2 = 512
    rw [le_leb]
  · rw [lay_out (.inr (by rw [leb_length]; exact h1))]
section
variable {f f' : Nat → UInt8} {P : Pg}
theorem nS_congr (h : ∀ i, i < 2 → f' i = f i) : nS f' = nS f := le_congr fun j hj => by rw [Nat.zero_add]; exact h j hj
theorem nB_congr (h : ∀ i, 2 ≤ i → i < 4 → f' i = f i) : nB f' = nB f := le_congr fun j hj => h (2 + j) (by omega) (by omega)
theorem nA_congr {k : Nat} (h : ∀ i, 4 + 4 * k ≤ i → i < 6 + 4 * k → f' i = f i) : nA f' k = nA f k := le_congr fun j hj => h _ (by omega) (by omega)
theorem nZ_congr {k : Nat} (h : ∀ i, 6 + 4 * k ≤ i → i < 8 + 4 * k → f' i = f i) : nZ f' k = nZ f k := le_congr fun j hj => h _ (by omega) (by omega)
theorem Pg.has_set {k k' a' : Nat} {v' : Ver} {s : Sl} (hk : k < P.L.length) : (Pg.mk (P.L.set k s) P.start).has k' a' v' ↔ (k' = k ∧ s = some (a', v')) ∨ (k' ≠ k ∧ P.has k' a' v') := by
  unfold Pg.has
  show (P.L.set k s)[k']? = _ ↔ _
  by_cases e : k' = k
  · subst e
    rw [List.getElem?_set_self hk]
    simp
  · rw [List.getElem?_set_ne (fun h => e h.symm)]
    simp [e]
/-- A version's bytes are written anew, where they lie. -/
theorem Enc.put (h : Enc f P) {k a : Nat} {v v' : Ver} (hh : P.has k a v) (hz : v'.sz = v.sz) (hok : v'.ok) (ho : ∀ i, i < a ∨ a + v.sz ≤ i → f' i = f i) (hi : ∀ j, j < v.sz → f' (a + j) = v'.bytes.getD j 0) :
    Enc f' ⟨P.L.set k (some (a, v')), P.start⟩ := by
  obtain ⟨e1, e2, e3, e4, _, e6⟩ := h.some_ k a v hh
  have hk := Pg.has_lt hh
  have hdr := h.hdr
  have hlen : (P.L.set k (some (a, v'))).length = P.L.length := List.length_set
  refine ⟨?_, ?_, by rw [hlen]; exact hdr, h.lim, fun j hj => ?_, fun j b u hj => ?_, fun i j b c u y hne hi' hj' => ?_, fun i h1 h2 h3 => ?_, ?_⟩
  · rw [hlen, ← h.n]; exact nS_congr fun i hi => ho i (.inl (by omega))
  · rw [← h.b]; exact nB_congr fun i _ hi => ho i (.inl (by omega))
  · have hj' : P.L[j]? = some none := by
      by_cases e : j = k
      · subst e; simp [hk] at hj
      · rw [List.getElem?_set_ne (fun e' => e e'.symm)] at hj; exact hj
    have hjl := (List.getElem?_eq_some_iff.1 hj').1
    rw [nA_congr (f := f) fun i _ hi => ho i (.inl (by omega)), nZ_congr (f := f) fun i _ hi => ho i (.inl (by omega))]
    exact h.free j hj'
  · rcases (Pg.has_set hk).1 hj with ⟨rfl, e⟩ | ⟨hne, hj'⟩
    · obtain ⟨rfl, rfl⟩ : a = b ∧ v' = u := by simpa using e
      rw [nA_congr (f := f) fun i _ hi => ho i (.inl (by omega)), nZ_congr (f := f) fun i _ hi => ho i (.inl (by omega)), hz]
      exact ⟨e1, e2, e3, e4, hok, hi⟩
    · obtain ⟨f1, f2, f3, f4, f5, f6⟩ := h.some_ j b u hj'
      have hjl := Pg.has_lt hj'
      rw [nA_congr (f := f) fun i _ hi => ho i (.inl (by omega)), nZ_congr (f := f) fun i _ hi => ho i (.inl (by omega))]
      refine ⟨f1, f2, f3, f4, f5, fun i hi => ?_⟩
      have := h.disj k j a b v u (fun e => hne e.symm) hh hj'
      rw [ho _ (by omega)]
      exact f6 i hi
  · rcases (Pg.has_set hk).1 hi' with ⟨rfl, e⟩ | ⟨hni, hi''⟩
    · obtain ⟨rfl, rfl⟩ : a = b ∧ v' = u := by simpa using e
      rcases (Pg.has_set hk).1 hj' with ⟨rfl, _⟩ | ⟨hnj, hj''⟩
      · exact absurd rfl hne
      · rw [hz]; exact h.disj i j a c v y hne hh hj''
    · rcases (Pg.has_set hk).1 hj' with ⟨rfl, e⟩ | ⟨hnj, hj''⟩
      · obtain ⟨rfl, rfl⟩ : a = c ∧ v' = y := by simpa using e
        rw [hz]; exact h.disj i j b a u v hne hi'' hh
      · exact h.disj i j b c u y hne hi'' hj''
  · rw [hlen] at h1
    have hk3 := h3 k a v' ((Pg.has_set hk).2 (.inl ⟨rfl, rfl⟩))
    rw [hz] at hk3
    rw [ho i hk3]
    refine h.zero i h1 h2 fun j b u hj => ?_
    by_cases e : j = k
    · subst e
      obtain ⟨rfl, rfl⟩ := Pg.has_one hh hj
      exact hk3
    · exact h3 j b u ((Pg.has_set hk).2 (.inr ⟨e, hj⟩))
  · have := tot_set (t := (some (a, v') : Sl)) hh
    have e1 : Sl.sz (some (a, v)) = v.sz := rfl
    have e2 : Sl.sz (some (a, v')) = v'.sz := rfl
    have := h.sum
    show tot (P.L.set k (some (a, v'))) + P.start ≤ 512
    omega
theorem pk_pre {r x m : Nat} {p s : Int} {d : List UInt8} {j : Nat} (h : j < 16) : (pk r x m p s d).getD j 0 = (leb r 8 ++ leb x 8).getD j 0 := by
  unfold pk
  rw [List.append_assoc, List.getD_eq_getElem?_getD, List.getElem?_append_left (by simp [leb_length]; omega), List.getD_eq_getElem?_getD]
theorem pk_mid {r x m : Nat} {p s : Int} {d : List UInt8} {j : Nat} (h : j < 14) : (pk r x m p s d).getD (16 + j) 0 = (pkS m p s).getD j 0 := by
  unfold pk
  rw [List.append_assoc, List.getD_eq_getElem?_getD, List.getElem?_append_right (by simp [leb_length]), List.getElem?_append_left (by simp [leb_length, pkS_length]; omega), List.getD_eq_getElem?_getD]
  congr 2
  simp [leb_length]
theorem pk_end {r x m : Nat} {p s : Int} {d : List UInt8} {j : Nat} : (pk r x m p s d).getD (30 + j) 0 = d.getD j 0 := by
  unfold pk
  rw [List.getD_eq_getElem?_getD, List.getElem?_append_right (by simp [leb_length, pkS_length]), List.getD_eq_getElem?_getD]
  congr 2
  simp [leb_length, pkS_length]
/-- A stamp. -/
theorem Enc.stamp (h : Enc f P) {k a : Nat} {v : Ver} (hh : P.has k a v) {m : Nat} {p s : Int} (hok : (Ver.mk v.r v.x m p s v.d).ok) :
    Enc (lay f (a + 16) (pkS m p s)) ⟨P.L.set k (some (a, ⟨v.r, v.x, m, p, s, v.d⟩)), P.start⟩ := by
  obtain ⟨_, _, _, _, _, e6⟩ := h.some_ k a v hh
  have hz : v.sz = 30 + v.d.length := rfl
  refine h.put hh rfl hok (fun i hi => lay_out (by rw [pkS_length]; omega)) fun j hj => ?_
  by_cases h1 : j < 16
  · rw [lay_out (.inl (by omega)), e6 j hj]
    show (pk _ _ _ _ _ _).getD j 0 = (pk _ _ _ _ _ _).getD j 0
    rw [pk_pre h1, pk_pre h1]
  · by_cases h2 : j < 30
    · obtain ⟨i, rfl⟩ : ∃ i, j = 16 + i := ⟨j - 16, by omega⟩
      rw [← Nat.add_assoc, lay_in (by rw [pkS_length]; omega)]
      exact (pk_mid (by omega)).symm
    · obtain ⟨i, rfl⟩ : ∃ i, j = 30 + i := ⟨j - 30, by omega⟩
      rw [lay_out (.inr (by rw [pkS_length]; omega)), e6 _ hj]
      exact pk_end.trans pk_end.symm
end
end Go.Proofs.Ytpnkmkenmpbekaa
