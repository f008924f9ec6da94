/-
  Package heap: Drop; and the plain side of versions of one size that come and go.
-/
import Derived.Test.YtpnkmkenmpbekaaHeapV
namespace Go.Proofs.Ytpnkmkenmpbekaa
open Go.RowKit
set_option linter.unusedVariables false

set_option maxRecDepth 100000 in
set_option maxHeartbeats 1000000 in
theorem hdrop_none (w : World) (h p g : Nat) (v rv : Value) (gs : List Nat) (rs : List Int) (H : Hm w h p g v rv gs [] rs) :
    Calls Try.prog 50 #[.pointer (some ⟨h, 0, none⟩)] w fun e w' => e = .returned (.int .i64 0) ∧ w' = w := by
  have hp := Lib.hid (hpages_any H)
  clear H
  go_enter Try.func50, Try.ntmps50
  go_wp2_with (go_at_call 59; (with_reducible refine (hp.out).mono ?_); rintro e w1 ⟨rfl, hw1⟩; have hw := hw1.symm; subst hw)
  go_ret
  exact ⟨rfl, rfl⟩
set_option maxRecDepth 100000 in
set_option maxHeartbeats 1000000 in
theorem hdrop_some (w : World) (h p g : Nat) (v rv : Value) (gs : List Nat) (Ps : List Pg) (rs : List Int) (n : Nat) (H : Hm w h p g v rv gs Ps rs) (hp : Pool w p n) (h256 : Ps.length + n ≤ 256) (h0 : 0 < Ps.length) :
    Calls Try.prog 50 #[.pointer (some ⟨h, 0, none⟩)] w fun e w' => e = .returned (.int .i64 (Ps.length : Int)) ∧ ∃ F', Heap w' h p F' [] ∧ Pool w' p (n + Ps.length) ∧ Fr (fun k => Fp h g v rv gs k ∨ k = p) w w' ∧ ∀ k, F' k → Fp h g v rv gs k ∨ w.heap.size ≤ k := by
  have hpg := Lib.hid (hpages_any H)
  have HH := Lib.hid H
  have c0 := H.box.cell 0
  have pc := hp.cell 0
  have pf := hp.frozen 0
  have hpne := H.nep hp
  have hne0 : ((Ps.length : Int) == 0) = false := beq_eq_false_iff_ne.2 (by omega)
  have hwr : IntKind.i64.wrap ((n : Int) + (Ps.length : Int)) = (n : Int) + (Ps.length : Int) := IntWalk.i64_in _ (by omega)
  have s1 : Fr (fun k => k = p) w (w.setCell ⟨p, 0, none⟩ (.int .i64 ((n : Int) + (Ps.length : Int)))) := (Fr.refl (fun k => k = p) _).set (.inl rfl) 0 _
  have p1 : Pool (w.setCell ⟨p, 0, none⟩ (.int .i64 ((n : Int) + (Ps.length : Int)))) p (n + Ps.length) := (by have := hp.set 0 (.int .i64 ((n : Int) + (Ps.length : Int))); unfold Pool; rw [Int.natCast_add]; exact this)
  have H1 := H.fr s1 fun k hk e => hpne (by rw [← e]; exact hk)
  clear H hp hpne
  go_enter Try.func50, Try.ntmps50
  go_wp2_with (go_at_call 59; (with_reducible refine (hpg.out).mono ?_); rintro e w1 ⟨rfl, hw1⟩; have hw := hw1.symm; subst hw)
  generalize w.setCell ⟨p, 0, none⟩ (.int .i64 ((n : Int) + (Ps.length : Int))) = w1 at *
  refine (newroom_any w1 0).mono ?_
  rintro e w2 ⟨rfl, hr, hb, hz⟩
  have HZ := Lib.hid hz
  clear hz c0 pc pf
  have H2 := H1.below hb
  have p2 := p1.below hb
  have b1 := H2.box.cell 1
  have b2 := H2.box.cell 2
  have f1 := H2.box.frozen 1
  have f2 := H2.box.frozen 2
  go_wp2
  have bz := (H2.box.set 1 (.slice none 0 0)).set 2 (.pointer (some ⟨w1.heap.size, 0, none⟩))
  have sx : Fr (fun k => k = h) w2 ((w2.setCell ⟨h, 1, none⟩ (.slice none 0 0)).setCell ⟨h, 2, none⟩ (.pointer (some ⟨w1.heap.size, 0, none⟩))) := ((Fr.refl (fun k => k = h) _).set (.inl rfl) 1 _).set (.inl rfl) 2 _
  go_ret
  refine ⟨rfl, Fp h w1.heap.size (.slice none 0 0) (.slice none 0 0) [], ⟨w1.heap.size, .slice none 0 0, .slice none 0 0, [], ⟨bz, World.ownsRow_nil _ _ _ _, sx.room hr.zero (hr.ty.ne H2.box.ty (by decide)) (fun k e => by cases e), rfl, fun i a P h => by simp at h, List.Pairwise.nil⟩, rfl⟩, p2.fr sx (p2.ty.ne H2.box.ty (by decide)), ((s1.mono (fun k e => .inr e)).trans (Fr.of_below (S := fun _ => False) hb) (fun k e => e.elim)).trans sx (fun k e => .inl (.inl (.inl e))), ?_⟩
  rintro k (rfl | rfl | hk | hk | hk)
  · exact .inl (.inl rfl)
  · exact .inr s1.size
  · cases hk
  · cases hk
  · simp at hk
theorem Hs.drop {w0 w : World} {h p n : Nat} {F : Nat → Prop} {Ps : List Pg} (H : Hs w0 w h p F Ps n) (h256 : Ps.length + n ≤ 256) :
    Calls Try.prog 50 #[.pointer (some ⟨h, 0, none⟩)] w fun e w' => e = .returned (.int .i64 (Ps.length : Int)) ∧ ∃ F', Hs w0 w' h p F' [] (n + Ps.length) ∧ Fr (fun k => F k ∨ k = p) w w' := by
  obtain ⟨g, v, rv, gs, Hm, rfl⟩ := H.heap
  rcases Nat.eq_zero_or_pos Ps.length with h0 | h0
  · obtain rfl := List.eq_nil_of_length_eq_zero h0
    refine (hdrop_none w h p g v rv gs _ Hm).mono ?_
    rintro e w' ⟨rfl, rfl⟩
    exact ⟨rfl, _, H, Fr.refl _ _⟩
  · refine (hdrop_some w h p g v rv gs Ps _ n Hm H.pool h256 h0).mono ?_
    rintro e w' ⟨rfl, F', h1, h2, h3, h4⟩
    exact ⟨rfl, F', H.go h1 h2 h3 h4, h3⟩
/-! ### what is freed leaves room -/
theorem lowN_le_of {L : List Sl} {q : Nat} (hq : L[q]? = some none) : ∀ {n : Nat}, q < n → lowN L n ≤ q
  | 0, h => by omega
  | n + 1, h => by
    unfold lowN
    by_cases c : q < n
    · have := lowN_le_of hq c
      rw [if_pos (by omega)]; exact this
    · have e : q = n := by omega
      subst e
      by_cases c2 : lowN L q < q
      · rw [if_pos c2]; omega
      · rw [if_neg c2, if_pos (noneAt_iff.2 hq)]; exact Nat.le_refl _
theorem free_room {P : Pg} {k : Nat} {v : Ver} (hlim : 4 + 4 * P.L.length + tot P.L ≤ 512) (h : getN P k = some v) : (v.d.length : Int) ≤ (freeP P k).room := by
  obtain ⟨a, ha⟩ := getL_has.1 h
  have hk := (List.getElem?_eq_some_iff.1 ha).1
  have ht := tot_set (t := (none : Sl)) ha
  have hL : (freeP P k).L = (P.L.set k none).take (trimN (P.L.set k none) (P.L.set k none).length) := rfl
  have ht2 : tot (freeP P k).L ≤ tot (P.L.set k none) := by rw [hL]; exact tot_take_le _ _
  have hlen : (freeP P k).L.length ≤ P.L.length := by rw [hL, List.length_take, List.length_set]; omega
  have hlow : (freeP P k).low ≤ k := by
    unfold Pg.low
    by_cases hk2 : k < (freeP P k).L.length
    · refine lowN_le_of ?_ hk2
      rw [hL] at hk2 ⊢
      rw [List.getElem?_take_of_lt (by rw [List.length_take] at hk2; omega)]
      exact List.getElem?_set_self hk
    · exact Nat.le_trans (lowN_le _ _) (by omega)
  have e0 : Sl.sz none = 0 := rfl
  have e1 : Sl.sz (some (a, v)) = 30 + v.d.length := rfl
  unfold Pg.room Pg.mm
  omega
theorem Heap.lim {w : World} {h p i : Nat} {F : Nat → Prop} {Ps : List Pg} {P : Pg} (H : Heap w h p F Ps) (hP : Ps[i]? = some P) : 4 + 4 * P.L.length + tot P.L ≤ 512 := by
  obtain ⟨g, v, rv, gs, Hm, rfl⟩ := H
  have hlt := (List.getElem?_eq_some_iff.1 hP).1
  obtain ⟨f, _, he⟩ := Hm.pages i _ P (List.getElem?_eq_getElem (by rw [Hm.len]; exact hlt)) hP
  have h1 := he.hdr
  have h2 := he.sum
  omega
/-- Places of one version, none twice; and no other version. -/
structure Lay1 (T : List (Nat × Nat)) (Ps : List Pg) (t : Ver) : Prop where
  used : usedL Ps = T.length
  at_ : ∀ (j : Nat) q, T[j]? = some q → hget Ps q = some t
  one : ∀ (i j : Nat) q, T[i]? = some q → T[j]? = some q → i = j
theorem Lay1.nil (t : Ver) : Lay1 [] [] t := ⟨rfl, fun j q h => by simp at h, fun i j q h => by simp at h⟩
theorem Lay1.add {T : List (Nat × Nat)} {Ps : List Pg} {n : Nat} {t : Ver} (h : Lay1 T Ps t) (hE : hinE Ps n t = 0) : Lay1 (T ++ [hinX Ps n t]) (hinS Ps n t) t := by
  obtain ⟨h1, h2, h3, _⟩ := hin_put hE
  have hX : ∀ (j : Nat) q, T[j]? = some q → q ≠ hinX Ps n t := fun j q hq e => by have := h.at_ j q hq; rw [e, h2] at this; cases this
  have hc : ∀ (j : Nat) q, (T ++ [hinX Ps n t])[j]? = some q → (j < T.length ∧ T[j]? = some q) ∨ (j = T.length ∧ q = hinX Ps n t) := fun j q hq => by
    by_cases hj : j < T.length
    · rw [List.getElem?_append_left hj] at hq; exact .inl ⟨hj, hq⟩
    · rw [List.getElem?_append_right (by omega)] at hq
      by_cases h0 : j - T.length = 0
      · rw [h0] at hq; simp at hq; exact .inr ⟨by omega, hq.symm⟩
      · rw [List.getElem?_eq_none (by simp; omega)] at hq; cases hq
  refine ⟨by rw [h3, h.used]; simp, fun j q hq => ?_, fun i j q hi hj => ?_⟩
  · rw [h1]
    rcases hc j q hq with ⟨_, h5⟩ | ⟨_, h5⟩
    · rw [if_neg (hX j q h5)]; exact h.at_ j q h5
    · rw [if_pos h5]
  · rcases hc i q hi with ⟨_, h5⟩ | ⟨h4, h5⟩
    · rcases hc j q hj with ⟨_, h7⟩ | ⟨_, h7⟩
      · exact h.one i j q h5 h7
      · exact absurd h7 (hX i q h5)
    · rcases hc j q hj with ⟨_, h7⟩ | ⟨h6, _⟩
      · exact absurd h5 (hX j q h7)
      · omega
/-- One freed, one put. -/
theorem Lay1.swap {T : List (Nat × Nat)} {Ps Ps' : List Pg} {n k : Nat} {q : Nat × Nat} {t : Ver} (h : Lay1 T Ps t) (hq : T[k]? = some q) (hf : ∀ q', hget Ps' q' = if q' = q then none else hget Ps q') (hu : usedL Ps' + 1 = usedL Ps) (hE : hinE Ps' n t = 0) : Lay1 (T.set k (hinX Ps' n t)) (hinS Ps' n t) t := by
  obtain ⟨h1, h2, h3, _⟩ := hin_put hE
  have hk := (List.getElem?_eq_some_iff.1 hq).1
  have hX : ∀ (j : Nat) q', j ≠ k → T[j]? = some q' → q' ≠ hinX Ps' n t ∧ hget Ps' q' = some t := fun j q' hj hq' => by
    have hne : q' ≠ q := fun e => hj (h.one j k q (by rw [hq', e]) hq)
    have hg : hget Ps' q' = some t := by rw [hf, if_neg hne]; exact h.at_ j q' hq'
    exact ⟨fun e => (by rw [e, h2] at hg; cases hg), hg⟩
  have hc : ∀ (j : Nat) q', (T.set k (hinX Ps' n t))[j]? = some q' → (j ≠ k ∧ T[j]? = some q') ∨ (j = k ∧ q' = hinX Ps' n t) := fun j q' hj => by
    by_cases e : j = k
    · subst e; rw [List.getElem?_set_self hk] at hj; injection hj with hj; exact .inr ⟨rfl, hj.symm⟩
    · rw [List.getElem?_set_ne (fun h => e h.symm)] at hj; exact .inl ⟨e, hj⟩
  refine ⟨by rw [h3, List.length_set, ← h.used]; omega, fun j q' hj => ?_, fun i j q' hi hj => ?_⟩
  · rw [h1]
    rcases hc j q' hj with ⟨h4, h5⟩ | ⟨_, h5⟩
    · rw [if_neg (hX j q' h4 h5).1]; exact (hX j q' h4 h5).2
    · rw [if_pos h5]
  · rcases hc i q' hi with ⟨h4, h5⟩ | ⟨h4, h5⟩
    · rcases hc j q' hj with ⟨h6, h7⟩ | ⟨_, h7⟩
      · exact h.one i j q' h5 h7
      · exact absurd h7 (hX i q' h4 h5).1
    · rcases hc j q' hj with ⟨h6, h7⟩ | ⟨h6, _⟩
      · exact absurd h5 (hX j q' h6 h7).1
      · omega
/-- Where there is room no page is taken. -/
theorem hin_len {Ps : List Pg} {n j : Nat} {t : Ver} {P : Pg} (hok : t.ok) (hP : Ps[j]? = some P) (hr : (t.d.length : Int) ≤ P.room) : hinE Ps n t = 0 ∧ (hinS Ps n t).length = Ps.length ∧ hinN Ps n t = n := by
  cases hf : hfind Ps t.d.length with
  | none => have := hfind_none hf hP; omega
  | some i =>
    obtain ⟨Q, hQ, _⟩ := hfind_some hf
    obtain ⟨e1, _, e3, e4⟩ := hin_f (n := n) hok hf hQ
    exact ⟨e1, by rw [e3, List.length_set], e4⟩
theorem tidc_set (T : List (Nat × Nat)) : ∀ (k : Nat) (X : Nat × Nat), k < T.length → ((tidc T).set (k * 2) (.int .i64 (X.1 : Int))).set (k * 2 + 1) (.int .i64 (X.2 : Int)) = tidc (T.set k X) := by
  induction T with
  | nil => intro k X hk; simp at hk
  | cons a l ih =>
    intro k X hk
    have e : ∀ (b : Nat × Nat) (m : List (Nat × Nat)), tidc (b :: m) = .int .i64 (b.1 : Int) :: .int .i64 (b.2 : Int) :: tidc m := fun _ _ => rfl
    cases k with
    | zero => rfl
    | succ k =>
      rw [e, List.set_cons_succ, e, ← ih k X (by simpa using hk), show (k + 1) * 2 = k * 2 + 1 + 1 by omega, show k * 2 + 1 + 1 + 1 = (k * 2 + 1) + 1 + 1 by omega]
      simp only [List.set_cons_succ]
end Go.Proofs.Ytpnkmkenmpbekaa
