/-
  BookPrunes: what stands between its steps.
-/
import Derived.Test.YtbmkhopmhmmibaaPruneP
import Derived.Test.YtbmkhopmhmmibaaMapU
namespace Go.Proofs.Ytbmkhopmhmmibaa
open Go.RowKit Go.Maps
set_option linter.unusedVariables false

section
variable {B g k last : Nat} {w0 w w' : World} {S : List Nat} {T : List Tb} {I : List (Nat × Ix)} {Q Q' : List (Value × List Nat)}
theorem Wd.sub' (h : Wd B w0 w g S k last T I Q) (hs : ∀ q ∈ Q', q ∈ Q) : Wd B w0 w g S k last T I Q' := by
  obtain ⟨F, vT, vI, hl, hm, hb, hq⟩ := h
  exact ⟨F, vT, vI, hl, hm, hb, fun q h => hq q (hs q h)⟩
/-- A map turns. -/
theorem Wd.map {b : Nat} (h : Wd B w0 w g S k last T I Q) (hf : Fr (fun i => i = b) w w') (hb : ∀ e, ¬ Ty w b e) (hB : B ≤ b) : Wd B w0 w' g S k last T I Q := by
  obtain ⟨F, vT, vI, hl, hm, hbk, hq⟩ := h
  refine ⟨F, vT, vI, hl.fr hf (fun j hj e => ?_), ⟨hm.above, hm.below.trans (hf.below (fun j e => e ▸ hB) hm.size), Nat.le_trans hm.size hf.size⟩, hbk.fr hf (fun j e hj he => (hb e (he ▸ hj)).elim), fun q h => ⟨hf.own (hq q h).1 fun j hj e => hb _ (e ▸ own_ty (hq q h).1 hj), (hq q h).2⟩⟩
  subst e
  rcases hl.ty hj with ht | ht | ht
  · exact hb _ ht
  · exact hb _ ht
  · exact hb _ ht
/-- The first row of numbers grows. -/
theorem Wd.grow {v v' : Value} {R R' : List Nat} (h : Wd B w0 w g S k last T I ((v, R) :: Q)) (hd : ∀ q ∈ Q, ∀ j, q.1.ownBlock = some j → v.ownBlock ≠ some j) (hg : w.grownBy w' v.ownBlock) (ho : w'.ownsRow B 28 1 v' R'.length (ucells .u64 R')) (ha : v'.ownBlock = v.ownBlock ∨ v'.ownBlock = some w.heap.size) :
    Wd B w0 w' g S k last T I ((v', R') :: Q) ∧ ∀ q ∈ Q, ∀ j, q.1.ownBlock = some j → v'.ownBlock ≠ some j := by
  obtain ⟨F, vT, vI, hl, hm, hbk, hq⟩ := h
  have hv := hq _ List.mem_cons_self
  have hf : Fr (fun j => v.ownBlock = some j) w w' := Fr.of_own hg fun k e => e
  refine ⟨⟨F, vT, vI, hl.fr hf (fun j hj e => hv.2 j e hj), ⟨hm.above, hm.below.trans (hf.below (fun j e => (hv.1.lt j e).1) hm.size), Nat.le_trans hm.size hf.size⟩, hbk.fr hf (fun j e hj he => ?_), fun q h => ?_⟩, fun q h j hj hh => ?_⟩
  · have ht := own_ty hv.1 he
    have : e = 28 := Classical.byContradiction fun hn => hj.ne ht hn rfl
    subst this
    decide
  · rcases List.mem_cons.1 h with rfl | h
    · refine ⟨ho, fun j hj hF => ?_⟩
      rcases ha with ha | ha
      · exact hv.2 j (ha ▸ hj) hF
      · rw [ha] at hj; injection hj with hj; have := hl.lt hF; omega
    · obtain ⟨h1, h2⟩ := hq q (List.mem_cons_of_mem _ h)
      exact ⟨hf.own h1 fun j hj e => hd q h j hj e, h2⟩
  · rcases ha with ha | ha
    · exact hd q h j hj (ha ▸ hh)
    · rw [ha] at hh; injection hh with hh
      have := ((hq q (List.mem_cons_of_mem _ h)).1.lt j hj).2
      omega
end
/-- The log, the book, the map of those that run, the order in which they began. -/
structure Lw (w0 w : World) (g k bm : Nat) (S : List Nat) (last : Nat) (T : List Tb) (I : List (Nat × Ix)) (fl : Nat → Option Sn) (cm nm : Nat) (vo : Value) (m : Nat) : Prop where
  wd : ∃ Q, Wd w0.heap.size w0 w g S k last T I ((vo, List.range' 1 m) :: Q) ∧ (∀ x s, fl x = some s → (s.v, s.R) ∈ Q) ∧ (∀ q ∈ Q, ∀ j, q.1.ownBlock = some j → vo.ownBlock ≠ some j)
  mp : MG E11 w bm fl cm nm
  bmB : w0.heap.size ≤ bm
  tl : T.length ≤ 16
  il : I.length ≤ 16
  cl : ∀ t ∈ T, t.cs.length ≤ 8
  ids : ∀ t ∈ T, t.e.id ≤ last
def Lva (S : List Nat) (fl : Nat → Option Sn) : Prop := ∀ x s, fl x = some s → Lv S x s
section
variable {w0 w w' : World} {g k bm last cm nm m : Nat} {S : List Nat} {T : List Tb} {I : List (Nat × Ix)} {fl : Nat → Option Sn} {vo : Value}
theorem Lw.next (h : Lw w0 w g k bm S last T I fl cm nm vo m) (x : Below w.heap.size w w') : Lw w0 w' g k bm S last T I fl cm nm vo m := by
  obtain ⟨Q, h1, h2, h3⟩ := h.wd
  exact ⟨⟨Q, h1.next x, h2, h3⟩, h.mp.below x, h.bmB, h.tl, h.il, h.cl, h.ids⟩
theorem Lw.below (h : Lw w0 w g k bm S last T I fl cm nm vo m) : Below w0.heap.size w0 w := by
  obtain ⟨Q, h1, _⟩ := h.wd
  exact h1.below'
theorem Lw.order (h : Lw w0 w g k bm S last T I fl cm nm vo m) : w.ownsRow w0.heap.size 28 1 vo m (ucells .u64 (List.range' 1 m)) := by
  obtain ⟨Q, ⟨F, vT, vI, _, _, _, hq⟩, _⟩ := h.wd
  have := (hq _ List.mem_cons_self).1
  rw [List.length_range'] at this
  exact this
theorem mg_frt {B : Nat} {l : List TypeId} (h : MG E11 w bm fl cm nm) (hf : FrT l B w w') : MG E11 w' bm fl cm nm := h.fr hf fun ⟨_, e, _, ht⟩ => h.not_ty ht
theorem Lw.step {S' : List Nat} {last' : Nat} {T' : List Tb} {I' : List (Nat × Ix)} {Q : List (Value × List Nat)} (h : Lw w0 w g k bm S last T I fl cm nm vo m) (hw : Wd w0.heap.size w0 w' g S' k last' T' I' ((vo, List.range' 1 m) :: Q)) (hq : ∀ x s, fl x = some s → (s.v, s.R) ∈ Q) (hd : ∀ q ∈ Q, ∀ j, q.1.ownBlock = some j → vo.ownBlock ≠ some j) (hf : FrT allT w0.heap.size w w')
    (ht : T'.length ≤ 16) (hi : I'.length ≤ 16) (hc : ∀ t ∈ T', t.cs.length ≤ 8) (hid : ∀ t ∈ T', t.e.id ≤ last') : Lw w0 w' g k bm S' last' T' I' fl cm nm vo m :=
  ⟨⟨Q, hw, hq, hd⟩, mg_frt h.mp hf, h.bmB, ht, hi, hc, hid⟩
theorem lw_begin (h : Lw w0 w g k bm S last T I fl cm nm vo m) :
    Calls Try.prog 13 #[.pointer (some ⟨g, 0, none⟩)] w fun e w' => e = .returned (begR 1 S) ∧ Lw w0 w' g k bm (begL 1 S) last T I fl cm nm vo m := by
  obtain ⟨Q, h1, h2, h3⟩ := h.wd
  refine (wd_begin h1).mono ?_
  rintro e w' ⟨rfl, hw, hf⟩
  exact ⟨rfl, h.step hw h2 h3 hf h.tl h.il h.cl h.ids⟩
theorem lw_commit (h : Lw w0 w g k bm S last T I fl cm nm vo m) (x : Nat) (hx : x < 18446744073709551616) :
    Calls Try.prog 17 #[.pointer (some ⟨g, 0, none⟩), .int .u64 (x : Int)] w fun e w' => e = .returned (.int .i64 (endE 1 S x)) ∧ Lw w0 w' g k bm (endL 1 S x 2) last T I fl cm nm vo m := by
  obtain ⟨Q, h1, h2, h3⟩ := h.wd
  refine (wd_commit h1 x hx).mono ?_
  rintro e w' ⟨rfl, hw, hf⟩
  exact ⟨rfl, h.step hw h2 h3 hf h.tl h.il h.cl h.ids⟩
theorem lw_abort (h : Lw w0 w g k bm S last T I fl cm nm vo m) (x : Nat) (hx : x < 18446744073709551616) :
    Calls Try.prog 19 #[.pointer (some ⟨g, 0, none⟩), .int .u64 (x : Int)] w fun e w' => e = .returned (.int .i64 (endE 1 S x)) ∧ Lw w0 w' g k bm (endL 1 S x 3) last T I fl cm nm vo m := by
  obtain ⟨Q, h1, h2, h3⟩ := h.wd
  refine (wd_abort h1 x hx).mono ?_
  rintro e w' ⟨rfl, hw, hf⟩
  exact ⟨rfl, h.step hw h2 h3 hf h.tl h.il h.cl h.ids⟩
theorem crE_lt {own xmax : Nat} {R : List Nat} {n : ByteArray} {L : List Co} (h : crE S own xmax R n L T I = 0) : T.length < 16 := by
  unfold crE at h
  refine Classical.byContradiction fun hn => ?_
  rw [if_neg hn] at h
  split at h
  · split at h
    · cases h
    · rename_i h1 h2; exact h2 h
  · cases h
theorem ciE_lt {own xmax : Nat} {R : List Nat} {n tn cn : ByteArray} (h : ciE S own xmax R n tn cn T I = 0) : I.length < 16 := by
  unfold ciE at h
  refine Classical.byContradiction fun hn => ?_
  rw [if_neg hn] at h
  split at h
  · split at h
    · cases h
    · split at h
      · cases h
      · split at h
        · cases h
        · rename_i h1 h2; exact h2 h
  · cases h
theorem lw_crtab (h : Lw w0 w g k bm S last T I fl cm nm vo m) (x bc q : Nat) (s : Sn) (n : ByteArray) (hs : fl x = some s) (hlast : last < 1000000000) (hns : n.size ≤ 9223372036854775807) (hL : w.ownsRow bc 121 2 (.slice (some ⟨q, 0, none⟩) 1 1) 1 ([coA].flatMap Co.e)) :
    Calls Try.prog 20 #[.pointer (some ⟨k, 0, none⟩), .pointer (some ⟨g, 0, none⟩), s.V, .string n, .slice (some ⟨q, 0, none⟩) 1 1] w fun e w' => (∃ z last' T', last' ≤ last + 1 ∧ e = .returned z ∧ Lw w0 w' g k bm S last' T' I fl cm nm vo m) ∧ FrT allT w0.heap.size w w' := by
  obtain ⟨Q, h1, h2, h3⟩ := h.wd
  refine (wd_crtab h1 s.own s.xmin s.xmax 1 1 bc (some ⟨q, 0, none⟩) s.v s.R n [coA] (List.mem_cons_of_mem _ (h2 x s hs)) hlast hns rfl hL coA_sz).mono ?_
  rintro e w' ⟨⟨_, rfl, hw⟩ | ⟨hc, rfl, b, cv, _, hw⟩, hf⟩
  · exact ⟨⟨_, _, _, Nat.le_succ _, rfl, h.step hw h2 h3 hf h.tl h.il h.cl h.ids⟩, hf⟩
  · refine ⟨⟨_, _, _, Nat.le_refl _, rfl, h.step hw h2 h3 hf (by have := crE_lt hc; simp; omega) h.il (fun t ht => ?_) (fun t ht => ?_)⟩, hf⟩
    · rcases List.mem_append.1 ht with ht | ht
      · exact h.cl t ht
      · rw [List.mem_singleton] at ht; subst ht; show [coA].length ≤ 8; decide
    · rcases List.mem_append.1 ht with ht | ht
      · exact Nat.le_succ_of_le (h.ids t ht)
      · rw [List.mem_singleton] at ht; subst ht; exact Nat.le_refl _
theorem lw_cridx (h : Lw w0 w g k bm S last T I fl cm nm vo m) (x : Nat) (s : Sn) (n tn cn : ByteArray) (hs : fl x = some s) (hlast : last < 1000000000) (hns : n.size ≤ 9223372036854775807) :
    Calls Try.prog 22 #[.pointer (some ⟨k, 0, none⟩), .pointer (some ⟨g, 0, none⟩), s.V, .string n, .string tn, .string cn] w fun e w' => (∃ z last' I', last' ≤ last + 1 ∧ e = .returned z ∧ Lw w0 w' g k bm S last' T I' fl cm nm vo m) ∧ FrT allT w0.heap.size w w' := by
  obtain ⟨Q, h1, h2, h3⟩ := h.wd
  refine (wd_cridx h1 s.own s.xmin s.xmax s.v s.R n tn cn (List.mem_cons_of_mem _ (h2 x s hs)) h.cl hlast hns _ _ _ rfl rfl rfl).mono ?_
  rintro e w' ⟨⟨_, rfl, hw⟩ | ⟨hc, t, b, _, _, rfl, hw⟩, hf⟩
  · exact ⟨⟨_, _, _, Nat.le_succ _, rfl, h.step hw h2 h3 hf h.tl h.il h.cl h.ids⟩, hf⟩
  · exact ⟨⟨_, _, _, Nat.le_refl _, rfl, h.step hw h2 h3 hf h.tl (by have := ciE_lt hc; simp; omega) h.cl fun t ht => Nat.le_succ_of_le (h.ids t ht)⟩, hf⟩
theorem Ent.st_id (own : Nat) (e : Ent) : (e.st own).id = e.id := rfl
theorem st_lim (D : List Nat) (own : Nat) (h : Lw w0 w g k bm S last T I fl cm nm vo m) : (T.map (Tb.st D own)).length ≤ 16 ∧ (I.map (Ix.st D own)).length ≤ 16 ∧ (∀ t ∈ T.map (Tb.st D own), t.cs.length ≤ 8) ∧ ∀ t ∈ T.map (Tb.st D own), t.e.id ≤ last := by
  refine ⟨by simpa using h.tl, by simpa using h.il, fun t ht => ?_, fun t ht => ?_⟩
  · obtain ⟨u, hu, rfl⟩ := List.mem_map.1 ht
    rw [Tb.st_cs]; exact h.cl u hu
  · obtain ⟨u, hu, rfl⟩ := List.mem_map.1 ht
    have : (u.st D own).e.id = u.e.id := by unfold Tb.st; split <;> rfl
    rw [this]; exact h.ids u hu
theorem lw_drtab (h : Lw w0 w g k bm S last T I fl cm nm vo m) (x : Nat) (s : Sn) (n : ByteArray) (hs : fl x = some s) :
    Calls Try.prog 25 #[.pointer (some ⟨k, 0, none⟩), .pointer (some ⟨g, 0, none⟩), s.V, .string n] w fun e w' => (∃ z T' I', e = .returned z ∧ Lw w0 w' g k bm S last T' I' fl cm nm vo m) ∧ FrT allT w0.heap.size w w' := by
  obtain ⟨Q, h1, h2, h3⟩ := h.wd
  refine (wd_drtab h1 s.own s.xmin s.xmax s.v s.R n (List.mem_cons_of_mem _ (h2 x s hs)) h.il).mono ?_
  rintro e w' ⟨z, rfl, hw, hf⟩
  obtain ⟨l1, l2, l3, l4⟩ := st_lim (dtD S s.own s.xmax s.R n T I) s.own h
  exact ⟨⟨_, _, _, rfl, h.step hw h2 h3 hf l1 l2 l3 l4⟩, hf⟩
theorem lw_dridx (h : Lw w0 w g k bm S last T I fl cm nm vo m) (x : Nat) (s : Sn) (n : ByteArray) (hs : fl x = some s) :
    Calls Try.prog 27 #[.pointer (some ⟨k, 0, none⟩), .pointer (some ⟨g, 0, none⟩), s.V, .string n] w fun e w' => (∃ z T' I', e = .returned z ∧ Lw w0 w' g k bm S last T' I' fl cm nm vo m) ∧ FrT allT w0.heap.size w w' := by
  obtain ⟨Q, h1, h2, h3⟩ := h.wd
  refine (wd_dridx h1 s.own s.xmin s.xmax s.v s.R n (List.mem_cons_of_mem _ (h2 x s hs))).mono ?_
  rintro e w' ⟨z, rfl, hw, hf⟩
  have hl : (diT S s.own s.xmax s.R n T I = T ∧ diI S s.own s.xmax s.R n T I = I) ∨ ∃ D, diT S s.own s.xmax s.R n T I = T.map (Tb.st D s.own) ∧ diI S s.own s.xmax s.R n T I = I.map (Ix.st D s.own) := by
    unfold diT diI
    cases findI 1 S s.own s.xmax s.R n I with
    | none => exact .inl ⟨rfl, rfl⟩
    | some i =>
      show ((if allFree S s.own s.xmax s.R T I [i.1] = true then _ else _) = T ∧ _) ∨ _
      by_cases ha : allFree S s.own s.xmax s.R T I [i.1] = true
      · exact .inr ⟨[i.1], if_pos ha, if_pos ha⟩
      · exact .inl ⟨if_neg ha, if_neg ha⟩
  rcases hl with ⟨e1, e2⟩ | ⟨D, e1, e2⟩
  · rw [e1, e2] at hw
    exact ⟨⟨_, _, _, rfl, h.step hw h2 h3 hf h.tl h.il h.cl h.ids⟩, hf⟩
  · rw [e1, e2] at hw
    obtain ⟨l1, l2, l3, l4⟩ := st_lim D s.own h
    exact ⟨⟨_, _, _, rfl, h.step hw h2 h3 hf l1 l2 l3 l4⟩, hf⟩
theorem lw_prune (h : Lw w0 w g k bm S last T I fl cm nm vo m) (hz : Nat) :
    Calls Try.prog 29 #[.pointer (some ⟨k, 0, none⟩), .pointer (some ⟨g, 0, none⟩), .int .u64 (hz : Int)] w fun e w' => ∃ z, e = .returned z ∧ Lw w0 w' g k bm S last (liveT S hz T) (liveI S hz I) fl cm nm vo m ∧ FrT allT w0.heap.size w w' := by
  obtain ⟨Q, h1, h2, h3⟩ := h.wd
  refine (wd_prune h1 hz h.tl h.il).mono ?_
  rintro e w' ⟨v1, v2, rfl, hw, hf⟩
  exact ⟨_, rfl, h.step hw h2 h3 hf (Nat.le_trans (List.length_filter_le _ _) h.tl) (Nat.le_trans (List.length_filter_le _ _) h.il) (fun t ht => h.cl t (List.mem_filter.1 ht).1) (fun t ht => h.ids t (List.mem_filter.1 ht).1), hf⟩
/-- Table, whatever it finds. -/
theorem lw_table (h : Lw w0 w g k bm S last T I fl cm nm vo m) (x : Nat) (s : Sn) (n : ByteArray) (hs : fl x = some s) :
    Calls Try.prog 38 #[.pointer (some ⟨k, 0, none⟩), .pointer (some ⟨g, 0, none⟩), s.V, .string n] w fun e w' => (∃ n1 A c N x1 x2 b, e = .returned (.tuple #[.agg #[.int .u64 (tidV S s n T : Nat), .string n1, .slice A N c, .int .u64 x1, .int .u64 x2], .bool b])) ∧ Below w.heap.size w w' := by
  obtain ⟨Q, ⟨F, vT, vI, hl, hm, hb, hq⟩, h2, h3⟩ := h.wd
  have hr := (hq _ (List.mem_cons_of_mem _ (h2 x s hs))).1
  refine (table_any w w0.heap.size k g s.own s.xmin s.xmax w0.heap.size last T I S s.R F s.v vT vI n hl hr (len_max hr) hb hm.size h.cl).mono ?_
  rintro e w' ⟨h1, x⟩
  refine ⟨?_, x⟩
  unfold tidV
  cases hf : findTb S s.own s.xmax s.R n T with
  | none => rw [hf] at h1; exact ⟨_, _, _, _, _, _, _, h1⟩
  | some t =>
    rw [hf] at h1
    obtain ⟨v', rfl, ho⟩ := h1
    obtain ⟨A, c, rfl, _⟩ := own_form ho
    exact ⟨_, _, _, _, _, _, _, rfl⟩
theorem lw_ixs (h : Lw w0 w g k bm S last T I fl cm nm vo m) (x id : Nat) (s : Sn) (hs : fl x = some s) :
    Calls Try.prog 39 #[.pointer (some ⟨k, 0, none⟩), .pointer (some ⟨g, 0, none⟩), s.V, .int .u64 (id : Int)] w fun e w' => (∃ A c, e = .returned (.slice A (I.filter (ixP S s.own s.xmax s.R id)).length c)) ∧ Below w.heap.size w w' := by
  obtain ⟨Q, ⟨F, vT, vI, hl, hm, hb, hq⟩, h2, h3⟩ := h.wd
  have hr := (hq _ (List.mem_cons_of_mem _ (h2 x s hs))).1
  refine (indexes_any w w0.heap.size k g s.own s.xmin s.xmax w0.heap.size last id T I S s.R F s.v vT vI hl hr (len_max hr) hb h.il).mono ?_
  rintro e w' ⟨v', rfl, ho, x⟩
  obtain ⟨A, c, rfl, _⟩ := own_form ho
  exact ⟨⟨A, c, rfl⟩, x⟩
end
end Go.Proofs.Ytbmkhopmhmmibaa
