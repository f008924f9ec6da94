/-
  BookPrunes: a transaction begins; one ends: what stands then.
-/
import Derived.Test.YtbmkhopmhmmibaaPruneL
namespace Go.Proofs.Ytbmkhopmhmmibaa
open Go.RowKit Go.Maps
set_option linter.unusedVariables false

section
variable {w0 w w' : World} {g k bm last cm nm m : Nat} {S : List Nat} {T : List Tb} {I : List (Nat × Ix)} {fl : Nat → Option Sn} {vo : Value}
/-- The same, and one snapshot more that is kept. -/
structure LwT (w0 w : World) (g k bm : Nat) (S : List Nat) (last : Nat) (T : List Tb) (I : List (Nat × Ix)) (fl : Nat → Option Sn) (cm nm : Nat) (vo : Value) (m : Nat) (s : Sn) : Prop where
  wd : ∃ Q, Wd w0.heap.size w0 w g S k last T I ((vo, List.range' 1 m) :: Q) ∧ (∀ x s, fl x = some s → (s.v, s.R) ∈ Q) ∧ (s.v, s.R) ∈ Q ∧ (∀ q ∈ Q, ∀ j, q.1.ownBlock = some j → vo.ownBlock ≠ some j)
  mp : MG E11 w bm fl cm nm
  bmB : w0.heap.size ≤ bm
  tl : T.length ≤ 16
  il : I.length ≤ 16
  cl : ∀ t ∈ T, t.cs.length ≤ 8
  ids : ∀ t ∈ T, t.e.id ≤ last
theorem lw_take (h : Lw w0 w g k bm S last T I fl cm nm vo m) (own : Nat) :
    Calls Try.prog 15 #[.pointer (some ⟨g, 0, none⟩), .int .u64 (own : Int)] w fun e w' => ∃ A c, e = .returned (Sn.V ⟨own, least (others (runs 1 S) own) (1 + S.length), 1 + S.length, others (runs 1 S) own, A, c⟩) ∧ LwT w0 w' g k bm S last T I fl cm nm vo m ⟨own, least (others (runs 1 S) own) (1 + S.length), 1 + S.length, others (runs 1 S) own, A, c⟩ ∧ Below w.heap.size w w' := by
  obtain ⟨Q, hw, h2, h3⟩ := h.wd
  obtain ⟨F, vT, vI, hl, hm, hb, hq⟩ := hw
  refine (take_any w g 1 own S F hl).mono ?_
  rintro e w' ⟨v, rfl, ho, x⟩
  obtain ⟨A, c, rfl, _⟩ := own_form ho
  refine ⟨A, c, rfl, ⟨⟨(.slice A (others (runs 1 S) own).length c, others (runs 1 S) own) :: Q, ⟨F, vT, vI, hl.below x, hm.next x, hb.below x, fun q h => ?_⟩, fun x s hs => List.mem_cons_of_mem _ (h2 x s hs), List.mem_cons_self, fun q hq' j hj => ?_⟩, h.mp.below x, h.bmB, h.tl, h.il, h.cl, h.ids⟩, x⟩
  · rcases List.mem_cons.1 h with rfl | h
    · exact ⟨own_below (hq _ List.mem_cons_self).1 x, (hq _ List.mem_cons_self).2⟩
    · rcases List.mem_cons.1 h with rfl | h
      · exact ⟨own_le ho hm.size, fun j hj hF => by have := (ho.lt j hj).1; have := hl.lt hF; omega⟩
      · exact ⟨own_below (hq q (List.mem_cons_of_mem _ h)).1 x, (hq q (List.mem_cons_of_mem _ h)).2⟩
  · rcases List.mem_cons.1 hq' with rfl | hq'
    · intro hh
      have h4 := ((hq _ List.mem_cons_self).1.lt j hh).2
      have h5 := (ho.lt j hj).1
      omega
    · exact h3 q hq' j hj
theorem LwT.put {s : Sn} {x cm' nm' : Nat} (h : LwT w0 w g k bm S last T I fl cm nm vo m s) (hf : Fr (fun i => i = bm) w w') (hm : MG E11 w' bm (updG fl x (some s)) cm' nm') : Lw w0 w' g k bm S last T I (updG fl x (some s)) cm' nm' vo m := by
  obtain ⟨Q, hw, h2, h3, h4⟩ := h.wd
  refine ⟨⟨Q, hw.map hf (fun e => h.mp.not_ty) h.bmB, fun y t ht => ?_, h4⟩, hm, h.bmB, h.tl, h.il, h.cl, h.ids⟩
  unfold updG at ht
  by_cases hy : y = x
  · rw [if_pos hy] at ht; injection ht with ht; subst ht; exact h3
  · rw [if_neg hy] at ht; exact h2 y t ht
theorem Lw.del {x cm' nm' : Nat} (h : Lw w0 w g k bm S last T I fl cm nm vo m) (hf : Fr (fun i => i = bm) w w') (hm : MG E11 w' bm (updG fl x none) cm' nm') : Lw w0 w' g k bm S last T I (updG fl x none) cm' nm' vo m := by
  obtain ⟨Q, hw, h2, h4⟩ := h.wd
  refine ⟨⟨Q, hw.map hf (fun e => h.mp.not_ty) h.bmB, fun y t ht => ?_, h4⟩, hm, h.bmB, h.tl, h.il, h.cl, h.ids⟩
  unfold updG at ht
  by_cases hy : y = x
  · rw [if_pos hy] at ht; cases ht
  · rw [if_neg hy] at ht; exact h2 y t ht
theorem Lw.app {vo' : Value} (h : Lw w0 w g k bm S last T I fl cm nm vo m) (hg : w.grownBy w' vo.ownBlock) (ho : w'.ownsRow w0.heap.size 28 1 vo' (m + 1) (ucells .u64 (List.range' 1 m) ++ [.int .u64 ((m + 1 : Nat) : Int)])) (ha : vo'.ownBlock = vo.ownBlock ∨ vo'.ownBlock = some w.heap.size) : Lw w0 w' g k bm S last T I fl cm nm vo' (m + 1) := by
  obtain ⟨Q, hw, h2, h4⟩ := h.wd
  have hr : List.range' 1 (m + 1) = List.range' 1 m ++ [m + 1] := by rw [List.range'_1_concat, Nat.add_comm 1 m]
  have hlen : (List.range' 1 (m + 1)).length = m + 1 := List.length_range'
  obtain ⟨h5, h6⟩ := hw.grow (R' := List.range' 1 (m + 1)) h4 hg (by rw [hlen, hr, ucells_snoc]; exact ho) ha
  refine ⟨⟨Q, h5, h2, h6⟩, h.mp.fr (Fr.of_own (S := fun j => vo.ownBlock = some j) hg fun k e => e) fun e => h.mp.not_ty (own_ty h.order e), h.bmB, h.tl, h.il, h.cl, h.ids⟩
end
theorem stt_snoc (S : List Nat) (y : Nat) (hy : y ≤ S.length) : stt 1 (S ++ [1]) y = stt 1 S y := by
  unfold stt
  by_cases h : 1 ≤ y
  · rw [if_pos h, if_pos h, List.getD_eq_getElem?_getD, List.getD_eq_getElem?_getD, List.getElem?_append_left (by omega)]
  · rw [if_neg h, if_neg h]
theorem stt_last (S : List Nat) : stt 1 (S ++ [1]) (S.length + 1) = 1 := by
  unfold stt
  rw [if_pos (by omega), Nat.add_sub_cancel, List.getD_eq_getElem?_getD, List.getElem?_append_right (Nat.le_refl _), Nat.sub_self]
  rfl
theorem stt_le {S : List Nat} {y : Nat} (h : stt 1 S y = 1) : 1 ≤ y ∧ y ≤ S.length := by
  unfold stt at h
  by_cases h1 : 1 ≤ y
  · rw [if_pos h1, List.getD_eq_getElem?_getD] at h
    by_cases h2 : y - 1 < S.length
    · omega
    · rw [List.getElem?_eq_none (by omega)] at h; cases h
  · rw [if_neg h1] at h; cases h
theorem stt_endne {S : List Nat} {x y s : Nat} (h : y ≠ x) (hx : 1 ≤ x) : stt 1 (endL 1 S x s) y = stt 1 S y := by
  unfold endL
  split
  · unfold stt
    by_cases h1 : 1 ≤ y
    · rw [if_pos h1, if_pos h1, List.getD_eq_getElem?_getD, List.getD_eq_getElem?_getD, List.getElem?_set_ne (by omega)]
    · rw [if_neg h1, if_neg h1]
  · rfl
theorem endL_len (S : List Nat) (x s : Nat) : (endL 1 S x s).length = S.length := by
  unfold endL
  split
  · simp
  · rfl
theorem Lv.same {S S' : List Nat} {x : Nat} {s : Sn} (h : Lv S x s) (hs : stt 1 S' x = stt 1 S x) : Lv S' x s := ⟨h.own, by rw [hs]; exact h.run, h.srt, h.lt, h.mn⟩
theorem Lva.begin {S : List Nat} {fl : Nat → Option Sn} (h : Lva S fl) (A : Option Addr) (c : Nat) : Lva (S ++ [1]) (updG fl (S.length + 1) (some ⟨S.length + 1, least (others (runs 1 (S ++ [1])) (S.length + 1)) (1 + (S ++ [1]).length), 1 + (S ++ [1]).length, others (runs 1 (S ++ [1])) (S.length + 1), A, c⟩)) := fun y s hs => by
  unfold updG at hs
  by_cases hy : y = S.length + 1
  · rw [if_pos hy] at hs
    injection hs with hs
    subst hs hy
    refine ⟨rfl, stt_last S, (runs_sorted 1 _).filter _, fun z hz => ?_, rfl⟩
    have := (stt_le ((runs_mem 1 _ z).1 (List.mem_filter.1 hz).1)).2
    show z < 1 + (S ++ [1]).length
    omega
  · rw [if_neg hy] at hs
    have h1 := h y s hs
    exact h1.same (stt_snoc S y (stt_le h1.run).2)
theorem Lva.over {S : List Nat} {fl : Nat → Option Sn} (h : Lva S fl) (x s : Nat) (hx : 1 ≤ x) : Lva (endL 1 S x s) (updG fl x none) := fun y t ht => by
  unfold updG at ht
  by_cases hy : y = x
  · rw [if_pos hy] at ht; cases ht
  · rw [if_neg hy] at ht
    exact (h y t ht).same (stt_endne hy hx)
theorem begR_few {S : List Nat} (h : S.length ≤ 1000) : begR 1 S = .tuple #[.int .u64 ((S.length + 1 : Nat) : Int), .int .i64 0] := by
  unfold begR
  rw [if_pos (by omega), Nat.add_comm 1]
theorem begL_few {S : List Nat} (h : S.length ≤ 1000) : begL 1 S = S ++ [1] := by
  unfold begL
  rw [if_pos (by omega)]
theorem Wd.none {B g k last : Nat} {w0 w : World} {S : List Nat} {T : List Tb} {I : List (Nat × Ix)} {Q : List (Value × List Nat)} (h : Wd B w0 w g S k last T I Q) : Wd B w0 w g S k last T I ((.slice .none 0 0, []) :: Q) := by
  obtain ⟨F, vT, vI, hl, hm, hb, hq⟩ := h
  refine ⟨F, vT, vI, hl, hm, hb, fun q h => ?_⟩
  rcases List.mem_cons.1 h with rfl | h
  · exact ⟨World.ownsRow_nil _ _ _ _, fun j hj => by cases hj⟩
  · exact hq q h
end Go.Proofs.Ytbmkhopmhmmibaa
