/-
  (*entry).free; a stamp put on an entry of a book.
-/
import Derived.Test.YtbmkhopmhmmibaaFreeA
import Derived.Test.YtbmkhopmhmmibaaBookW
namespace Go.Proofs.Ytbmkhopmhmmibaa
open Go.RowKit
set_option linter.unusedVariables false

def freeE (S : List Nat) (own xmax : Nat) (R : List Nat) (x : Ent) : Bool := decide (freeV 1 S own xmax R x.xmin x.xmax = 0)
set_option maxRecDepth 100000 in
set_option maxHeartbeats 1000000 in
theorem efree_any (w : World) (b g own xmin xmax bb : Nat) (x : Ent) (S R : List Nat) (F : Nat → Prop) (v : Value) (hl : LG w g 1 S F) (hR : w.ownsRow bb 28 1 v R.length (ucells .u64 R)) (hn : R.length ≤ 9223372036854775807) (h : En w b x) :
    Calls Try.prog 85 #[.pointer (some ⟨b, 0, none⟩), .pointer (some ⟨g, 0, none⟩), .agg #[.int .u64 (own : Int), .int .u64 (xmin : Int), .int .u64 (xmax : Int), v]] w fun e w' => e = .returned (.bool (freeE S own xmax R x)) ∧ Below w.heap.size w w' := by
  obtain ⟨A, c, hv, _, _, _⟩ := own_form hR
  subst hv
  have x0 : Below w.heap.size w (w.alloc (.cells #[.int .u64 (own : Int), .int .u64 (xmin : Int), .int .u64 (xmax : Int), .slice A R.length c] 50)).drew := ((Below.refl _ _).al _).next (below_n _ 1)
  have b0 : Bx (w.alloc (.cells #[.int .u64 (own : Int), .int .u64 (xmin : Int), .int .u64 (xmax : Int), .slice A R.length c] 50)).drew w.heap.size 50 [.int .u64 (own : Int), .int .u64 (xmin : Int), .int .u64 (xmax : Int), .slice A R.length c] := Bx.new w 50 _ _ rfl
  have hst := stamped_any _ b x (h.below x0)
  unfold tpv at hst
  have HST := Lib.hid hst
  have HV := (fun W (hb : Below w.heap.size w W) => free_any W g 1 own xmin xmax x.xmin x.xmax bb S R F _ (hl.below hb) (own_below hR hb) hn)
  have hq : ((freeV 1 S own xmax R x.xmin x.xmax) == 0) = freeE S own xmax R x := by
    unfold freeE
    cases h : decide (freeV 1 S own xmax R x.xmin x.xmax = 0) with
    | true => rw [of_decide_eq_true h]; rfl
    | false => exact beq_eq_false_iff_ne.2 (of_decide_eq_false h)
  generalize freeE S own xmax R x = z at *
  generalize freeV 1 S own xmax R x.xmin x.xmax = y at *
  have HVH := Lib.hid HV
  have hS0 : (w.alloc (.cells #[.int .u64 (own : Int), .int .u64 (xmin : Int), .int .u64 (xmax : Int), .slice A R.length c] 50)).drew.cell? ⟨w.heap.size, 0, none⟩ = some (.int .u64 (own : Int)) ∧ (w.alloc (.cells #[.int .u64 (own : Int), .int .u64 (xmin : Int), .int .u64 (xmax : Int), .slice A R.length c] 50)).drew.cell? ⟨w.heap.size, 1, none⟩ = some (.int .u64 (xmin : Int)) ∧ (w.alloc (.cells #[.int .u64 (own : Int), .int .u64 (xmin : Int), .int .u64 (xmax : Int), .slice A R.length c] 50)).drew.cell? ⟨w.heap.size, 2, none⟩ = some (.int .u64 (xmax : Int)) ∧ (w.alloc (.cells #[.int .u64 (own : Int), .int .u64 (xmin : Int), .int .u64 (xmax : Int), .slice A R.length c] 50)).drew.cell? ⟨w.heap.size, 3, none⟩ = some (.slice A R.length c) := ⟨b0.cell 0, b0.cell 1, b0.cell 2, b0.cell 3⟩
  clear HV hl hR h hst
  go_enter Try.func85, Try.ntmps85
  go_upto_region 1 with fail
  go_region_held3 (fun w' => w'.cell? ⟨w.heap.size, 0, none⟩ = some (.int .u64 (own : Int)) ∧ w'.cell? ⟨w.heap.size, 1, none⟩ = some (.int .u64 (xmin : Int)) ∧ w'.cell? ⟨w.heap.size, 2, none⟩ = some (.int .u64 (xmax : Int)) ∧ w'.cell? ⟨w.heap.size, 3, none⟩ = some (.slice A R.length c)) (first | (with_reducible assumption))
    (first
    | (go_at_call 93; (with_reducible refine (HST.out).mono ?_); rintro e w1 ⟨rfl, hb1⟩; have x1 := x0.next hb1; have b1 := b0.below hb1; have hS1 : w1.cell? ⟨w.heap.size, 0, none⟩ = some (.int .u64 (own : Int)) ∧ w1.cell? ⟨w.heap.size, 1, none⟩ = some (.int .u64 (xmin : Int)) ∧ w1.cell? ⟨w.heap.size, 2, none⟩ = some (.int .u64 (xmax : Int)) ∧ w1.cell? ⟨w.heap.size, 3, none⟩ = some (.slice A R.length c) := ⟨b1.cell 0, b1.cell 1, b1.cell 2, b1.cell 3⟩)
    | (go_at_call 94; (with_reducible refine (HVH.out _ x1).mono ?_); rintro e w2 ⟨rfl, hb2⟩; have x2 := x1.next hb2; have b2 := b1.below hb2; have hS2 : w2.cell? ⟨w.heap.size, 0, none⟩ = some (.int .u64 (own : Int)) ∧ w2.cell? ⟨w.heap.size, 1, none⟩ = some (.int .u64 (xmin : Int)) ∧ w2.cell? ⟨w.heap.size, 2, none⟩ = some (.int .u64 (xmax : Int)) ∧ w2.cell? ⟨w.heap.size, 3, none⟩ = some (.slice A R.length c) := ⟨b2.cell 0, b2.cell 1, b2.cell 2, b2.cell 3⟩))
  go_wp2_with fail
  go_ret
  exact ⟨by first | rfl | simp [hq] | rw [hq], x2⟩
/-- Dropped by own. -/
def Ent.st (own : Nat) (e : Ent) : Ent := { e with xmax := own }
def Tb.st (D : List Nat) (own : Nat) (t : Tb) : Tb := if t.b ∈ D then { t with e := t.e.st own } else t
def Ix.st (D : List Nat) (own : Nat) (i : Nat × Ix) : Nat × Ix := (i.1, { i.2 with e := if i.1 ∈ D then i.2.e.st own else i.2.e, te := if i.2.tb ∈ D then i.2.te.st own else i.2.te })
section
variable {B k last own b : Nat} {w : World} {T : List Tb} {I : List (Nat × Ix)} {vT vI : Value} {D : List Nat}
theorem Tb.st_b (D : List Nat) (own : Nat) (t : Tb) : (t.st D own).b = t.b := by unfold Tb.st; split <;> rfl
theorem Tb.st_cs (D : List Nat) (own : Nat) (t : Tb) : (t.st D own).cs = t.cs := by unfold Tb.st; split <;> rfl
theorem Tb.st_cv (D : List Nat) (own : Nat) (t : Tb) : (t.st D own).cv = t.cv := by unfold Tb.st; split <;> rfl
theorem Ent.st_st (own : Nat) (e : Ent) : (e.st own).st own = e.st own := rfl
theorem Tb.st_st (D : List Nat) (own b : Nat) (t : Tb) : (t.st D own).st [b] own = t.st (D ++ [b]) own := by
  unfold Tb.st
  by_cases h1 : t.b ∈ D <;> by_cases h2 : t.b = b <;> simp [h1, h2, Ent.st]
  all_goals (first | rfl | (subst h2; simp [h1]) | skip)
theorem Ix.st_st (D : List Nat) (own b : Nat) (i : Nat × Ix) : Ix.st [b] own (Ix.st D own i) = Ix.st (D ++ [b]) own i := by
  unfold Ix.st
  by_cases h1 : i.1 ∈ D <;> by_cases h2 : i.1 = b <;> by_cases h3 : i.2.tb ∈ D <;> by_cases h4 : i.2.tb = b <;> simp [h1, h2, h3, h4, Ent.st]
  all_goals (first | rfl | (simp_all) | skip)
theorem Tb.st_nil (own : Nat) (T : List Tb) : T.map (Tb.st [] own) = T := by
  have : Tb.st [] own = id := by funext t; unfold Tb.st; simp
  rw [this]; simp
theorem Ix.st_nil (own : Nat) (I : List (Nat × Ix)) : I.map (Ix.st [] own) = I := by
  have : Ix.st [] own = id := by funext t; unfold Ix.st; simp
  rw [this]; simp
theorem Tb.st_more (D : List Nat) (own b : Nat) (T : List Tb) : (T.map (Tb.st D own)).map (Tb.st [b] own) = T.map (Tb.st (D ++ [b]) own) := by
  rw [List.map_map]; congr 1; funext t; exact Tb.st_st D own b t
theorem Ix.st_more (D : List Nat) (own b : Nat) (I : List (Nat × Ix)) : (I.map (Ix.st D own)).map (Ix.st [b] own) = I.map (Ix.st (D ++ [b]) own) := by
  rw [List.map_map]; congr 1; funext t; exact Ix.st_st D own b t
theorem Tb.st_bs (D : List Nat) (own : Nat) (T : List Tb) : (T.map (Tb.st D own)).map Tb.b = T.map Tb.b := by
  rw [List.map_map]; congr 1; funext t; exact Tb.st_b D own t
theorem Ix.st_bs (D : List Nat) (own : Nat) (I : List (Nat × Ix)) : (I.map (Ix.st D own)).map Prod.fst = I.map Prod.fst := by
  rw [List.map_map]; rfl
/-- One entry is stamped. -/
theorem Bk.stamp (h : Bk B w k last T I vT vI) (hb : b ∈ T.map Tb.b ∨ b ∈ I.map Prod.fst) :
    Bk B (w.setCell ⟨b, 3, none⟩ (.int .u64 (own : Int))) k last (T.map (Tb.st [b] own)) (I.map (Ix.st [b] own)) vT vI ∧ FrT bkT B w (w.setCell ⟨b, 3, none⟩ (.int .u64 (own : Int))) := by
  have hf : Fr (fun j => j = b) w (w.setCell ⟨b, 3, none⟩ (.int .u64 (own : Int))) := (Fr.refl (fun j => j = b) w).set (b := b) (.inl rfl) 3 _
  have hty : (Ty w b 123 ∨ Ty w b 132) ∧ B ≤ b := by
    rcases hb with hb | hb
    · obtain ⟨t, ht, rfl⟩ := List.mem_map.1 hb
      exact ⟨.inl (h.tB t ht).2.1.ty, (h.tB t ht).1⟩
    · obtain ⟨i, hi, rfl⟩ := List.mem_map.1 hb
      exact ⟨.inr (h.iB i hi).2.1.ty, (h.iB i hi).1⟩
  have hne : ∀ {j : Nat} {e : TypeId}, Ty w j e → e ≠ 123 → e ≠ 132 → ¬ j = b := fun hj h1 h2 he => by
    subst he
    rcases hty.1 with ht | ht
    · exact hj.ne ht h1 rfl
    · exact hj.ne ht h2 rfl
  refine ⟨⟨h.kB, hf.bx h.box (hne h.box.ty (by decide) (by decide)), ?_, ?_, ?_, ?_, ?_, ?_⟩, FrT.of_fr hf fun j hj => ?_⟩
  · have := hf.own h.oT fun j hj => hne (own_ty h.oT hj) (by decide) (by decide)
    rw [List.length_map, show ((T.map (Tb.st [b] own)).map fun t => ptr t.b) = T.map fun t => ptr t.b by rw [List.map_map]; congr 1; funext t; show ptr (t.st [b] own).b = _; rw [Tb.st_b]]
    exact this
  · have := hf.own h.oI fun j hj => hne (own_ty h.oI hj) (by decide) (by decide)
    rw [List.length_map, show pts (I.map (Ix.st [b] own)) = pts I by unfold pts; rw [List.map_map]; rfl]
    exact this
  · intro t' ht'
    obtain ⟨t, ht, rfl⟩ := List.mem_map.1 ht'
    obtain ⟨p, q, r⟩ := h.tB t ht
    have hc := hf.own r fun j hj => hne (own_ty r hj) (by decide) (by decide)
    rw [Tb.st_b, Tb.st_cv, Tb.st_cs]
    refine ⟨p, ?_, hc⟩
    unfold Tb.st
    by_cases he : t.b = b
    · rw [if_pos (by rw [he]; simp)]
      rw [← he]
      exact q.set 3 _
    · rw [if_neg (by simpa using he)]
      exact hf.bx q he
  · intro i' hi'
    obtain ⟨i, hi, rfl⟩ := List.mem_map.1 hi'
    obtain ⟨p, q, t, ht, h1, h2⟩ := h.iB i hi
    refine ⟨p, ?_, t.st [b] own, List.mem_map.2 ⟨t, ht, rfl⟩, ?_, ?_⟩
    · show Bx _ i.1 _ (Ix.c (Ix.st [b] own i).2)
      unfold Ix.st
      by_cases he : i.1 = b
      · have := q.set 3 (.int .u64 (own : Int))
        rw [he] at this ⊢
        simpa [Ix.c, Ent.st] using this
      · have := hf.bx q he
        simpa [Ix.c, he] using this
    · rw [Tb.st_b]; exact h1
    · show (t.st [b] own).e = if i.2.tb ∈ [b] then i.2.te.st own else i.2.te
      unfold Tb.st
      rw [h1, ← h2]
      split <;> rfl
  · rw [Tb.st_bs]; exact h.ndT
  · rw [Ix.st_bs]; exact h.ndI
  · subst hj
    refine ⟨hty.2, ?_⟩
    rcases hty.1 with ht | ht
    · exact ⟨_, by unfold bkT; simp, ht⟩
    · exact ⟨_, by unfold bkT; simp, ht⟩
/-- The entry at a block. -/
def entB (T : List Tb) (I : List (Nat × Ix)) (b : Nat) : Ent := match T.find? (fun t => t.b == b) with
  | some t => t.e
  | none => match I.find? (fun i => i.1 == b) with
    | some i => i.2.e
    | none => ⟨0, ⟨#[]⟩, 0, 0⟩
theorem Bk.entB (h : Bk B w k last T I vT vI) (hb : b ∈ T.map Tb.b ∨ b ∈ I.map Prod.fst) : En w b (entB T I b) ∧ w.frozen? ⟨b, 3, none⟩ = false := by
  unfold Go.Proofs.Ytbmkhopmhmmibaa.entB
  cases ht : T.find? (fun t => t.b == b) with
  | some t =>
    have hm := List.mem_of_find?_eq_some ht
    have he : t.b = b := by have := List.find?_some ht; simpa using this
    subst he
    exact ⟨h.en hm, (h.tB t hm).2.1.frozen 3⟩
  | none =>
    cases hi : I.find? (fun i => i.1 == b) with
    | some i =>
      have hm := List.mem_of_find?_eq_some hi
      have he : i.1 = b := by have := List.find?_some hi; simpa using this
      subst he
      exact ⟨(h.im hm).en, (h.iB i hm).2.1.frozen 3⟩
    | none =>
      exfalso
      rw [List.find?_eq_none] at ht hi
      rcases hb with hb | hb
      · obtain ⟨t, h1, h2⟩ := List.mem_map.1 hb
        exact ht t h1 (by simpa using h2)
      · obtain ⟨t, h1, h2⟩ := List.mem_map.1 hb
        exact hi t h1 (by simpa using h2)
end
end Go.Proofs.Ytbmkhopmhmmibaa
