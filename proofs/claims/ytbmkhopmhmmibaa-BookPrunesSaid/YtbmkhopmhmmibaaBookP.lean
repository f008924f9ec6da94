/-
  (*table).shown.
-/
import Derived.Test.YtbmkhopmhmmibaaBookO
namespace Go.Proofs.Ytbmkhopmhmmibaa
open Go.RowKit
set_option linter.unusedVariables false

theorem cell_set5 {W : World} {a : Addr} {b : Nat} {u u0 u1 u2 u3 u4 : Value} (hne : a.block ≠ b) (h : W.cell? a = some u) : (((((W.setCell ⟨b, 0, none⟩ (u0)).setCell ⟨b, 1, none⟩ (u1)).setCell ⟨b, 2, none⟩ (u2)).setCell ⟨b, 3, none⟩ (u3)).setCell ⟨b, 4, none⟩ (u4)).cell? a = some u := by
  unfold World.cell? at h ⊢
  rw [heap_setCell_other _ ⟨b, 4, none⟩ _ _ hne, heap_setCell_other _ ⟨b, 3, none⟩ _ _ hne, heap_setCell_other _ ⟨b, 2, none⟩ _ _ hne, heap_setCell_other _ ⟨b, 1, none⟩ _ _ hne, heap_setCell_other _ ⟨b, 0, none⟩ _ _ hne]
  exact h
theorem below_set5 {w W : World} {b : Nat} {u0 u1 u2 u3 u4 : Value} (h : Below w.heap.size w W) (hb : w.heap.size ≤ b) : Below w.heap.size w (((((W.setCell ⟨b, 0, none⟩ (u0)).setCell ⟨b, 1, none⟩ (u1)).setCell ⟨b, 2, none⟩ (u2)).setCell ⟨b, 3, none⟩ (u3)).setCell ⟨b, 4, none⟩ (u4)) :=
  ((((h.setCell hb _).setCell hb _).setCell hb _).setCell hb _).setCell hb _
theorem bx_set5 {W : World} {b : Nat} {T : TypeId} {u0 u1 u2 u3 u4 v0 v1 v2 v3 v4 : Value} (h : Bx W b T [v0, v1, v2, v3, v4]) : Bx (((((W.setCell ⟨b, 0, none⟩ (u0)).setCell ⟨b, 1, none⟩ (u1)).setCell ⟨b, 2, none⟩ (u2)).setCell ⟨b, 3, none⟩ (u3)).setCell ⟨b, 4, none⟩ (u4)) b T [u0, u1, u2, u3, u4] :=
  ((((h.set 0 u0).set 1 u1).set 2 u2).set 3 u3).set 4 u4
theorem own_set5 {W : World} {b B n sz : Nat} {e T : TypeId} {v : Value} {l xs : List Value} {u0 u1 u2 u3 u4 : Value} (h : W.ownsRow B e sz v n xs) (hb : Bx W b T l) (hne : e ≠ T) : (((((W.setCell ⟨b, 0, none⟩ (u0)).setCell ⟨b, 1, none⟩ (u1)).setCell ⟨b, 2, none⟩ (u2)).setCell ⟨b, 3, none⟩ (u3)).setCell ⟨b, 4, none⟩ (u4)).ownsRow B e sz v n xs :=
  (((((Fr.refl (fun k => k = b) W).set (b := b) (.inl rfl) 0 u0).set (b := b) (.inl rfl) 1 u1).set (b := b) (.inl rfl) 2 u2).set (b := b) (.inl rfl) 3 u3 |>.set (b := b) (.inl rfl) 4 u4).own h fun k hk hT => (own_ty h hk).ne hb.ty hne hT
set_option maxRecDepth 100000 in
set_option maxHeartbeats 2000000 in
theorem tshown_any (w : World) (b B : Nat) (t : Tb) (h : Bx w b 123 t.c) (hc : w.ownsRow B 121 2 t.cv t.cs.length (t.cs.flatMap Co.e)) (hB : B ≤ w.heap.size) (h8 : t.cs.length ≤ 8) :
    Calls Try.prog 72 #[.pointer (some ⟨b, 0, none⟩)] w fun e w' => ∃ v', e = .returned (.agg #[.int .u64 (t.e.id : Int), .string t.e.nm, v', .int .u64 (t.e.xmin : Int), .int .u64 (t.e.xmax : Int)]) ∧ w'.ownsRow w.heap.size 121 2 v' t.cs.length (t.cs.flatMap Co.e) ∧ Below w.heap.size w w' := by
  have hlt := h.lt
  have hne : b ≠ w.heap.size := by omega
  obtain ⟨A, c, hcv, _, _, _⟩ := own_form hc
  unfold Tb.c at h
  rw [hcv] at h hc
  have xz : Below w.heap.size w (w.alloc (.cells #[.int .u64 0, .string ⟨#[]⟩, .slice none 0 0, .int .u64 0, .int .u64 0] 85)) := (Below.refl _ _).al _
  have xd : Below w.heap.size w (w.alloc (.cells #[.int .u64 0, .string ⟨#[]⟩, .slice none 0 0, .int .u64 0, .int .u64 0] 85)).drew := xz.next (below_n _ 1)
  have hd := h.below xd
  have od := own_below hc xd
  obtain ⟨A', c', hv1, hNc1, hcm1, hrd⟩ := own_form od
  injection hv1 with e1 _ e2
  subst e1 e2
  have HCL := Lib.hid (cclone_any _ A _ c t.cs rfl hrd (nil_slice od) (by omega))
  have bz : Bx (w.alloc (.cells #[.int .u64 0, .string ⟨#[]⟩, .slice none 0 0, .int .u64 0, .int .u64 0] 85)).drew w.heap.size 85 [.int .u64 0, .string ⟨#[]⟩, .slice none 0 0, .int .u64 0, .int .u64 0] := (Bx.new w 85 _ _ rfl).below (below_n _ 1)
  clear h hc hrd od hcv hNc1 hcm1
  generalize t.cs.flatMap Co.e = cells at *
  generalize t.cs.length = N at *
  generalize (t.e.id : Int) = y0 at *
  generalize t.e.nm = y1 at *
  generalize (t.e.xmin : Int) = y4 at *
  generalize (t.e.xmax : Int) = y5 at *
  have hZ : (w.alloc (.cells #[.int .u64 0, .string ⟨#[]⟩, .slice none 0 0, .int .u64 0, .int .u64 0] 85)).drew.cell? ⟨b, 0, none⟩ = some (.int .u64 y0) ∧ (w.alloc (.cells #[.int .u64 0, .string ⟨#[]⟩, .slice none 0 0, .int .u64 0, .int .u64 0] 85)).drew.cell? ⟨b, 1, none⟩ = some (.string y1) ∧ (w.alloc (.cells #[.int .u64 0, .string ⟨#[]⟩, .slice none 0 0, .int .u64 0, .int .u64 0] 85)).drew.cell? ⟨b, 2, none⟩ = some (.int .u64 y4) ∧ (w.alloc (.cells #[.int .u64 0, .string ⟨#[]⟩, .slice none 0 0, .int .u64 0, .int .u64 0] 85)).drew.cell? ⟨b, 3, none⟩ = some (.int .u64 y5) ∧ (w.alloc (.cells #[.int .u64 0, .string ⟨#[]⟩, .slice none 0 0, .int .u64 0, .int .u64 0] 85)).drew.cell? ⟨b, 4, none⟩ = some (.slice A N c) := ⟨hd.cell 0, hd.cell 1, hd.cell 2, hd.cell 3, hd.cell 4⟩
  go_enter Try.func72, Try.ntmps72
  go_upto_region 1 with fail
  go_region_held3 (fun w' => w'.cell? ⟨b, 0, none⟩ = some (.int .u64 y0) ∧ w'.cell? ⟨b, 1, none⟩ = some (.string y1) ∧ w'.cell? ⟨b, 2, none⟩ = some (.int .u64 y4) ∧ w'.cell? ⟨b, 3, none⟩ = some (.int .u64 y5) ∧ w'.cell? ⟨b, 4, none⟩ = some (.slice A N c)) (first | (with_reducible assumption))
    (first | (go_at_call 51; (with_reducible refine (HCL.out).mono ?_); rintro e w1 ⟨v1, rfl, o1, x1⟩; obtain ⟨A1, c1, rfl, _, _, _⟩ := own_form o1; have b1 := bz.below x1; have d1 := hd.below x1; have hS1 : w1.cell? ⟨b, 0, none⟩ = some (.int .u64 y0) ∧ w1.cell? ⟨b, 1, none⟩ = some (.string y1) ∧ w1.cell? ⟨b, 2, none⟩ = some (.int .u64 y4) ∧ w1.cell? ⟨b, 3, none⟩ = some (.int .u64 y5) ∧ w1.cell? ⟨b, 4, none⟩ = some (.slice A N c) := ⟨d1.cell 0, d1.cell 1, d1.cell 2, d1.cell 3, d1.cell 4⟩; have hS2 : (((((w1.setCell ⟨w.heap.size, 0, none⟩ (.int .u64 y0)).setCell ⟨w.heap.size, 1, none⟩ (.string y1)).setCell ⟨w.heap.size, 2, none⟩ (.slice A1 N c1)).setCell ⟨w.heap.size, 3, none⟩ (.int .u64 y4)).setCell ⟨w.heap.size, 4, none⟩ (.int .u64 y5)).cell? ⟨b, 0, none⟩ = some (.int .u64 y0) ∧ (((((w1.setCell ⟨w.heap.size, 0, none⟩ (.int .u64 y0)).setCell ⟨w.heap.size, 1, none⟩ (.string y1)).setCell ⟨w.heap.size, 2, none⟩ (.slice A1 N c1)).setCell ⟨w.heap.size, 3, none⟩ (.int .u64 y4)).setCell ⟨w.heap.size, 4, none⟩ (.int .u64 y5)).cell? ⟨b, 1, none⟩ = some (.string y1) ∧ (((((w1.setCell ⟨w.heap.size, 0, none⟩ (.int .u64 y0)).setCell ⟨w.heap.size, 1, none⟩ (.string y1)).setCell ⟨w.heap.size, 2, none⟩ (.slice A1 N c1)).setCell ⟨w.heap.size, 3, none⟩ (.int .u64 y4)).setCell ⟨w.heap.size, 4, none⟩ (.int .u64 y5)).cell? ⟨b, 2, none⟩ = some (.int .u64 y4) ∧ (((((w1.setCell ⟨w.heap.size, 0, none⟩ (.int .u64 y0)).setCell ⟨w.heap.size, 1, none⟩ (.string y1)).setCell ⟨w.heap.size, 2, none⟩ (.slice A1 N c1)).setCell ⟨w.heap.size, 3, none⟩ (.int .u64 y4)).setCell ⟨w.heap.size, 4, none⟩ (.int .u64 y5)).cell? ⟨b, 3, none⟩ = some (.int .u64 y5) ∧ (((((w1.setCell ⟨w.heap.size, 0, none⟩ (.int .u64 y0)).setCell ⟨w.heap.size, 1, none⟩ (.string y1)).setCell ⟨w.heap.size, 2, none⟩ (.slice A1 N c1)).setCell ⟨w.heap.size, 3, none⟩ (.int .u64 y4)).setCell ⟨w.heap.size, 4, none⟩ (.int .u64 y5)).cell? ⟨b, 4, none⟩ = some (.slice A N c) := ⟨cell_set5 (a := ⟨b, 0, none⟩) hne hS1.1, cell_set5 (a := ⟨b, 1, none⟩) hne hS1.2.1, cell_set5 (a := ⟨b, 2, none⟩) hne hS1.2.2.1, cell_set5 (a := ⟨b, 3, none⟩) hne hS1.2.2.2.1, cell_set5 (a := ⟨b, 4, none⟩) hne hS1.2.2.2.2⟩; have k0 := b1.cell 0; have k1 := b1.cell 1; have k2 := b1.cell 2; have k3 := b1.cell 3; have k4 := b1.cell 4; have f0 := b1.frozen 0; have f1 := b1.frozen 1; have f2 := b1.frozen 2; have f3 := b1.frozen 3; have f4 := b1.frozen 4; have X1 := xd.next x1))
  have bf := bx_set5 (u0 := .int .u64 y0) (u1 := .string y1) (u2 := .slice A1 N c1) (u3 := .int .u64 y4) (u4 := .int .u64 y5) b1
  have of := own_set5 (u0 := .int .u64 y0) (u1 := .string y1) (u2 := .slice A1 N c1) (u3 := .int .u64 y4) (u4 := .int .u64 y5) o1 b1 (by decide)
  have xf := below_set5 (u0 := .int .u64 y0) (u1 := .string y1) (u2 := .slice A1 N c1) (u3 := .int .u64 y4) (u4 := .int .u64 y5) X1 (Nat.le_refl _)
  have OF := Lib.hid (own_le of xz.size)
  clear k0 k1 k2 k3 k4 f0 f1 f2 f3 f4 hS1 hS2 hZ d1 b1 of o1 bz hd HCL
  have j0 := bf.cell 0
  have j1 := bf.cell 1
  have j2 := bf.cell 2
  have j3 := bf.cell 3
  have j4 := bf.cell 4
  generalize (((((w1.setCell ⟨w.heap.size, 0, none⟩ (.int .u64 y0)).setCell ⟨w.heap.size, 1, none⟩ (.string y1)).setCell ⟨w.heap.size, 2, none⟩ (.slice A1 N c1)).setCell ⟨w.heap.size, 3, none⟩ (.int .u64 y4)).setCell ⟨w.heap.size, 4, none⟩ (.int .u64 y5)) = W at *
  go_wp2_with fail
  refine bodyPost_ret (v := .agg #[.int .u64 y0, .string y1, .slice A1 N c1, .int .u64 y4, .int .u64 y5]) (by simp [results, Try.results72, go_sem, j0, j1, j2, j3, j4]) rfl ?_
  exact ⟨_, rfl, OF.out, xf⟩
end Go.Proofs.Ytbmkhopmhmmibaa
