/-
  Package snap: Take.
-/
import Derived.Test.YtbmkhopmhmmibaaSnapA
import Derived.Deep.DeepCutAuto
namespace Go.Proofs.Ytbmkhopmhmmibaa
open Go.RowKit
set_option linter.unusedVariables false

/-- A snapshot's cells. -/
def sncells (own xmin xmax : Nat) (v : Value) : List Value := [.int .u64 (own : Int), .int .u64 (xmin : Int), .int .u64 (xmax : Int), v]
def snv (own xmin xmax : Nat) (v : Value) : Value := .agg #[.int .u64 (own : Int), .int .u64 (xmin : Int), .int .u64 (xmax : Int), v]
def least (R : List Nat) (n : Nat) : Nat := R.headD n
theorem ts_cell {W : World} {B : Nat} {u : Value} (o : Obj) (h : W.cell? ⟨B, 0, none⟩ = some u) : (W.alloc o).cell? ⟨B, 0, none⟩ = some u := (World.cell?_alloc_lt W o _ (World.block_lt_of_cell? _ _ h)).trans h
theorem ts_drewN {W w : World} {a : Addr} {u : Value} {B : Nat} (q : Nat) (h : W.cell? a = some u ∧ Below B w W) : (W.drewN q).cell? a = some u ∧ Below B w (W.drewN q) := ⟨h.1, ⟨h.2.os, h.2.tape, h.2.output, h.2.size, h.2.block⟩⟩
theorem ts_set4 {W : World} {B b : Nat} {u u0 u1 u2 u3 : Value} (hne : B ≠ b) (h : W.cell? ⟨B, 0, none⟩ = some u) : ((((W.setCell ⟨b, 0, none⟩ u0).setCell ⟨b, 1, none⟩ u1).setCell ⟨b, 2, none⟩ u2).setCell ⟨b, 3, none⟩ u3).cell? ⟨B, 0, none⟩ = some u := by
  unfold World.cell? at h ⊢
  rw [heap_setCell_other _ ⟨b, 3, none⟩ B _ hne, heap_setCell_other _ ⟨b, 2, none⟩ B _ hne, heap_setCell_other _ ⟨b, 1, none⟩ B _ hne, heap_setCell_other _ ⟨b, 0, none⟩ B _ hne]
  exact h
theorem below_set4 {w W : World} {b : Nat} {u0 u1 u2 u3 : Value} (h : Below w.heap.size w W) (hb : w.heap.size ≤ b) : Below w.heap.size w ((((W.setCell ⟨b, 0, none⟩ u0).setCell ⟨b, 1, none⟩ u1).setCell ⟨b, 2, none⟩ u2).setCell ⟨b, 3, none⟩ u3) :=
  (((h.setCell hb _).setCell hb _).setCell hb _).setCell hb _
set_option maxRecDepth 100000 in
set_option maxHeartbeats 2000000 in
theorem take_any (w : World) (g f own : Nat) (S : List Nat) (F : Nat → Prop) (h : LG w g f S F) :
    Calls Try.prog 15 #[.pointer (some ⟨g, 0, none⟩), .int .u64 (own : Int)] w fun e w' => ∃ v', e = .returned (snv own (least (others (runs f S) own) (f + S.length)) (f + S.length) v') ∧ w'.ownsRow w.heap.size 28 1 v' (others (runs f S) own).length (ucells .u64 (others (runs f S) own)) ∧ Below w.heap.size w w' := by
  have hmax := h.max
  have hrl := runs_length f S
  obtain ⟨R, hR⟩ : ∃ R, R = runs f S := ⟨_, rfl⟩
  obtain ⟨nx, hnx⟩ : ∃ nx, nx = f + S.length := ⟨_, rfl⟩
  have HN : ∀ W, LG W g f S F → Calls Try.prog 40 #[.pointer (some ⟨g, 0, none⟩)] W fun e w' => e = .returned (.int .u64 (nx : Int)) ∧ ∃ n, w' = W.drewN n := fun W hW => by rw [hnx]; exact lg_next W g f S F hW
  have HA : ∀ W, LG W g f S F → Calls Try.prog 43 #[.pointer (some ⟨g, 0, none⟩)] W fun e w' => ∃ v', e = .returned v' ∧ w'.ownsRow W.heap.size 28 1 v' R.length (ucells .u64 R) ∧ Below W.heap.size W w' := fun W hW => by rw [hR]; exact lg_all W g f S F hW
  rw [← hR, ← hnx]
  rw [← hR] at hrl
  have hRl : R.length ≤ 1099511627777 := by omega
  have HN := Lib.hid HN
  have HA := Lib.hid HA
  clear hR hnx hrl
  have eg : ∀ args w, (callFunc 44 args).run Try.prog w = .ok (.enter 44 args) w := enters_of Try.func44 (by kernel_rfl) rfl
  go_enter Try.func15, Try.ntmps15
  go_wp2_with fail
  have b0 := (Bx.new w 28 #[.int .u64 (own : Int)] [.int .u64 (own : Int)] rfl).alloc (.cells #[.int .u64 0, .int .u64 0, .int .u64 0, .slice none 0 0] 50)
  have r0 := Bx.new (w.alloc (.cells #[.int .u64 (own : Int)] 28)) 50 #[.int .u64 0, .int .u64 0, .int .u64 0, .slice none 0 0] [.int .u64 0, .int .u64 0, .int .u64 0, .slice none 0 0] rfl
  have h0 := (h.alloc (.cells #[.int .u64 (own : Int)] 28)).alloc (.cells #[.int .u64 0, .int .u64 0, .int .u64 0, .slice none 0 0] 50)
  have x0 : Below w.heap.size w ((w.alloc (.cells #[.int .u64 (own : Int)] 28)).alloc (.cells #[.int .u64 0, .int .u64 0, .int .u64 0, .slice none 0 0] 50)) := ((Below.refl _ _).al _).al _
  have hrb : (w.alloc (.cells #[.int .u64 (own : Int)] 28)).heap.size = w.heap.size + 1 := by simp
  rw [hrb] at r0
  clear h hrb
  generalize (w.alloc (.cells #[.int .u64 (own : Int)] 28)).alloc (.cells #[.int .u64 0, .int .u64 0, .int .u64 0, .slice none 0 0] 50) = W0 at *
  refine (HA.out _ h0).mono ?_
  rintro e w1 ⟨v1, rfl, o1, b1⟩
  have hW0 := r0.lt
  have b1' := b0.below b1
  have r1 := r0.below b1
  have h1 := h0.below b1
  have x1 : Below w.heap.size w w1 := x0.trans (b1.mono x0.size)
  have hv1 : ∀ k, v1.ownBlock = some k → W0.heap.size ≤ k := fun k e => (o1.lt k e).1
  have HD := Lib.hid (delf_any w1 W0.heap.size w.heap.size own v1 R o1 b1'.lt (b1'.cell 0) (fun e => by have := hv1 _ e; omega) (by omega))
  obtain ⟨A1, k1, hv1e, _, _, _⟩ := own_form o1
  have hfn : ∀ k, F k → v1.ownBlock ≠ some k := fun k hk e => by have := hv1 k e; have := h0.lt hk; omega
  subst hv1e
  clear o1 b1 h0 r0 b0 x0
  go_wp2_with fail
  refine (HD.out).mono ?_
  rintro e w2 ⟨v2, rfl, hv2, o2, f2⟩
  have b2 := f2.bx b1' fun e => by have := hv1 _ e; omega
  have r2 := f2.bx r1 fun e => by have := hv1 _ e; omega
  have h2 := h1.fr f2 fun k hk e => hfn k hk e
  have x2 : Below w.heap.size w w2 := x1.trans (f2.below (fun k e => by have := hv1 k e; omega) x1.size)
  clear h1 r1 b1' x1 f2 HD hv1 hfn
  obtain ⟨A2, cap2, hv2e, _, _, _⟩ := own_form o2
  subst hv2e
  clear hv2
  obtain ⟨Q, hQ⟩ : ∃ Q, Q = others R own := ⟨_, rfl⟩
  have HQ := Lib.hid hQ
  rw [← hQ] at o2
  have O2 := Lib.hid o2
  clear o2
  have hQl : (others R own).length = Q.length := by rw [hQ]
  rw [hQl]
  clear hQ hQl
  have c2 := b2.cell 0
  go_upto_region 2 with fail
  go_cut [6] (fun s6 wx => ∃ t : Nat, s6 = .pointer (some ⟨t, 0, none⟩) ∧ w2.heap.size ≤ t ∧ Bx wx t 50 (sncells own nx nx (.slice A2 Q.length cap2)) ∧ Below w2.heap.size w2 wx)
  case first =>
    have h2d : LG w2.drew g f S F := h2.drewN 1
    have x2d : Below w2.heap.size w2 w2.drew := below_n w2 1
    have c2s : w2.cell? ⟨w.heap.size, 0, none⟩ = some (.int .u64 (own : Int)) := c2
    have c2d : w2.drew.cell? ⟨w.heap.size, 0, none⟩ = some (.int .u64 (own : Int)) := c2
    have c2a : (w2.alloc (.cells #[.int .u64 0, .int .u64 0, .int .u64 0, .slice none 0 0] 50)).drew.cell? ⟨w.heap.size, 0, none⟩ = some (.int .u64 (own : Int)) := ts_cell _ c2s
    have hA : LG (w2.alloc (.cells #[.int .u64 0, .int .u64 0, .int .u64 0, .slice none 0 0] 50)).drew g f S F := (h2.alloc _).drewN 1
    have xA : Below w2.heap.size w2 (w2.alloc (.cells #[.int .u64 0, .int .u64 0, .int .u64 0, .slice none 0 0] 50)).drew := ((Below.refl _ _).al _).next (below_n _ 1)
    have bA : Bx (w2.alloc (.cells #[.int .u64 0, .int .u64 0, .int .u64 0, .slice none 0 0] 50)).drew w2.heap.size 50 [.int .u64 0, .int .u64 0, .int .u64 0, .slice none 0 0] := Bx.new w2 50 _ _ rfl
    have hneB : w.heap.size ≠ w2.heap.size := by have := b2.lt; omega
    have hltB : w.heap.size < w2.heap.size := b2.lt
    go_region_held3 (fun w' => w'.cell? ⟨w.heap.size, 0, none⟩ = some (.int .u64 (own : Int))) (first | (with_reducible assumption) | (with_reducible exact c2d) | (with_reducible exact c2a) | (with_reducible exact ts_cell _ (by assumption)) | (with_reducible exact ts_set4 (by assumption) (by assumption)))
      (first
      | (go_at_call 40; (with_reducible refine (HN.out _ ?_).mono ?_); exact h4; rintro e w5 ⟨rfl, q5, hw5⟩; have bt5 := bt4.below (below_n _ q5); have xt5 := xt4.next (below_n _ q5); have hS5 : w5.cell? ⟨w.heap.size, 0, none⟩ = some (.int .u64 (own : Int)) := (by rw [hw5]; exact hS4); rw [← hw5] at xt5 bt5; clear hw5; have k0 := bt5.cell 0; have k1 := bt5.cell 1; have k2 := bt5.cell 2; have k3 := bt5.cell 3; have f0 := bt5.frozen 0; have f1 := bt5.frozen 1; have f2 := bt5.frozen 2; have f3 := bt5.frozen 3; have hne4 : w.heap.size ≠ w2.heap.size := hneB)
      | (go_at_call 40; (with_reducible refine (HN.out _ ?_).mono ?_); exact h4.alloc _; rintro e w5 ⟨rfl, q5, hw5⟩; have bt5 := (Bx.new w4 50 #[.int .u64 0, .int .u64 0, .int .u64 0, .slice none 0 0] [.int .u64 0, .int .u64 0, .int .u64 0, .slice none 0 0] rfl).below (below_n _ q5); have xt5 := (xt4.al (.cells #[.int .u64 0, .int .u64 0, .int .u64 0, .slice none 0 0] 50)).next (below_n _ q5); have hS5 : w5.cell? ⟨w.heap.size, 0, none⟩ = some (.int .u64 (own : Int)) := (by rw [hw5]; exact ts_cell _ hS4); rw [← hw5] at xt5 bt5; clear hw5; have k0 := bt5.cell 0; have k1 := bt5.cell 1; have k2 := bt5.cell 2; have k3 := bt5.cell 3; have f0 := bt5.frozen 0; have f1 := bt5.frozen 1; have f2 := bt5.frozen 2; have f3 := bt5.frozen 3; have hne4 : w.heap.size ≠ w4.heap.size := (by have := xt4.size; omega))
      | (go_at_call 40; (with_reducible refine (HN.out _ ?_).mono ?_); exact h4; rintro e w5 ⟨rfl, q5, hw5⟩; have xt5 := xt4.next (below_n _ q5); have hS5 : w5.cell? ⟨w.heap.size, 0, none⟩ = some (.int .u64 (own : Int)) := (by rw [hw5]; exact hS4); rw [← hw5] at xt5; clear hw5)
      | (go_at_call 40; (with_reducible refine (HN.out _ ?_).mono ?_); exact h2d; rintro e w4 ⟨rfl, q4, hw4⟩; have h4 := h2d.drewN q4; have xt4 := x2d.next (below_n _ q4); have hS4 : w4.cell? ⟨w.heap.size, 0, none⟩ = some (.int .u64 (own : Int)) := (by rw [hw4]; exact c2d); rw [← hw4] at h4 xt4; clear hw4)
      | (go_at_call 40; (with_reducible refine (HN.out _ ?_).mono ?_); exact hA; rintro e w4 ⟨rfl, q4, hw4⟩; have h4 := hA.drewN q4; have xt4 := xA.next (below_n _ q4); have bt4 := bA.below (below_n _ q4); have hS4 : w4.cell? ⟨w.heap.size, 0, none⟩ = some (.int .u64 (own : Int)) := (by rw [hw4]; exact c2a); rw [← hw4] at h4 xt4 bt4; clear hw4))
    · go_wp2_with fail
      go_meet
      exact ⟨_, rfl, xt5.size, Bx.new w5 50 _ _ rfl, xt5.al _⟩
    · go_wp2_with fail
      go_meet
      exact ⟨_, rfl, xt4.size, ((((bt5.set 0 _).set 1 _).set 2 _).set 3 _), below_set4 xt5 xt4.size⟩
    · go_wp2_with fail
      go_meet
      exact ⟨_, rfl, Nat.le_refl _, ((((bt5.set 0 _).set 1 _).set 2 _).set 3 _), below_set4 xt5 (Nat.le_refl _)⟩
  case rest =>
    obtain ⟨t, rfl, ht, bt, xt⟩ := hcut
    have rt := r2.below xt
    have O3 := Lib.hid (own_below O2.out xt)
    have x3 : Below w.heap.size w wc := x2.trans (xt.mono x2.size)
    have hz2 := x2.size
    have hlt2 : w.heap.size + 1 < w2.heap.size := r2.lt
    clear r2 xt x2 b2 h2 c2
    have hne : t ≠ w.heap.size + 1 := by omega
    have hr1 : ∀ k, (Value.slice A2 Q.length cap2).ownBlock = some k → k ≠ w.heap.size + 1 := fun k e => by have := (O3.out.lt k e).1; omega
    have hbase : w.heap.size ≤ W0.heap.size := by omega
    have HR1 := Lib.hid hr1
    clear hr1 O2
    have d0 := rt.cell 0
    have d1 := rt.cell 1
    have d2 := rt.cell 2
    have d3 := rt.cell 3
    have z0 := rt.frozen 0
    have z1 := rt.frozen 1
    have z2 := rt.frozen 2
    have z3 := rt.frozen 3
    have k0 : wc.cell? ⟨t, 0, none⟩ = some (.int .u64 (own : Int)) := bt.cell 0
    have k1 : wc.cell? ⟨t, 1, none⟩ = some (.int .u64 (nx : Int)) := bt.cell 1
    have k2 : wc.cell? ⟨t, 2, none⟩ = some (.int .u64 (nx : Int)) := bt.cell 2
    have k3 : wc.cell? ⟨t, 3, none⟩ = some (.slice A2 Q.length cap2) := bt.cell 3
    cases Q with
    | nil =>
      clear bt
      go_wp2
      have bz := ((((rt.set 0 (.int .u64 (own : Int))).set 1 (.int .u64 (nx : Int))).set 2 (.int .u64 (nx : Int))).set 3 (.slice A2 0 cap2))
      have fz : Fr (fun k => k = w.heap.size + 1) (wc) (((((wc).setCell ⟨w.heap.size + 1, 0, none⟩ (.int .u64 (own : Int))).setCell ⟨w.heap.size + 1, 1, none⟩ (.int .u64 (nx : Int))).setCell ⟨w.heap.size + 1, 2, none⟩ (.int .u64 (nx : Int))).setCell ⟨w.heap.size + 1, 3, none⟩ (.slice A2 0 cap2)) := Fr.set (Fr.set (Fr.set (Fr.set (S := fun k => k = w.heap.size + 1) (Fr.refl _ _) (.inl rfl) 0 _) (.inl rfl) 1 _) (.inl rfl) 2 _) (.inl rfl) 3 _
      have oz := fz.own O3.out fun k e => HR1.out k e
      have xz := below_set4 (u0 := .int .u64 (own : Int)) (u1 := .int .u64 (nx : Int)) (u2 := .int .u64 (nx : Int)) (u3 := .slice A2 0 cap2) x3 (Nat.le_succ w.heap.size)
      clear fz
      generalize ((((wc).setCell ⟨w.heap.size + 1, 0, none⟩ (.int .u64 (own : Int))).setCell ⟨w.heap.size + 1, 1, none⟩ (.int .u64 (nx : Int))).setCell ⟨w.heap.size + 1, 2, none⟩ (.int .u64 (nx : Int))).setCell ⟨w.heap.size + 1, 3, none⟩ (.slice A2 0 cap2) = W at *
      have j0 : W.cell? ⟨w.heap.size + 1, 0, none⟩ = some (.int .u64 (own : Int)) := bz.cell 0
      have j1 : W.cell? ⟨w.heap.size + 1, 1, none⟩ = some (.int .u64 (nx : Int)) := bz.cell 1
      have j2 : W.cell? ⟨w.heap.size + 1, 2, none⟩ = some (.int .u64 (nx : Int)) := bz.cell 2
      have j3 : W.cell? ⟨w.heap.size + 1, 3, none⟩ = some (.slice A2 0 cap2) := bz.cell 3
      refine bodyPost_ret (v := snv own nx nx (.slice A2 0 cap2)) (by simp [snv, results, Try.results15, go_sem, j0, j1, j2, j3]) rfl ?_
      rw [← HQ.out]
      exact ⟨_, rfl, own_le oz hbase, xz⟩
    | cons q Q =>
      obtain ⟨gq, cq, hvq, _, _, _⟩ := own_shape O3.out (by simp)
      injection hvq with hA2 _ hcq
      subst hA2 hcq
      have kq := (O3.out.cellAt 0 (by simp)).trans (ucells_get .u64 (q :: Q) 0 (by simp))
      have ixq := idx_u64 gq (q :: Q).length cap2 0 (by simp)
      have zt1 := bt.frozen 1
      have bt' := bt.set 1 (.int .u64 (q : Int))
      have ft : Fr (fun k => k = t) wc (wc.setCell ⟨t, 1, none⟩ (.int .u64 (q : Int))) := Fr.set (S := fun k => k = t) (Fr.refl _ _) (.inl rfl) 1 _
      have O4 := Lib.hid (ft.own O3.out fun k e => by
        have h1 := (O3.out.lt k e).1
        intro hk
        subst hk
        have h2 := (own_ty O3.out e)
        exact h2.ne bt.ty (by decide) rfl)
      have x4 : Below w.heap.size w (wc.setCell ⟨t, 1, none⟩ (.int .u64 (q : Int))) := x3.setCell (by show w.heap.size ≤ t; omega) _
      have rt4 := ft.bx rt (fun e => hne e.symm)
      have e0 : (wc.setCell ⟨t, 1, none⟩ (.int .u64 (q : Int))).cell? ⟨t, 0, none⟩ = some (.int .u64 (own : Int)) := bt'.cell 0
      have e1 : (wc.setCell ⟨t, 1, none⟩ (.int .u64 (q : Int))).cell? ⟨t, 1, none⟩ = some (.int .u64 (q : Int)) := bt'.cell 1
      have e2 : (wc.setCell ⟨t, 1, none⟩ (.int .u64 (q : Int))).cell? ⟨t, 2, none⟩ = some (.int .u64 (nx : Int)) := bt'.cell 2
      have e3 : (wc.setCell ⟨t, 1, none⟩ (.int .u64 (q : Int))).cell? ⟨t, 3, none⟩ = some (.slice (some ⟨gq, 0, none⟩) (q :: Q).length cap2) := bt'.cell 3
      have y0 := rt4.cell 0
      have y1 := rt4.cell 1
      have y2 := rt4.cell 2
      have y3 := rt4.cell 3
      have v0 := rt4.frozen 0
      have v1 := rt4.frozen 1
      have v2 := rt4.frozen 2
      have v3 := rt4.frozen 3
      clear bt bt' ft d0 d1 d2 d3 z0 z1 z2 z3 rt
      have hL : (0 : Int) < ((q :: Q).length : Int) := by rw [List.length_cons]; omega
      generalize hn : (q :: Q).length = n at *
      go_upto_region 5 with fail
      generalize hW : wc.setCell ⟨t, 1, none⟩ (.int .u64 (q : Int)) = V at *
      go_wp2
      have bz := ((((rt4.set 0 (.int .u64 (own : Int))).set 1 (.int .u64 (q : Int))).set 2 (.int .u64 (nx : Int))).set 3 (.slice (some ⟨gq, 0, none⟩) n cap2))
      have fz : Fr (fun k => k = w.heap.size + 1) (V) (((((V).setCell ⟨w.heap.size + 1, 0, none⟩ (.int .u64 (own : Int))).setCell ⟨w.heap.size + 1, 1, none⟩ (.int .u64 (q : Int))).setCell ⟨w.heap.size + 1, 2, none⟩ (.int .u64 (nx : Int))).setCell ⟨w.heap.size + 1, 3, none⟩ (.slice (some ⟨gq, 0, none⟩) n cap2)) := Fr.set (Fr.set (Fr.set (Fr.set (S := fun k => k = w.heap.size + 1) (Fr.refl _ _) (.inl rfl) 0 _) (.inl rfl) 1 _) (.inl rfl) 2 _) (.inl rfl) 3 _
      have oz := fz.own O4.out fun k e => HR1.out k e
      have xz := below_set4 (u0 := .int .u64 (own : Int)) (u1 := .int .u64 (q : Int)) (u2 := .int .u64 (nx : Int)) (u3 := .slice (some ⟨gq, 0, none⟩) n cap2) x4 (Nat.le_succ w.heap.size)
      clear fz
      generalize (((((V).setCell ⟨w.heap.size + 1, 0, none⟩ (.int .u64 (own : Int))).setCell ⟨w.heap.size + 1, 1, none⟩ (.int .u64 (q : Int))).setCell ⟨w.heap.size + 1, 2, none⟩ (.int .u64 (nx : Int))).setCell ⟨w.heap.size + 1, 3, none⟩ (.slice (some ⟨gq, 0, none⟩) n cap2)) = W at *
      have j0 : W.cell? ⟨w.heap.size + 1, 0, none⟩ = some (.int .u64 (own : Int)) := bz.cell 0
      have j1 : W.cell? ⟨w.heap.size + 1, 1, none⟩ = some (.int .u64 (q : Int)) := bz.cell 1
      have j2 : W.cell? ⟨w.heap.size + 1, 2, none⟩ = some (.int .u64 (nx : Int)) := bz.cell 2
      have j3 : W.cell? ⟨w.heap.size + 1, 3, none⟩ = some (.slice (some ⟨gq, 0, none⟩) n cap2) := bz.cell 3
      refine bodyPost_ret (v := snv own q nx (.slice (some ⟨gq, 0, none⟩) n cap2)) (by simp [snv, results, Try.results15, go_sem, j0, j1, j2, j3]) rfl ?_
      rw [← HQ.out]
      subst hn
      exact ⟨_, rfl, own_le oz hbase, xz⟩
end Go.Proofs.Ytbmkhopmhmmibaa
