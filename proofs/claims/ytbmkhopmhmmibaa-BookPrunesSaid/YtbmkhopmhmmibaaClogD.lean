/-
  Package clog: Begin.
-/
import Derived.Test.YtbmkhopmhmmibaaClogC
namespace Go.Proofs.Ytbmkhopmhmmibaa
open Go.RowKit
set_option linter.unusedVariables false

/-- A log in memory, whatever stands in its row of those that run. -/
structure Lh (w : World) (g : Nat) (v rv : Value) (f : Nat) (S R : List Nat) : Prop where
  box : Bx w g 96 [.int .u64 (f : Int), v, rv]
  row : w.ownsRow 0 5 1 v S.length (ucells .u8 S)
  run : w.ownsRow 0 28 1 rv R.length (ucells .u64 R)
section
variable {w w1 : World} {g f : Nat} {v rv v1 : Value} {S R : List Nat} {T : Nat → Prop}
theorem Lh.fr (h : Lh w g v rv f S R) (hf : Fr T w w1) (hn : ∀ k, Lf g v rv k → ¬ T k) : Lh w1 g v rv f S R :=
  ⟨hf.bx h.box (hn g (.inl rfl)), hf.own h.row fun k e => hn k (.inr (.inl e)), hf.own h.run fun k e => hn k (.inr (.inr e))⟩
theorem Lh.alloc (h : Lh w g v rv f S R) (o : Obj) : Lh (w.alloc o) g v rv f S R := h.fr (T := fun _ => False) (Fr.of_below ((Below.refl _ _).alloc (Nat.le_refl _) o)) fun _ _ hh => hh
theorem Lh.drewN (h : Lh w g v rv f S R) (n : Nat) : Lh (w.drewN n) g v rv f S R := ⟨h.box, h.row, h.run⟩
theorem fr_alloc (w : World) (o : Obj) (T : Nat → Prop) : Fr T w (w.alloc o) := Fr.of_below ((Below.refl _ _).alloc (Nat.le_refl _) o)
theorem Lh.app1 (h : Lh w g v rv f S R) (s : Nat) (hg : w.grownBy w1 v.ownBlock) (ha : v1.ownBlock = v.ownBlock ∨ v1.ownBlock = some w.heap.size) (ho : w1.ownsRow 0 5 1 v1 (S.length + 1) (ucells .u8 S ++ ucells .u8 [s])) :
    Lh (w1.setCell ⟨g, 1, none⟩ v1) g v1 rv f (S ++ [s]) R ∧ Chg (Lf g v rv) (Lf g v1 rv) w (w1.setCell ⟨g, 1, none⟩ v1) := by
  have f1 : Fr (fun k => v.ownBlock = some k) w w1 := Fr.of_own hg fun k e => e
  have hb := f1.bx h.box fun e => h.box.ty.ne (own_ty h.row e) (by decide) rfl
  have hr := f1.own h.run fun k e e' => (own_ty h.run e).ne (own_ty h.row e') (by decide) rfl
  have f2 : Fr (fun k => k = g) w1 (w1.setCell ⟨g, 1, none⟩ v1) := Fr.set (S := fun k => k = g) (Fr.refl _ _) (.inl rfl) 1 v1
  refine ⟨⟨hb.set 1 v1, ?_, f2.own hr fun k e => (own_ty hr e).ne hb.ty (by decide)⟩, ?_, fun k hk => ?_⟩
  · have := f2.own ho fun k e => (own_ty ho e).ne hb.ty (by decide)
    rwa [← ucells_append, ← List.length_singleton (a := s), ← List.length_append] at this
  · exact (f1.mono fun k e => (.inr (.inl e) : Lf g v rv k)).trans f2 fun k e => .inl (.inl e)
  · rcases hk with hk | hk | hk
    · exact .inl (.inl hk)
    · rcases ha with ha | ha
      · exact .inl (.inr (.inl (ha ▸ hk)))
      · rw [ha] at hk; injection hk with hk; exact .inr (by omega)
    · exact .inl (.inr (.inr hk))
theorem Lh.app2 (h : Lh w g v rv f S R) (x : Nat) (hg : w.grownBy w1 rv.ownBlock) (ha : v1.ownBlock = rv.ownBlock ∨ v1.ownBlock = some w.heap.size) (ho : w1.ownsRow 0 28 1 v1 (R.length + 1) (ucells .u64 R ++ ucells .u64 [x])) :
    Lh (w1.setCell ⟨g, 2, none⟩ v1) g v v1 f S (R ++ [x]) ∧ Chg (Lf g v rv) (Lf g v v1) w (w1.setCell ⟨g, 2, none⟩ v1) := by
  have f1 : Fr (fun k => rv.ownBlock = some k) w w1 := Fr.of_own hg fun k e => e
  have hb := f1.bx h.box fun e => h.box.ty.ne (own_ty h.run e) (by decide) rfl
  have hr := f1.own h.row fun k e e' => (own_ty h.row e).ne (own_ty h.run e') (by decide) rfl
  have f2 : Fr (fun k => k = g) w1 (w1.setCell ⟨g, 2, none⟩ v1) := Fr.set (S := fun k => k = g) (Fr.refl _ _) (.inl rfl) 2 v1
  refine ⟨⟨hb.set 2 v1, f2.own hr fun k e => (own_ty hr e).ne hb.ty (by decide), ?_⟩, ?_, fun k hk => ?_⟩
  · have := f2.own ho fun k e => (own_ty ho e).ne hb.ty (by decide)
    rwa [← ucells_append, ← List.length_singleton (a := x), ← List.length_append] at this
  · exact (f1.mono fun k e => (.inr (.inr e) : Lf g v rv k)).trans f2 fun k e => .inl (.inl e)
  · rcases hk with hk | hk | hk
    · exact .inl (.inl hk)
    · exact .inl (.inr (.inl hk))
    · rcases ha with ha | ha
      · exact .inl (.inr (.inr (ha ▸ hk)))
      · rw [ha] at hk; injection hk with hk; exact .inr (by omega)
end
theorem Lg.lh {w : World} {g f : Nat} {v rv : Value} {S : List Nat} (h : Lg w g v rv f S) : Lh w g v rv f S (runs f S) := ⟨h.box, h.row, h.run⟩
theorem Chg.step {F F1 : Nat → Prop} {w W w1 : World} (hb : Below w.heap.size w W) (h : Chg F F1 W w1) : Chg F F1 w w1 :=
  ⟨⟨h.fr.os.trans hb.os, h.fr.tape.trans hb.tape, h.fr.output.trans hb.output, Nat.le_trans hb.size h.fr.size, fun k hk hn => (h.fr.block k (Nat.lt_of_lt_of_le hk hb.size) hn).trans (hb.block k hk)⟩, fun k hk => (h.new k hk).imp id fun h => Nat.le_trans hb.size h⟩

theorem begin_nil (w : World) :
    Calls Try.prog 13 #[.pointer none] w fun e w' => e = .returned (.tuple #[.int .u64 0, .int .i64 15]) ∧ w' = w := by
  go_enter Try.func13, Try.ntmps13
  go_wp2
  refine bodyPost_ret (v := .tuple #[.int .u64 0, .int .i64 15]) (by simp [results, Try.results13, go_sem]) rfl ?_
  exact ⟨rfl, rfl⟩
theorem begin_full (w : World) (g f : Nat) (v rv : Value) (S : List Nat) (h : Lg w g v rv f S) (hfull : f + S.length = 1099511627777) :
    Calls Try.prog 13 #[.pointer (some ⟨g, 0, none⟩)] w fun e w' => e = .returned (.tuple #[.int .u64 0, .int .i64 12]) ∧ ∃ n, w' = w.drewN n := by
  have hn := next_any w g f v rv S h
  rw [hfull] at hn
  have HN := Lib.hid hn
  clear hn h
  go_enter Try.func13, Try.ntmps13
  go_wp2_with (go_at_call 40; (with_reducible refine (HN.out).mono ?_); rintro e w1 ⟨rfl, n, rfl⟩)
  refine bodyPost_ret (v := .tuple #[.int .u64 0, .int .i64 12]) (by simp [results, Try.results13, go_sem]) rfl ?_
  exact ⟨rfl, n, rfl⟩
set_option maxRecDepth 100000 in
set_option maxHeartbeats 1000000 in
theorem begin_ok (w : World) (g f : Nat) (v rv : Value) (S : List Nat) (h : Lg w g v rv f S) (hmax : f + S.length ≤ 1099511627776) :
    Calls Try.prog 13 #[.pointer (some ⟨g, 0, none⟩)] w fun e w' => e = .returned (.tuple #[.int .u64 ((f + S.length : Nat) : Int), .int .i64 0]) ∧ ∃ v' rv', Lg w' g v' rv' f (S ++ [1]) ∧ Chg (Lf g v rv) (Lf g v' rv') w w' := by
  obtain ⟨i0, hi0, hz0, hz1, hz2⟩ := info_parts4 info_u8c
  obtain ⟨i1, hi1, hy0, hy1, hy2⟩ := info_parts4 info_u64
  have HH := Lib.hid h
  have HN := Lib.hid (next_any w g f v rv S h)
  have hl := runs_length f S
  have hps := h.pos
  have hlh := h.lh
  have HL := Lib.hid (rfl : runs f S = runs f S)
  obtain ⟨R, hR⟩ : ∃ R, R = runs f S := ⟨_, rfl⟩
  rw [← hR] at hlh hl
  have HR := Lib.hid hR
  obtain ⟨x, hx⟩ : ∃ x, x = f + S.length := ⟨_, rfl⟩
  rw [← hx] at HN hmax ⊢
  have HX := Lib.hid hx
  have hSl : S.length ≤ 1099511627776 := by omega
  have hRl : R.length ≤ 1099511627776 := by omega
  have hc1 : ¬ (1099511627776 : Int) < (x : Int) := by omega
  clear hR hx hl h hps
  go_enter Try.func13, Try.ntmps13
  go_wp2_with fail
  refine (HN.out).mono ?_
  rintro e w0 ⟨rfl, n, hw0⟩
  have L0 : Lh w0 g v rv f S R := by rw [hw0]; exact hlh.drewN n
  have hB0 : Below w.heap.size w w0 := by rw [hw0]; exact below_n w n
  clear hw0 hlh
  have c1 := L0.box.cell 1
  have fz1 := L0.box.frozen 1
  have LA := L0.alloc (.cells #[.int .u8 1] 5)
  have HA := Lib.hid ((fr_alloc w0 (.cells #[.int .u8 1] 5) (Lf g v rv)))
  clear L0
  go_wp2_with (first
    | (at_builtin; refine wpList_append_src _ rfl (.tmp 15) (.tmp 16) 94 94 rfl 0 5 _ _ 1 1 Try.underlying94 hi0 hz0 hz1 hz2 rfl _ _ _ rfl LA.row _ 1 (ucells .u8 [1]) rfl (src_rd Try.underlying94 _ (rd_lit (by first | rfl | simp) rfl rfl) (by decide) (ucells_one _ _)) (by simp only [maxLen]; omega) (by omega) (by simp) ?_; intro v1 w1 ho1 hg1 ha1; obtain ⟨g1, k1, rfl, _, _, _⟩ := own_shape ho1 (by omega); have L1 := LA.app1 1 hg1 ha1 ho1; have hb1 := (Fr.of_own (S := fun k => v.ownBlock = some k) hg1 fun k e => e).bx LA.box fun e => LA.box.ty.ne (own_ty LA.row e) (by decide) rfl; have d1 := hb1.cell 1; have z1 := hb1.frozen 1; have d2 := L1.1.box.cell 2; have z2 := L1.1.box.frozen 2; have LB := L1.1.alloc (.cells #[.int .u64 (x : Int)] 28); have C1 := Lib.hid L1.2; clear L1 hb1 ho1 hg1 ha1 LA)
    | (at_builtin; refine wpList_append_src _ rfl (.tmp 24) (.tmp 26) 48 48 rfl 0 28 _ _ 1 8 Try.underlying48 hi1 hy0 hy1 hy2 rfl _ _ _ rfl LB.run _ 1 (ucells .u64 [x]) rfl (src_rd Try.underlying48 _ (rd_lit (by first | rfl | simp) rfl rfl) (by decide) (ucells_one _ _)) (by simp only [maxLen]; omega) (by omega) (by simp) ?_; intro v2 w2 ho2 hg2 ha2; obtain ⟨g2, k2, rfl, _, _, _⟩ := own_shape ho2 (by omega); have L2 := LB.app2 x hg2 ha2 ho2; have hb2 := (Fr.of_own (S := fun k => rv.ownBlock = some k) hg2 fun k e => e).bx LB.box fun e => LB.box.ty.ne (own_ty LB.run e) (by decide) rfl; have e2 := hb2.cell 2; have y2 := hb2.frozen 2; have C2 := Lib.hid L2.2; have LE := Lib.hid L2.1; clear L2 hb2 ho2 hg2 ha2 LB))
  refine bodyPost_ret (v := .tuple #[.int .u64 (x : Int), .int .i64 0]) (by simp [results, Try.results13, go_sem]) rfl ?_
  refine ⟨rfl, _, _, ⟨LE.out.box, LE.out.row, ?_, HH.out.pos, by rw [List.length_append, List.length_singleton]; have := HX.out; omega, fun s hs => ?_⟩, ?_⟩
  · have := LE.out.run
    have e : R ++ [x] = runs f (S ++ [1]) := by rw [HX.out, HR.out, runs_append]
    rw [e] at this
    exact this
  · rcases List.mem_append.1 hs with h | h
    · exact HH.out.sts s h
    · have := List.mem_singleton.1 h; omega
  · exact Chg.step hB0 (Chg.trans ⟨HA.out, fun k hk => .inl hk⟩ (C1.out.trans (Chg.trans ⟨fr_alloc _ _ _, fun k hk => .inl hk⟩ C2.out)))
end Go.Proofs.Ytbmkhopmhmmibaa
