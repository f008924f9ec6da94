/-
  Package clog: end, Commit, Abort.
-/
import Derived.Test.YtbmkhopmhmmibaaClogD
import Derived.Test.YtbmkhopmhmmibaaShelf
import Derived.Lib.OwnBridge
namespace Go.Proofs.Ytbmkhopmhmmibaa
open Go.RowKit Go.Sort
set_option linter.unusedVariables false

theorem fr_put {enc : Nat → Value} {w : World} {g q : Nat} {d : Array Nat} {T : Nat → Prop} (h : T g) : Fr T w (putRow enc (Sort.ahead w q) g 0 d) :=
  ⟨rfl, rfl, rfl, by simp [putRow, mapBlock, Sort.ahead], fun k hk hn => by
    have hne : g ≠ k := fun e => hn (e ▸ h)
    simp [putRow, mapBlock, Sort.ahead, Array.getElem?_modify, hne]⟩
theorem del_any (w : World) (base : Nat) (v : Value) (R : List Nat) (i : Nat) (h : w.ownsRow base 28 1 v R.length (ucells .u64 R)) (hi : i < R.length) :
    Calls Try.prog 78 #[v, .int .i64 (i : Int), .int .i64 ((i : Int) + 1)] w fun e w' => ∃ v', e = .returned v' ∧ v'.ownBlock = v.ownBlock ∧ w'.ownsRow base 28 1 v' (R.take i ++ R.drop (i + 1)).length (ucells .u64 (R.take i ++ R.drop (i + 1))) ∧ Fr (fun k => v.ownBlock = some k) w w' ∧ ∃ g c, v' = .slice (some ⟨g, 0, none⟩) (R.length - 1) c := by
  obtain ⟨i1, hi1, hy0, hy1, hy2⟩ := info_parts4 info_u64
  have h' : w.ownsRow base 28 1 v R.length (R.map fun n : Nat => Value.int .u64 (n : Int)) := h
  obtain ⟨g, c, rfl, _, _, hnc, hmc, hl, hH⟩ := Lib.holds_of_ownsRow h' (fun e => by
    rcases h.2 with ⟨_, h0⟩ | ⟨_, _, _, e2, _⟩
    · omega
    · rw [e] at e2; cases e2)
  have hd := Try.slices_Delete (fun n : Nat => Value.int .u64 (n : Int)) (fun _ => rfl) 0 (fun w => Try.zeroValue28 w) i1 hi1 hy1 g 0 c i (i + 1) R.toArray w hH (by simpa using hnc) (by unfold maxLen at hmc; omega) (by omega) (by simp; omega)
  have e1 : ((i + 1 : Nat) : Int) = (i : Int) + 1 := by omega
  rw [List.size_toArray, e1] at hd
  refine hd.mono ?_
  rintro e w' ⟨rfl, q, rfl⟩
  have hlen : (R.take i ++ R.drop (i + 1)).length = R.length - 1 := by simp; omega
  have hown := Lib.ownsRow_putRow (q := q) (n := R.length) (k := R.length - 1) (ys := R.take i ++ R.drop (i + 1) ++ List.replicate (i + 1 - i) 0) h' (by simp; omega) (by omega)
  have htake : (R.take i ++ R.drop (i + 1) ++ List.replicate (i + 1 - i) 0).take (R.length - 1) = R.take i ++ R.drop (i + 1) := List.take_left' hlen
  rw [htake] at hown
  refine ⟨_, rfl, rfl, ?_, fr_put rfl, g, c, by rw [show i + 1 - i = 1 by omega]⟩
  rw [hlen]
  rw [show R.length - (i + 1 - i) = R.length - 1 by omega]
  exact hown
section
variable {w w1 : World} {g f : Nat} {v rv v1 : Value} {S R : List Nat}
theorem Lh.store (h : Lh w g v rv f S R) {gb c k : Nat} (hv : v = .slice (some ⟨gb, 0, none⟩) S.length c) (s : Nat) :
    Lh (w.setCell ⟨gb, k, none⟩ (.int .u8 (s : Int))) g v rv f (S.set k s) R ∧ Fr (Lf g v rv) w (w.setCell ⟨gb, k, none⟩ (.int .u8 (s : Int))) := by
  have hgb : v.ownBlock = some gb := by rw [hv]; rfl
  have f2 : Fr (fun k => k = gb) w (w.setCell ⟨gb, k, none⟩ (.int .u8 (s : Int))) := Fr.set (S := fun k => k = gb) (Fr.refl _ _) (.inl rfl) k _
  have hT := own_ty h.row hgb
  refine ⟨⟨f2.bx h.box (h.box.ty.ne hT (by decide)), ?_, f2.own h.run fun q e => (own_ty h.run e).ne hT (by decide)⟩, f2.mono fun q e => .inr (.inl (e ▸ hgb))⟩
  have h1 := h.row
  subst hv
  have h2 := (h1.stored k (.int .u8 (s : Int))).1
  rw [List.length_set, ucells_set]
  exact h2
theorem Lh.drop (h : Lh w g v rv f S R) {R' : List Nat} (hf : Fr (fun k => rv.ownBlock = some k) w w1) (ha : v1.ownBlock = rv.ownBlock) (ho : w1.ownsRow 0 28 1 v1 R'.length (ucells .u64 R')) :
    Lh (w1.setCell ⟨g, 2, none⟩ v1) g v v1 f S R' ∧ Chg (Lf g v rv) (Lf g v v1) w (w1.setCell ⟨g, 2, none⟩ v1) := by
  have hb := hf.bx h.box fun e => h.box.ty.ne (own_ty h.run e) (by decide) rfl
  have hr := hf.own h.row fun k e e' => (own_ty h.row e).ne (own_ty h.run e') (by decide) rfl
  have f2 : Fr (fun k => k = g) w1 (w1.setCell ⟨g, 2, none⟩ v1) := Fr.set (S := fun k => k = g) (Fr.refl _ _) (.inl rfl) 2 v1
  refine ⟨⟨hb.set 2 v1, f2.own hr fun k e => (own_ty hr e).ne hb.ty (by decide), f2.own ho fun k e => (own_ty ho e).ne hb.ty (by decide)⟩, ?_, fun k hk => ?_⟩
  · exact (hf.mono fun k e => (.inr (.inr e) : Lf g v rv k)).trans f2 fun k e => .inl (.inl e)
  · rcases hk with hk | hk | hk
    · exact .inl (.inl hk)
    · exact .inl (.inr (.inl hk))
    · exact .inl (.inr (.inr (ha ▸ hk)))
end
theorem end_nil (w : World) (x s : Nat) :
    Calls Try.prog 46 #[.pointer none, .int .u64 (x : Int), .int .u8 (s : Int)] w fun e w' => e = .returned (.int .i64 15) ∧ w' = w := by
  go_enter Try.func46, Try.ntmps46
  go_wp2_with (go_at_call 28; (with_reducible refine (state_nil _ _).mono ?_); rintro e w1 ⟨rfl, hw1⟩; have hw := hw1.symm; subst hw)
  go_ret
  exact ⟨rfl, rfl⟩
theorem end_no (w : World) (g f x s : Nat) (v rv : Value) (S : List Nat) (h : Lg w g v rv f S) (hst : stt f S x ≠ 1) :
    Calls Try.prog 46 #[.pointer (some ⟨g, 0, none⟩), .int .u64 (x : Int), .int .u8 (s : Int)] w fun e w' => e = .returned (.int .i64 15) ∧ ∃ n, w' = w.drewN n := by
  have HN := Lib.hid (state_any w g f x v rv S h)
  have hd : ((stt f S x : Int) == 1) = false := beq_eq_false_iff_ne.2 (by omega)
  clear h
  go_enter Try.func46, Try.ntmps46
  go_wp2_with (go_at_call 28; (with_reducible refine (HN.out).mono ?_); rintro e w1 ⟨rfl, n, rfl⟩)
  go_ret
  exact ⟨rfl, n, rfl⟩
set_option maxRecDepth 100000 in
set_option maxHeartbeats 1000000 in
theorem end_yes (w : World) (g f x s : Nat) (v rv : Value) (S : List Nat) (h : Lg w g v rv f S) (hst : stt f S x = 1) (hs : s ≠ 1) (hs2 : s < 256) (hx64 : x < 18446744073709551616) :
    Calls Try.prog 46 #[.pointer (some ⟨g, 0, none⟩), .int .u64 (x : Int), .int .u8 (s : Int)] w fun e w' => e = .returned (.int .i64 0) ∧ ∃ rv', Lg w' g v rv' f (S.set (x - f) s) ∧ Chg (Lf g v rv) (Lf g v rv') w w' := by
  have HH := Lib.hid h
  have hN := state_any w g f x v rv S h
  rw [hst] at hN
  have HN := Lib.hid hN
  obtain ⟨hx1, hx2⟩ := stt_lt (by rw [hst]; decide : stt f S x ≠ 0)
  obtain ⟨i, hi⟩ := runs_pos hst
  have hsort := runs_sorted f S
  have hset := runs_set hst hs
  rw [filter_at hsort hi] at hset
  have hlt := (List.getElem?_eq_some_iff.1 hi).1
  have hlen := runs_length f S
  have hmax := h.max
  have hlh := h.lh
  have HSET := Lib.hid hset
  clear hset
  obtain ⟨R, hR⟩ : ∃ R, R = runs f S := ⟨_, rfl⟩
  rw [← hR] at hlh hi hsort hlt hlen HSET
  have HI := Lib.hid hi
  have HS := Lib.hid hsort
  have hk : x - f < S.length := by omega
  have hxf : IntKind.u64.wrap ((x : Int) - (f : Int)) = ((x - f : Nat) : Int) := by rw [show (x : Int) - (f : Int) = ((x - f : Nat) : Int) by omega]; exact IntWalk.u64_in _ (by omega)
  have hRl : R.length ≤ 1099511627777 := by omega
  have HST := Lib.hid hst
  clear hR hi hsort hN h hst
  generalize x - f = k at *
  have hv0 := hlh.row
  obtain ⟨gb, c, hv, _, hnc, hmc⟩ := own_shape hv0 (by omega)
  clear hv0
  have ix := idx_u8 gb S.length c k hk
  go_enter Try.func46, Try.ntmps46
  go_wp2_with fail
  refine (HN.out).mono ?_
  rintro e w0 ⟨rfl, n, hw0⟩
  have L0 : Lh w0 g v rv f S R := by rw [hw0]; exact hlh.drewN n
  have hB0 : Below w.heap.size w w0 := by rw [hw0]; exact below_n w n
  clear hw0 hlh
  go_wp2_with fail
  refine wp_region_still_tail 12 (by kernel_rfl) (by kernel_rfl) ?_
  simp only [List.take_succ_cons, List.take_zero, List.drop_succ_cons, List.drop_zero]
  have L1 : Lh ({ w0 with drawn := w0.drawn + 1 } : World) g v rv f S R := ⟨L0.box, L0.row, L0.run⟩
  have hB1 : Below w.heap.size w ({ w0 with drawn := w0.drawn + 1 } : World) := ⟨hB0.os, hB0.tape, hB0.output, hB0.size, hB0.block⟩
  clear L0 hB0
  generalize ({ w0 with drawn := w0.drawn + 1 } : World) = V at *
  have LS := L1.store (k := k) hv s
  subst hv
  have c0 := L1.box.cell 0
  have c1 := L1.box.cell 1
  have hcell := (L1.row.cellAt k (by omega)).trans (ucells_get .u8 S k hk)
  have hfz := L1.row.frozenAt k
  clear L1
  repeat (with_reducible refine wpStill_step ?_; intro K hK; go_simp; with_reducible refine hK _ ?_; clear hK K)
  with_reducible refine wpStill_nil ?_
  have F1 := Lib.hid LS.2
  have L2 := LS.1
  clear LS
  have d2 := L2.box.cell 2
  have HB := Lib.hid (bsearch_any _ 0 rv R i x L2.run HS.out HI.out hx64 (by omega))
  have HD := Lib.hid (del_any _ 0 rv R i L2.run hlt)
  go_wp2_with (first
    | (go_at_call 77; (with_reducible refine (HB.out).mono ?_); rintro e w2 ⟨rfl, hw2⟩; have hw := hw2.symm; subst hw)
    | (go_at_call 78; (with_reducible refine (HD.out).mono ?_); rintro e w3 ⟨v3, rfl, hv3, ho3, hf3, g3, c3, rfl⟩; have LD := L2.drop hf3 hv3 ho3; have hb3 := hf3.bx L2.box fun e => L2.box.ty.ne (own_ty L2.run e) (by decide) rfl; have d3 := hb3.cell 2; have z3 := hb3.frozen 2; have LE := Lib.hid LD.1; have C3 := Lib.hid LD.2; clear LD hb3 hf3 ho3 hv3))
  go_ret
  refine ⟨rfl, _, ⟨LE.out.box, LE.out.row, ?_, HH.out.pos, by rw [List.length_set]; exact HH.out.max, set_sts HH.out.sts hs2⟩, ?_⟩
  · rw [HSET.out]
    exact LE.out.run
  · exact Chg.step hB1 (Chg.trans ⟨F1.out, fun k hk => .inl hk⟩ C3.out)
theorem commit_nil (w : World) (x : Nat) :
    Calls Try.prog 17 #[.pointer none, .int .u64 (x : Int)] w fun e w' => e = .returned (.int .i64 15) ∧ w' = w := by
  have hN := end_nil w x 2
  rw [show ((2 : Nat) : Int) = 2 from rfl] at hN
  have HN := Lib.hid hN
  clear hN
  go_enter Try.func17, Try.ntmps17
  go_wp2_with (go_at_call 46; (with_reducible refine (HN.out).mono ?_); rintro e w1 ⟨rfl, hw1⟩; have hw := hw1.symm; subst hw)
  go_ret
  exact ⟨rfl, rfl⟩
theorem abort_nil (w : World) (x : Nat) :
    Calls Try.prog 19 #[.pointer none, .int .u64 (x : Int)] w fun e w' => e = .returned (.int .i64 15) ∧ w' = w := by
  have hN := end_nil w x 3
  rw [show ((3 : Nat) : Int) = 3 from rfl] at hN
  have HN := Lib.hid hN
  clear hN
  go_enter Try.func19, Try.ntmps19
  go_wp2_with (go_at_call 46; (with_reducible refine (HN.out).mono ?_); rintro e w1 ⟨rfl, hw1⟩; have hw := hw1.symm; subst hw)
  go_ret
  exact ⟨rfl, rfl⟩
/-- What Commit and Abort answer, and what they leave. -/
def endE (f : Nat) (S : List Nat) (x : Nat) : Int := if stt f S x = 1 then 0 else 15
def endL (f : Nat) (S : List Nat) (x s : Nat) : List Nat := if stt f S x = 1 then S.set (x - f) s else S
theorem endp (w : World) (g f x s : Nat) (v rv : Value) (S : List Nat) (h : Lg w g v rv f S) (hs : s = 2 ∨ s = 3) (hx64 : x < 18446744073709551616) :
    Calls Try.prog 46 #[.pointer (some ⟨g, 0, none⟩), .int .u64 (x : Int), .int .u8 (s : Int)] w fun e w' => e = .returned (.int .i64 (endE f S x)) ∧ ∃ rv', Lg w' g v rv' f (endL f S x s) ∧ Chg (Lf g v rv) (Lf g v rv') w w' := by
  unfold endE endL
  by_cases hst : stt f S x = 1
  · rw [if_pos hst, if_pos hst]
    exact end_yes w g f x s v rv S h hst (by omega) (by omega) hx64
  · rw [if_neg hst, if_neg hst]
    refine (end_no w g f x s v rv S h hst).mono ?_
    rintro e w' ⟨rfl, n, rfl⟩
    exact ⟨rfl, rv, h.drewN n, Fr.of_below (below_n w n), fun k hk => .inl hk⟩
theorem commit_any (w : World) (g f x : Nat) (v rv : Value) (S : List Nat) (h : Lg w g v rv f S) (hx64 : x < 18446744073709551616) :
    Calls Try.prog 17 #[.pointer (some ⟨g, 0, none⟩), .int .u64 (x : Int)] w fun e w' => e = .returned (.int .i64 (endE f S x)) ∧ ∃ rv', Lg w' g v rv' f (endL f S x 2) ∧ Chg (Lf g v rv) (Lf g v rv') w w' := by
  have hN := endp w g f x 2 v rv S h (.inl rfl) hx64
  rw [show ((2 : Nat) : Int) = 2 from rfl] at hN
  have HN := Lib.hid hN
  clear hN h
  go_enter Try.func17, Try.ntmps17
  go_wp2_with (go_at_call 46; (with_reducible refine (HN.out).mono ?_); rintro e w1 ⟨rfl, rv', hl, hc⟩)
  go_ret
  exact ⟨rfl, rv', hl, hc⟩
theorem abort_any (w : World) (g f x : Nat) (v rv : Value) (S : List Nat) (h : Lg w g v rv f S) (hx64 : x < 18446744073709551616) :
    Calls Try.prog 19 #[.pointer (some ⟨g, 0, none⟩), .int .u64 (x : Int)] w fun e w' => e = .returned (.int .i64 (endE f S x)) ∧ ∃ rv', Lg w' g v rv' f (endL f S x 3) ∧ Chg (Lf g v rv) (Lf g v rv') w w' := by
  have hN := endp w g f x 3 v rv S h (.inr rfl) hx64
  rw [show ((3 : Nat) : Int) = 3 from rfl] at hN
  have HN := Lib.hid hN
  clear hN h
  go_enter Try.func19, Try.ntmps19
  go_wp2_with (go_at_call 46; (with_reducible refine (HN.out).mono ?_); rintro e w1 ⟨rfl, rv', hl, hc⟩)
  go_ret
  exact ⟨rfl, rv', hl, hc⟩
end Go.Proofs.Ytbmkhopmhmmibaa
