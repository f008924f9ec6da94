/-
  The document's log (ref09): State, End, All, Same.
-/
import Derived.Test.YtbmkhopmhmmibaaRef9A
namespace Go.Proofs.Ytbmkhopmhmmibaa
open Go.RowKit
set_option linter.unusedVariables false

theorem rstate_nil (w : World) (x : Nat) :
    Calls Try.prog 47 #[.pointer none, .int .u64 (x : Int)] w fun e w' => e = .returned (.int .i64 0) ∧ ∃ n, w' = w.drewN n := by
  go_enter Try.func47, Try.ntmps47
  go_wp2_with fail
  refine wp_region_still_lit (by kernel_rfl) (by kernel_rfl) ?_
  have hV : ({ w with drawn := w.drawn + 1 } : World) = w.drewN 1 := rfl
  generalize ({ w with drawn := w.drawn + 1 } : World) = V at *
  repeat (with_reducible refine wpStill_step ?_; intro K hK; go_simp; with_reducible refine hK _ ?_; clear hK K)
  with_reducible refine wpStill_nil ?_
  go_wp2
  go_ret
  exact ⟨rfl, 1, hV⟩
set_option maxRecDepth 100000 in
set_option maxHeartbeats 1000000 in
theorem rstate_any (w : World) (g f x : Nat) (v : Value) (S : List Nat) (h : Rg w g v f S) (hx64 : x < 18446744073709551616) :
    Calls Try.prog 47 #[.pointer (some ⟨g, 0, none⟩), .int .u64 (x : Int)] w fun e w' => e = .returned (.int .i64 (stt f S x : Int)) ∧ ∃ n, w' = w.drewN n := by
  have hmax := h.max
  have h0 := h.box.cell 0
  by_cases h1 : x < f
  · rw [show stt f S x = 0 from if_neg (by omega)]
    have hd : (x : Int) < (f : Int) := by omega
    clear h
    go_enter Try.func47, Try.ntmps47
    go_wp2_with fail
    refine wp_region_still_lit (by kernel_rfl) (by kernel_rfl) ?_
    have c0 : ({ w with drawn := w.drawn + 1 } : World).cell? ⟨g, 0, none⟩ = some (.int .u64 (f : Int)) := h0
    have hV : ({ w with drawn := w.drawn + 1 } : World) = w.drewN 1 := rfl
    generalize ({ w with drawn := w.drawn + 1 } : World) = V at *
    repeat (with_reducible refine wpStill_step ?_; intro K hK; go_simp; with_reducible refine hK _ ?_; clear hK K)
    with_reducible refine wpStill_nil ?_
    go_wp2
    go_ret
    exact ⟨rfl, 1, hV⟩
  · have hd : ¬ (x : Int) < (f : Int) := by omega
    have hxf : IntKind.u64.wrap ((x : Int) - (f : Int)) = ((x - f : Nat) : Int) := by rw [show (x : Int) - (f : Int) = ((x - f : Nat) : Int) by omega]; exact IntWalk.u64_in _ (by omega)
    by_cases h2 : f + S.length ≤ x
    · rw [show stt f S x = 0 from Classical.byContradiction fun e => by have := stt_lt e; omega]
      have hk : S.length ≤ x - f := by omega
      obtain ⟨A, c, rfl, _, _, _⟩ := own_form h.row
      have g1 : w.cell? ⟨g, 1, none⟩ = some (.slice A S.length c) := h.box.cell 1
      have hS : S.length ≤ 1099511627777 := by omega
      clear h
      generalize x - f = k at *
      have hk' : (S.length : Int) ≤ (k : Int) := by omega
      have hw : IntKind.u64.wrap (S.length : Int) = (S.length : Int) := IntWalk.u64_in _ (by omega)
      go_enter Try.func47, Try.ntmps47
      go_wp2_with fail
      refine wp_region_still_lit (by kernel_rfl) (by kernel_rfl) ?_
      have c0 : ({ w with drawn := w.drawn + 1 } : World).cell? ⟨g, 0, none⟩ = some (.int .u64 (f : Int)) := h0
      have c1 : ({ w with drawn := w.drawn + 1 } : World).cell? ⟨g, 1, none⟩ = some (.slice A S.length c) := g1
      have hV : ({ w with drawn := w.drawn + 1 } : World) = w.drewN 1 := rfl
      generalize ({ w with drawn := w.drawn + 1 } : World) = V at *
      repeat (with_reducible refine wpStill_step ?_; intro K hK; go_simp; with_reducible refine hK _ ?_; clear hK K)
      with_reducible refine wpStill_nil ?_
      go_wp2
      go_ret
      exact ⟨rfl, 1, hV⟩
    · have hlt : x - f < S.length := by omega
      obtain ⟨gb, c, hv, _, hnc, hmc⟩ := own_shape h.row (by omega)
      subst hv
      have g1 : w.cell? ⟨g, 1, none⟩ = some (.slice (some ⟨gb, 0, none⟩) S.length c) := h.box.cell 1
      have hst := stt_in (S := S) (by omega) hlt
      have hcell : w.cell? ⟨gb, x - f, none⟩ = some (.int .i64 (S[x - f] : Int)) := (h.row.cellAt (x - f) (by omega)).trans (ucells_get .i64 S (x - f) hlt)
      rw [← hst] at hcell
      have ix := idx_i64u gb S.length c (x - f) hlt
      have hS : S.length ≤ 1099511627777 := by omega
      clear h hst
      generalize x - f = k at *
      generalize stt f S x = s at *
      have hk' : ¬ (S.length : Int) ≤ (k : Int) := by omega
      have hw : IntKind.u64.wrap (S.length : Int) = (S.length : Int) := IntWalk.u64_in _ (by omega)
      go_enter Try.func47, Try.ntmps47
      go_wp2_with fail
      refine wp_region_still_lit (by kernel_rfl) (by kernel_rfl) ?_
      have c0 : ({ w with drawn := w.drawn + 1 } : World).cell? ⟨g, 0, none⟩ = some (.int .u64 (f : Int)) := h0
      have c1 : ({ w with drawn := w.drawn + 1 } : World).cell? ⟨g, 1, none⟩ = some (.slice (some ⟨gb, 0, none⟩) S.length c) := g1
      have c2 : ({ w with drawn := w.drawn + 1 } : World).cell? ⟨gb, k, none⟩ = some (.int .i64 (s : Int)) := hcell
      have hV : ({ w with drawn := w.drawn + 1 } : World) = w.drewN 1 := rfl
      generalize ({ w with drawn := w.drawn + 1 } : World) = V at *
      repeat (with_reducible refine wpStill_step ?_; intro K hK; go_simp; with_reducible refine hK _ ?_; clear hK K)
      with_reducible refine wpStill_nil ?_
      go_wp2_with fail
      go_quiet (fail)
      go_wp2
      go_ret
      exact ⟨rfl, _, by rw [hV]; exact drewN_drewN _ _ _⟩
theorem rend_nil (w : World) (x s : Nat) :
    Calls Try.prog 18 #[.pointer none, .int .u64 (x : Int), .int .i64 (s : Int)] w fun e w' => e = .returned (.int .i64 15) ∧ ∃ n, w' = w.drewN n := by
  go_enter Try.func18, Try.ntmps18
  go_wp2_with (go_at_call 47; (with_reducible refine (rstate_nil _ _).mono ?_); rintro e w1 ⟨rfl, n, rfl⟩)
  go_ret
  exact ⟨rfl, n, rfl⟩
set_option maxRecDepth 100000 in
set_option maxHeartbeats 1000000 in
theorem rend_any (w : World) (g f x s : Nat) (v : Value) (S : List Nat) (h : Rg w g v f S) (hx64 : x < 18446744073709551616) :
    Calls Try.prog 18 #[.pointer (some ⟨g, 0, none⟩), .int .u64 (x : Int), .int .i64 (s : Int)] w fun e w' => e = .returned (.int .i64 (endE f S x)) ∧ Rg w' g v f (endL f S x s) ∧ Chg (Rf g v) (Rf g v) w w' := by
  unfold endE endL
  have hN := rstate_any w g f x v S h hx64
  by_cases hst : stt f S x = 1
  · rw [if_pos hst, if_pos hst]
    rw [hst] at hN
    have HN := Lib.hid hN
    obtain ⟨hx1, hx2⟩ := stt_lt (by rw [hst]; decide : stt f S x ≠ 0)
    have hmax := h.max
    have hk : x - f < S.length := by omega
    have hxf : IntKind.u64.wrap ((x : Int) - (f : Int)) = ((x - f : Nat) : Int) := by rw [show (x : Int) - (f : Int) = ((x - f : Nat) : Int) by omega]; exact IntWalk.u64_in _ (by omega)
    clear hN hst
    generalize x - f = k at *
    obtain ⟨gb, c, hv, _, hnc, hmc⟩ := own_shape h.row (by omega)
    have ix := idx_i64u gb S.length c k hk
    go_enter Try.func18, Try.ntmps18
    go_wp2_with fail
    refine (HN.out).mono ?_
    rintro e w0 ⟨rfl, n, hw0⟩
    have L0 : Rg w0 g v f S := by rw [hw0]; exact h.drewN n
    have hB0 : Below w.heap.size w w0 := by rw [hw0]; exact below_n w n
    clear hw0 h
    go_wp2_with fail
    refine wp_region_still_tail 12 (by kernel_rfl) (by kernel_rfl) ?_
    simp only [List.take_succ_cons, List.take_zero, List.drop_succ_cons, List.drop_zero]
    have L1 : Rg ({ w0 with drawn := w0.drawn + 1 } : World) g v f S := ⟨L0.box, L0.row, L0.pos, L0.max⟩
    have hB1 : Below w.heap.size w ({ w0 with drawn := w0.drawn + 1 } : World) := ⟨hB0.os, hB0.tape, hB0.output, hB0.size, hB0.block⟩
    clear L0 hB0
    generalize ({ w0 with drawn := w0.drawn + 1 } : World) = V at *
    have LS := L1.store (k := k) hv s
    subst hv
    have c0 := L1.box.cell 0
    have c1 := L1.box.cell 1
    have hcell := (L1.row.cellAt k (by omega)).trans (ucells_get .i64 S k hk)
    have hfz := L1.row.frozenAt k
    clear L1
    repeat (with_reducible refine wpStill_step ?_; intro K hK; go_simp; with_reducible refine hK _ ?_; clear hK K)
    with_reducible refine wpStill_nil ?_
    go_wp2
    go_ret
    exact ⟨rfl, LS.1, Chg.step hB1 ⟨LS.2, fun k hk => .inl hk⟩⟩
  · rw [if_neg hst, if_neg hst]
    have HN := Lib.hid hN
    have hd : ((stt f S x : Int) == 1) = false := beq_eq_false_iff_ne.2 (by omega)
    clear hN
    go_enter Try.func18, Try.ntmps18
    go_wp2_with (go_at_call 47; (with_reducible refine (HN.out).mono ?_); rintro e w1 ⟨rfl, n, rfl⟩)
    go_ret
    exact ⟨rfl, h.drewN n, Fr.of_below (below_n w n), fun k hk => .inl hk⟩
theorem runs_snoc (f : Nat) (S : List Nat) (s : Nat) : runs f (S ++ [s]) = runs f S ++ (if s = 1 then [f + S.length] else []) := by
  induction S generalizing f with
  | nil => simp [runs]
  | cons a S ih =>
    simp only [List.cons_append, runs]
    rw [ih (f + 1), show f + 1 + S.length = f + (a :: S).length by simp; omega]
    by_cases h : a = 1
    · rw [if_pos h, if_pos h]; rfl
    · rw [if_neg h, if_neg h]
theorem rall_nil (w : World) :
    Calls Try.prog 45 #[.pointer none] w fun e w' => e = .returned (.slice none 0 0) ∧ w' = w := by
  go_enter Try.func45, Try.ntmps45
  go_wp2
  go_ret
  exact ⟨rfl, rfl⟩
set_option maxRecDepth 100000 in
set_option maxHeartbeats 1000000 in
theorem rall_any (w : World) (g f : Nat) (v : Value) (S : List Nat) (h : Rg w g v f S) :
    Calls Try.prog 45 #[.pointer (some ⟨g, 0, none⟩)] w fun e w' => ∃ v', e = .returned v' ∧ w'.ownsRow w.heap.size 28 1 v' (runs f S).length (ucells .u64 (runs f S)) ∧ Below w.heap.size w w' := by
  obtain ⟨i0, hi0, hz0, hz1, hz2⟩ := info_parts4 info_u64
  have hmax := h.max
  obtain ⟨A, c, hv, hnc, hmc, _⟩ := own_form h.row
  have c1 := h.box.cell 1
  subst hv
  have HH := Lib.hid h
  clear h
  go_enter Try.func45, Try.ntmps45
  go_wp2
  go_loopw [3, 13] (fun ov kv wr => ∃ (k : Nat), k ≤ S.length ∧ kv = .int .i64 (k : Int) ∧ wr.ownsRow w.heap.size 28 1 ov (runs f (S.take k)).length (ucells .u64 (runs f (S.take k))) ∧ Below w.heap.size w wr) (fun _ kv _ => S.length - (intOf kv).toNat)
  case atStart => exact ⟨0, Nat.zero_le _, rfl, World.ownsRow_nil _ _ _ _, Below.refl _ _⟩
  case round =>
    obtain ⟨k, hk, rfl, hO, hb⟩ := hrel
    by_cases hlt : k < S.length
    · have hR := HH.out.below hb
      obtain ⟨gb, c', hv', _, _, _⟩ := own_shape hR.row (by omega)
      injection hv' with hA _ hc
      subst hA hc
      have d0 := hR.box.cell 0
      have hcell := (hR.row.cellAt k (by omega)).trans (ucells_get .i64 S k hlt)
      have ix := idx_i64i gb S.length c k hlt
      have htk : S.take (k + 1) = S.take k ++ [S[k]] := (List.take_append_getElem hlt).symm
      have hsn := runs_snoc f (S.take k) S[k]
      rw [← htk, List.length_take, Nat.min_eq_left hk] at hsn
      have hlen := runs_length f (S.take k)
      rw [List.length_take, Nat.min_eq_left hk] at hlen
      have HSN := Lib.hid hsn
      have hz := hb.size
      have hbr : IntKind.u64.wrap ((f : Int) + (k : Int)) = ((f + k : Nat) : Int) := by rw [show (f : Int) + (k : Int) = ((f + k : Nat) : Int) by omega]; exact IntWalk.u64_in _ (by omega)
      clear hR htk hsn c1
      generalize S[k] = s at *
      by_cases hs : s = 1
      · have HS := HSN.out
        rw [if_pos hs] at HS
        have HS2 := Lib.hid HS
        have hs1 : ((s : Int) == 1) = true := by rw [hs]; rfl
        clear HS HSN hs
        generalize runs f (S.take k) = R at *
        generalize f + k = y at *
        obtain ⟨AO, cO, hov, _, _, _⟩ := own_form hO
        subst hov
        go_wp2_with (at_builtin; refine wpList_append_src _ rfl (.tmp 20) (.tmp 28) 48 48 rfl w.heap.size 28 _ _ 1 8 Try.underlying48 hi0 hz0 hz1 hz2 rfl _ _ _ rfl (World.ownsRow.alloc hO _) _ 1 (ucells .u64 [y]) rfl (src_rd Try.underlying48 _ (rd_lit (by first | rfl | simp) rfl rfl) (by decide) (ucells_one _ _)) (by simp only [maxLen]; omega) (by omega) (by simp; omega) ?_; intro v1 w1 ho1 hg1 ha1; obtain ⟨A1, k1, rfl, _, _, _⟩ := own_form ho1; have hB1 : Below w.heap.size w w1 := hb.trans (((Below.refl w.heap.size wr).alloc hz _).trans (grown_below (World.ownsRow.alloc hO (.cells #[.int .u64 (y : Int)] 28)) hg1 (by simp; omega))); have HO1 := Lib.hid ho1; clear ho1 hg1 ha1)
        go_roundw
        case rel => exact ⟨k + 1, by omega, by go_num, by
          rw [HS2.out, ucells_append, List.length_append]
          exact HO1.out, hB1⟩
        case measure => simp [intOf]; omega
      · have HS := HSN.out
        rw [if_neg hs, List.append_nil] at HS
        have HS2 := Lib.hid HS
        have hs1 : ((s : Int) == 1) = false := beq_eq_false_iff_ne.2 (by omega)
        clear HS HSN
        generalize runs f (S.take k) = R at *
        obtain ⟨AO, cO, hov, _, _, _⟩ := own_form hO
        subst hov
        have HO1 := Lib.hid hO
        clear hO
        go_wp2
        go_roundw
        case rel => exact ⟨k + 1, by omega, by go_num, by rw [HS2.out]; exact HO1.out, hb⟩
        case measure => simp [intOf]; omega
    · obtain rfl : k = S.length := by omega
      rw [List.take_length] at hO
      go_wp2
      go_ret
      exact ⟨_, rfl, hO, hb⟩
set_option maxRecDepth 100000 in
theorem same_any (w : World) (B1 B2 : Nat) (v1 v2 : Value) (R : List Nat) (h1 : w.ownsRow B1 28 1 v1 R.length (ucells .u64 R)) (h2 : w.ownsRow B2 28 1 v2 R.length (ucells .u64 R)) :
    Calls Try.prog 33 #[v1, v2] w fun e w' => e = .returned (.bool true) ∧ ∃ n, w' = w.drewN n := by
  obtain ⟨A1, c1, hv1, _, hm1, _⟩ := own_form h1
  obtain ⟨A2, c2, hv2, _, hm2, _⟩ := own_form h2
  subst hv1 hv2
  have H1 := Lib.hid h1
  have H2 := Lib.hid h2
  clear h1 h2
  go_enter Try.func33, Try.ntmps33
  go_wp2
  go_loopw [13] (fun iv wr => ∃ k q : Nat, k ≤ R.length ∧ iv = .int .i64 (k : Int) ∧ wr = w.drewN q) (fun iv _ => R.length - (intOf iv).toNat)
  case atStart => exact ⟨0, 0, Nat.zero_le _, rfl, rfl⟩
  case round =>
    obtain ⟨k, q, hk, rfl, hw⟩ := hrel
    by_cases hlt : k < R.length
    · have G1 : wr.ownsRow B1 28 1 (.slice A1 R.length c1) R.length (ucells .u64 R) := by rw [hw]; exact own_drewN H1.out q
      have G2 : wr.ownsRow B2 28 1 (.slice A2 R.length c2) R.length (ucells .u64 R) := by rw [hw]; exact own_drewN H2.out q
      obtain ⟨g1, k1, hv1, _, _, _⟩ := own_shape G1 (by omega)
      injection hv1 with hA1 _ hk1
      subst hA1 hk1
      obtain ⟨g2, k2, hv2, _, _, _⟩ := own_shape G2 (by omega)
      injection hv2 with hA2 _ hk2
      subst hA2 hk2
      have ix1 := idx_u64 g1 R.length c1 k hlt
      have ix2 := idx_u64 g2 R.length c2 k hlt
      have e1 := (G1.cellAt k (by omega)).trans (ucells_get .u64 R k hlt)
      have e2 := (G2.cellAt k (by omega)).trans (ucells_get .u64 R k hlt)
      generalize R[k] = x at *
      have HW := Lib.hid hw
      clear hw G1 G2
      go_wp2_with fail
      go_quiet (fail)
      go_wp2
      go_roundw
      case rel => exact ⟨k + 1, q + nq, by omega, by go_num, by rw [HW.out]; exact drewN_drewN _ _ _⟩
      case measure => simp [intOf]; omega
    · obtain rfl : k = R.length := by omega
      go_wp2
      go_ret
      exact ⟨rfl, q, rfl⟩
end Go.Proofs.Ytbmkhopmhmmibaa
