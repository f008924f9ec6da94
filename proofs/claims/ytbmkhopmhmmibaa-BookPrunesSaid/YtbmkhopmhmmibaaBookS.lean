/-
  choose; Indexes and Keep.
-/
import Derived.Test.YtbmkhopmhmmibaaBookR
namespace Go.Proofs.Ytbmkhopmhmmibaa
open Go.RowKit
set_option linter.unusedVariables false

def ixc (i : Nat × Ix) : List Value := [.int .u64 (i.2.e.id : Int), .string i.2.e.nm, .int .u64 (i.2.te.id : Int), .int .i64 (i.2.col : Int), .int .u64 (i.2.e.xmin : Int), .int .u64 (i.2.e.xmax : Int)]
theorem ixc_one (i : Nat × Ix) : ∀ u ∈ ixc i, u.oneCell' = true := by
  intro u hu
  simp only [ixc, List.mem_cons, List.not_mem_nil, or_false] at hu
  rcases hu with rfl | rfl | rfl | rfl | rfl | rfl <;> rfl
theorem info_ix : (Try.prog.info? 60).map (fun i => (i.zero, i.size, i.bytes)) = some (some (.agg #[.int .u64 0, .string ⟨#[]⟩, .int .u64 0, .int .i64 0, .int .u64 0, .int .u64 0]), 6, 56) := by kernel_rfl
theorem filt_take {α : Type} (l : List α) (p : α → Bool) {i : Nat} (h : i < l.length) : (l.take (i + 1)).filter p = (l.take i).filter p ++ if p l[i] then [l[i]] else [] := by
  rw [← List.take_append_getElem h, List.filter_append]
  congr 1
  cases hp : p l[i] <;> simp [hp]
set_option maxRecDepth 100000 in
set_option maxHeartbeats 2000000 in
theorem choose_x (w : World) (B k g own xmin xmax bb last q5 q6 q7 id : Nat) (T : List Tb) (I : List (Nat × Ix)) (S R : List Nat) (F : Nat → Prop) (v vT vI : Value) (hl : LG w g 1 S F) (hR : w.ownsRow bb 28 1 v R.length (ucells .u64 R)) (hn : R.length ≤ 9223372036854775807) (hB : Bk B w k last T I vT vI) (hI16 : I.length ≤ 16) (h7 : w.cell? ⟨q7, 0, none⟩ = some (.int .u64 (id : Int))) (h5 : w.cell? ⟨q5, 0, none⟩ = some (.pointer (some ⟨g, 0, none⟩))) (h6 : Bx w q6 50 [.int .u64 (own : Int), .int .u64 (xmin : Int), .int .u64 (xmax : Int), v]) :
    Calls Try.prog 73 #[.pointer (some ⟨k, 0, none⟩), .func (.func 74) #[] #[.pointer (some ⟨q7, 0, none⟩), .pointer (some ⟨q5, 0, none⟩), .pointer (some ⟨q6, 0, none⟩)]] w fun e w' => ∃ v', e = .returned v' ∧ w'.ownsRow w.heap.size 60 6 v' (I.filter (fun i : Nat × Ix => decide (i.2.te.id = id) && visI 1 S own xmax R i.2)).length ((I.filter (fun i : Nat × Ix => decide (i.2.te.id = id) && visI 1 S own xmax R i.2)).flatMap ixc) ∧ Below w.heap.size w w' := by
  obtain ⟨AT, ct, AI, ci, rfl, rfl, hT64, hI64, hM⟩ := hB.m
  obtain ⟨i1, hi1, hy0, hy1, hy2⟩ := info_parts4 info_ix
  have HB := Lib.hid hB
  have hc : ∀ W b x, Below w.heap.size w W → Im W b x → Calls Try.prog 74 #[.pointer (some ⟨b, 0, none⟩), .pointer (some ⟨q7, 0, none⟩), .pointer (some ⟨q5, 0, none⟩), .pointer (some ⟨q6, 0, none⟩)] W fun e w' => e = .returned (.bool ((fun i : Nat × Ix => decide (i.2.te.id = id) && visI 1 S own xmax R i.2) (b, x))) ∧ Below W.heap.size W w' := fun W b x hb him => fix_any W b g own xmin xmax bb q5 q6 q7 id x S R F v (hl.below hb) (own_below hR hb) hn him (cells_below hb h7) (cells_below hb h5) (h6.below hb)
  have HCC := Lib.hid hc
  have c1 := hB.box.cell 2
  have HRI := Lib.hid hM.rI
  clear hc hl hR h7 h5 h6 hB hM
  generalize (fun i : Nat × Ix => decide (i.2.te.id = id) && visI 1 S own xmax R i.2) = p at *
  obtain ⟨M, hM⟩ : ∃ M, I.length = M := ⟨_, rfl⟩
  rw [hM] at HRI c1 HB hI64 hI16
  have HM := Lib.hid hM
  clear hM
  go_enter Try.func73, Try.ntmps73
  go_wp2
  clear c1
  go_loopw [5, 15] (fun av iv wr => ∃ (i m : Nat) (Aa : Option Addr) (ca : Nat), i ≤ M ∧ m ≤ i ∧ iv = .int .i64 (i : Int) ∧ av = .slice Aa m ca ∧ m = ((I.take i).filter p).length ∧ wr.ownsRow w.heap.size 60 6 (.slice Aa m ca) m (((I.take i).filter p).flatMap ixc) ∧ Below w.heap.size w wr) (fun _ iv _ => M - (intOf iv).toNat)
  case atStart => exact ⟨0, 0, none, 0, Nat.zero_le _, Nat.le_refl _, rfl, rfl, rfl, World.ownsRow_nil _ _ _ _, Below.refl _ _⟩
  case round =>
    obtain ⟨i, m, Aa, ca, hi, hmi, rfl, rfl, hm, ho, hb⟩ := hrel
    have HMM := Lib.hid hm
    clear hm
    by_cases hlt : i < M
    · have hiT : i < I.length := by rw [HM.out]; exact hlt
      have hg : (pts I)[i]? = some (ptr I[i].1) := by unfold pts; rw [List.getElem?_map, List.getElem?_eq_getElem hiT]; rfl
      obtain ⟨ad, rfl, q0⟩ := (HRI.out.below hb).2 i _ hg
      replace q0 : wr.cell? (ad.add i) = some (.pointer (some ⟨I[i].1, 0, none⟩)) := q0
      have ix := idx_ix ad M ci i hlt
      have him := (HB.out.below hb).im (List.getElem_mem hiT)
      have hbx := ((HB.out.below hb).iB _ (List.getElem_mem hiT)).2.1
      have HFT := Lib.hid (filt_take I p hiT)
      obtain ⟨tt, htt⟩ : ∃ tt, I[i] = tt := ⟨_, rfl⟩
      rw [htt] at q0 him hbx
      have HTT := Lib.hid htt
      clear hg htt
      obtain ⟨b, x⟩ := tt
      have him : Im wr b x := him
      replace q0 : wr.cell? (ad.add i) = some (.pointer (some ⟨b, 0, none⟩)) := q0
      have h5 : wr.cell? ⟨b, 5, none⟩ = some (.int .i64 (x.col : Int)) := hbx.cell 5
      have HC1 := HCC.out wr b x hb him
      have HSH := Lib.hid (fun W (hb' : Below wr.heap.size wr W) => ishown_any W b x (him.below hb') (cells_below hb' h5))
      cases hz : p (b, x) with
      | false =>
        rw [hz] at HC1
        have HC1 := Lib.hid HC1
        have hft := HFT.out
        rw [HTT.out, hz] at hft
        simp only [Bool.false_eq_true, if_false, List.append_nil] at hft
        have HF2 := Lib.hid hft
        have HO := Lib.hid ho
        clear hft him h5 hbx hz ho
        go_wp2_with (go_at_call 74; (with_reducible refine (HC1.out).mono ?_); rintro e w1 ⟨rfl, hb1⟩; have hb2 := hb.next hb1)
        go_roundw
        case rel => exact ⟨i + 1, m, Aa, ca, by omega, by omega, by go_num, rfl, by rw [HF2.out]; exact HMM.out, by rw [HF2.out]; exact own_below HO.out hb1, hb2⟩
        case measure => simp [intOf]; omega
      | true =>
        rw [hz] at HC1
        have HC1 := Lib.hid HC1
        have hft := HFT.out
        rw [HTT.out, hz] at hft
        simp only [if_true] at hft
        have HF2 := Lib.hid hft
        have HO := Lib.hid ho
        clear hft him h5 hbx hz ho
        go_wp2_with fail
        refine (HC1.out).mono ?_
        rintro e w1 ⟨rfl, hb1⟩
        have hb2 := hb.next hb1
        have HS1 := Lib.hid (HSH.out w1 hb1)
        unfold ixV at HS1
        go_wp2_with fail
        refine (HS1.out).mono ?_
        rintro e w2 ⟨rfl, hb3⟩
        have hb4 := hb2.next hb3
        have x5 : Below w2.heap.size w2 (w2.alloc (.cells #[.int .u64 (x.e.id : Int), .string x.e.nm, .int .u64 (x.te.id : Int), .int .i64 (x.col : Int), .int .u64 (x.e.xmin : Int), .int .u64 (x.e.xmax : Int)] 60)) := (Below.refl _ _).al _
        have o5 := own_below (own_below (own_below HO.out hb1) hb3) x5
        have hb5 := hb4.next x5
        have hsz5 := hb5.size
        have hi0 : i < 9223372036854775807 := by omega
        have hmb : m < 16 := by omega
        go_wp2_with (at_builtin; refine wpList_append_src _ rfl (.tmp 22) (.tmp 25) 68 68 rfl w.heap.size 60 _ _ 6 56 Try.underlying68 hi1 hy0 hy1 hy2 rfl _ _ _ rfl o5 _ 1 (ixc (b, x)) rfl (src_rd Try.underlying68 _ (rd_lit (by first | rfl | simp) rfl rfl) (by decide) (ixc_one (b, x))) (by simp only [maxLen]; omega) (by omega) hsz5 ?_; intro v9 w9 ho9 hg9 ha9; have hb9 := hb5.trans (grown_below o5 hg9 hsz5); obtain ⟨A9, c9, hv9, _, _, _⟩ := own_form ho9; subst hv9; have HO9 := Lib.hid ho9; clear ho9 hg9 ha9)
        go_roundw
        case rel => exact ⟨i + 1, m + 1, A9, c9, by omega, by omega, by go_num, rfl, by rw [HF2.out, List.length_append, ← HMM.out]; rfl, by rw [HF2.out, List.flatMap_append]; simpa using HO9.out, hb9⟩
        case measure => simp [intOf]; omega
    · have hiN : i = M := by omega
      have hfl : (I.take i) = I := by rw [hiN, ← HM.out]; exact List.take_length
      have HFL := Lib.hid hfl
      have HO := Lib.hid ho
      clear hfl ho
      subst hiN
      go_wp2
      go_ret
      exact ⟨_, rfl, by have := HO.out; have h2 := HMM.out; rw [HFL.out] at this h2; rw [← h2]; exact this, hb⟩
set_option maxRecDepth 100000 in
set_option maxHeartbeats 2000000 in
theorem choose_k (w : World) (B k g last q5 q7 id : Nat) (T : List Tb) (I : List (Nat × Ix)) (S : List Nat) (F : Nat → Prop) (vT vI : Value) (hl : LG w g 1 S F) (hB : Bk B w k last T I vT vI) (hI16 : I.length ≤ 16) (h7 : w.cell? ⟨q7, 0, none⟩ = some (.int .u64 (id : Int))) (h5 : w.cell? ⟨q5, 0, none⟩ = some (.pointer (some ⟨g, 0, none⟩))) :
    Calls Try.prog 73 #[.pointer (some ⟨k, 0, none⟩), .func (.func 88) #[] #[.pointer (some ⟨q7, 0, none⟩), .pointer (some ⟨q5, 0, none⟩)]] w fun e w' => ∃ v', e = .returned v' ∧ w'.ownsRow w.heap.size 60 6 v' (I.filter (fun i : Nat × Ix => decide (i.2.te.id = id) && !decide (stt 1 S i.2.e.xmin = 3))).length ((I.filter (fun i : Nat × Ix => decide (i.2.te.id = id) && !decide (stt 1 S i.2.e.xmin = 3))).flatMap ixc) ∧ Below w.heap.size w w' := by
  obtain ⟨AT, ct, AI, ci, rfl, rfl, hT64, hI64, hM⟩ := hB.m
  obtain ⟨i1, hi1, hy0, hy1, hy2⟩ := info_parts4 info_ix
  have HB := Lib.hid hB
  have hc : ∀ W b x, Below w.heap.size w W → Im W b x → Calls Try.prog 88 #[.pointer (some ⟨b, 0, none⟩), .pointer (some ⟨q7, 0, none⟩), .pointer (some ⟨q5, 0, none⟩)] W fun e w' => e = .returned (.bool ((fun i : Nat × Ix => decide (i.2.te.id = id) && !decide (stt 1 S i.2.e.xmin = 3)) (b, x))) ∧ Below W.heap.size W w' := fun W b x hb him => fkp_any W b g q5 q7 id x S F (hl.below hb) him (cells_below hb h7) (cells_below hb h5)
  have HCC := Lib.hid hc
  have c1 := hB.box.cell 2
  have HRI := Lib.hid hM.rI
  clear hc hl h7 h5 hB hM
  generalize (fun i : Nat × Ix => decide (i.2.te.id = id) && !decide (stt 1 S i.2.e.xmin = 3)) = p at *
  obtain ⟨M, hM⟩ : ∃ M, I.length = M := ⟨_, rfl⟩
  rw [hM] at HRI c1 HB hI64 hI16
  have HM := Lib.hid hM
  clear hM
  go_enter Try.func73, Try.ntmps73
  go_wp2
  clear c1
  go_loopw [5, 15] (fun av iv wr => ∃ (i m : Nat) (Aa : Option Addr) (ca : Nat), i ≤ M ∧ m ≤ i ∧ iv = .int .i64 (i : Int) ∧ av = .slice Aa m ca ∧ m = ((I.take i).filter p).length ∧ wr.ownsRow w.heap.size 60 6 (.slice Aa m ca) m (((I.take i).filter p).flatMap ixc) ∧ Below w.heap.size w wr) (fun _ iv _ => M - (intOf iv).toNat)
  case atStart => exact ⟨0, 0, none, 0, Nat.zero_le _, Nat.le_refl _, rfl, rfl, rfl, World.ownsRow_nil _ _ _ _, Below.refl _ _⟩
  case round =>
    obtain ⟨i, m, Aa, ca, hi, hmi, rfl, rfl, hm, ho, hb⟩ := hrel
    have HMM := Lib.hid hm
    clear hm
    by_cases hlt : i < M
    · have hiT : i < I.length := by rw [HM.out]; exact hlt
      have hg : (pts I)[i]? = some (ptr I[i].1) := by unfold pts; rw [List.getElem?_map, List.getElem?_eq_getElem hiT]; rfl
      obtain ⟨ad, rfl, q0⟩ := (HRI.out.below hb).2 i _ hg
      replace q0 : wr.cell? (ad.add i) = some (.pointer (some ⟨I[i].1, 0, none⟩)) := q0
      have ix := idx_ix ad M ci i hlt
      have him := (HB.out.below hb).im (List.getElem_mem hiT)
      have hbx := ((HB.out.below hb).iB _ (List.getElem_mem hiT)).2.1
      have HFT := Lib.hid (filt_take I p hiT)
      obtain ⟨tt, htt⟩ : ∃ tt, I[i] = tt := ⟨_, rfl⟩
      rw [htt] at q0 him hbx
      have HTT := Lib.hid htt
      clear hg htt
      obtain ⟨b, x⟩ := tt
      have him : Im wr b x := him
      replace q0 : wr.cell? (ad.add i) = some (.pointer (some ⟨b, 0, none⟩)) := q0
      have h5 : wr.cell? ⟨b, 5, none⟩ = some (.int .i64 (x.col : Int)) := hbx.cell 5
      have HC1 := HCC.out wr b x hb him
      have HSH := Lib.hid (fun W (hb' : Below wr.heap.size wr W) => ishown_any W b x (him.below hb') (cells_below hb' h5))
      cases hz : p (b, x) with
      | false =>
        rw [hz] at HC1
        have HC1 := Lib.hid HC1
        have hft := HFT.out
        rw [HTT.out, hz] at hft
        simp only [Bool.false_eq_true, if_false, List.append_nil] at hft
        have HF2 := Lib.hid hft
        have HO := Lib.hid ho
        clear hft him h5 hbx hz ho
        go_wp2_with (go_at_call 88; (with_reducible refine (HC1.out).mono ?_); rintro e w1 ⟨rfl, hb1⟩; have hb2 := hb.next hb1)
        go_roundw
        case rel => exact ⟨i + 1, m, Aa, ca, by omega, by omega, by go_num, rfl, by rw [HF2.out]; exact HMM.out, by rw [HF2.out]; exact own_below HO.out hb1, hb2⟩
        case measure => simp [intOf]; omega
      | true =>
        rw [hz] at HC1
        have HC1 := Lib.hid HC1
        have hft := HFT.out
        rw [HTT.out, hz] at hft
        simp only [if_true] at hft
        have HF2 := Lib.hid hft
        have HO := Lib.hid ho
        clear hft him h5 hbx hz ho
        go_wp2_with fail
        refine (HC1.out).mono ?_
        rintro e w1 ⟨rfl, hb1⟩
        have hb2 := hb.next hb1
        have HS1 := Lib.hid (HSH.out w1 hb1)
        unfold ixV at HS1
        go_wp2_with fail
        refine (HS1.out).mono ?_
        rintro e w2 ⟨rfl, hb3⟩
        have hb4 := hb2.next hb3
        have x5 : Below w2.heap.size w2 (w2.alloc (.cells #[.int .u64 (x.e.id : Int), .string x.e.nm, .int .u64 (x.te.id : Int), .int .i64 (x.col : Int), .int .u64 (x.e.xmin : Int), .int .u64 (x.e.xmax : Int)] 60)) := (Below.refl _ _).al _
        have o5 := own_below (own_below (own_below HO.out hb1) hb3) x5
        have hb5 := hb4.next x5
        have hsz5 := hb5.size
        have hi0 : i < 9223372036854775807 := by omega
        have hmb : m < 16 := by omega
        go_wp2_with (at_builtin; refine wpList_append_src _ rfl (.tmp 22) (.tmp 25) 68 68 rfl w.heap.size 60 _ _ 6 56 Try.underlying68 hi1 hy0 hy1 hy2 rfl _ _ _ rfl o5 _ 1 (ixc (b, x)) rfl (src_rd Try.underlying68 _ (rd_lit (by first | rfl | simp) rfl rfl) (by decide) (ixc_one (b, x))) (by simp only [maxLen]; omega) (by omega) hsz5 ?_; intro v9 w9 ho9 hg9 ha9; have hb9 := hb5.trans (grown_below o5 hg9 hsz5); obtain ⟨A9, c9, hv9, _, _, _⟩ := own_form ho9; subst hv9; have HO9 := Lib.hid ho9; clear ho9 hg9 ha9)
        go_roundw
        case rel => exact ⟨i + 1, m + 1, A9, c9, by omega, by omega, by go_num, rfl, by rw [HF2.out, List.length_append, ← HMM.out]; rfl, by rw [HF2.out, List.flatMap_append]; simpa using HO9.out, hb9⟩
        case measure => simp [intOf]; omega
    · have hiN : i = M := by omega
      have hfl : (I.take i) = I := by rw [hiN, ← HM.out]; exact List.take_length
      have HFL := Lib.hid hfl
      have HO := Lib.hid ho
      clear hfl ho
      subst hiN
      go_wp2
      go_ret
      exact ⟨_, rfl, by have := HO.out; have h2 := HMM.out; rw [HFL.out] at this h2; rw [← h2]; exact this, hb⟩
end Go.Proofs.Ytbmkhopmhmmibaa
