/-
  dead; sift.
-/
import Derived.Test.YtbmkhopmhmmibaaBookZ
namespace Go.Proofs.Ytbmkhopmhmmibaa
open Go.RowKit
set_option linter.unusedVariables false

def ddE (S : List Nat) (h : Nat) (x : Ent) : Bool := deadB 1 S x.xmin x.xmax h
def ddI (S : List Nat) (h : Nat) (x : Ix) : Bool := ddE S h x.e || ddE S h x.te
theorem edead_any (w : World) (b g h : Nat) (x : Ent) (S : List Nat) (F : Nat → Prop) (hl : LG w g 1 S F) (he : En w b x) :
    Calls Try.prog 117 #[.pointer (some ⟨b, 0, none⟩), .pointer (some ⟨g, 0, none⟩), .int .u64 (h : Int)] w fun e w' => e = .returned (.bool (ddE S h x)) ∧ Below w.heap.size w w' := by
  have hst := stamped_any w b x he
  unfold tpv at hst
  have HST := Lib.hid hst
  have HD := Lib.hid (fun W (hb : Below w.heap.size w W) => dead_any W g 1 x.xmin x.xmax h S F (hl.below hb))
  unfold ddE
  generalize deadB 1 S x.xmin x.xmax h = z at *
  clear hst hl he
  go_enter Try.func117, Try.ntmps117
  go_wp2_with (first
    | (go_at_call 93; (with_reducible refine (HST.out).mono ?_); rintro e w1 ⟨rfl, x1⟩)
    | (go_at_call 120; (with_reducible refine (HD.out _ x1).mono ?_); rintro e w2 ⟨rfl, x2⟩; have x3 := x1.next x2))
  go_ret
  exact ⟨rfl, x3⟩
theorem idead_any (w : World) (b g h : Nat) (x : Ix) (S : List Nat) (F : Nat → Prop) (hl : LG w g 1 S F) (he : Im w b x) :
    Calls Try.prog 122 #[.pointer (some ⟨b, 0, none⟩), .pointer (some ⟨g, 0, none⟩), .int .u64 (h : Int)] w fun e w' => e = .returned (.bool (ddI S h x)) ∧ Below w.heap.size w w' := by
  have H1 := Lib.hid (edead_any w b g h x.e S F hl he.en)
  have H2 := Lib.hid (fun W (hb : Below w.heap.size w W) => edead_any W x.tb g h x.te S F (hl.below hb) (he.ten.below hb))
  have HT := Lib.hid he
  unfold ddI
  generalize ddE S h x.e = z at *
  generalize ddE S h x.te = y at *
  clear hl he
  go_enter Try.func122, Try.ntmps122
  go_wp2_with fail
  refine (H1.out).mono ?_
  rintro e w1 ⟨rfl, x1⟩
  have tp := (HT.out.below x1).tp
  cases z with
  | true =>
    go_wp2
    go_ret
    exact ⟨by simp, x1⟩
  | false =>
    go_wp2_with (go_at_call 117; (with_reducible refine (H2.out _ x1).mono ?_); rintro e w2 ⟨rfl, x2⟩; have x3 := x1.next x2)
    go_ret
    exact ⟨by simp, x3⟩
theorem number_any (w : World) (b : Nat) (x : Ent) (he : En w b x) :
    Calls Try.prog 119 #[.pointer (some ⟨b, 0, none⟩)] w fun e w' => e = .returned (.int .u64 (x.id : Int)) ∧ Below w.heap.size w w' := by
  obtain ⟨c0, c1, c2, c3⟩ := he
  go_enter Try.func119, Try.ntmps119
  go_wp2
  go_ret
  exact ⟨rfl, Below.refl _ _⟩
theorem mt_dead (b : Nat) (W : World) : (Go.method 300 114 (.pointer (some ⟨b, 0, none⟩)) "lapidary/book.dead").run Try.prog W = .ok (117, .pointer (some ⟨b, 0, none⟩)) W := by kernel_rfl
theorem mt_number (b : Nat) (W : World) : (Go.method 300 114 (.pointer (some ⟨b, 0, none⟩)) "lapidary/book.number").run Try.prog W = .ok (119, .pointer (some ⟨b, 0, none⟩)) W := by kernel_rfl
theorem mi_dead (b : Nat) (W : World) : (Go.method 300 130 (.pointer (some ⟨b, 0, none⟩)) "lapidary/book.dead").run Try.prog W = .ok (122, .pointer (some ⟨b, 0, none⟩)) W := by kernel_rfl
theorem mi_number (b : Nat) (W : World) : (Go.method 300 130 (.pointer (some ⟨b, 0, none⟩)) "lapidary/book.number").run Try.prog W = .ok (119, .pointer (some ⟨b, 0, none⟩)) W := by kernel_rfl
theorem ucells_snoc (L : List Nat) (x : Nat) : ucells .u64 (L ++ [x]) = ucells .u64 L ++ [.int .u64 (x : Int)] := by
  rw [ucells_append]; rfl
set_option maxRecDepth 100000 in
set_option maxHeartbeats 2000000 in
theorem sift_t (w : World) (g h N ct : Nat) (AT : Option Addr) (T : List (Nat × Ent)) (S : List Nat) (F : Nat → Prop) (hl : LG w g 1 S F) (hN : N = T.length) (hN16 : N ≤ 16) (hT : Rd w 1 AT N (pts T)) (hE : ∀ t ∈ T, En w t.1 t.2) :
    Calls Try.prog 65 #[.pointer (some ⟨g, 0, none⟩), .slice AT N ct, .int .u64 (h : Int)] w fun e w' => ∃ vl vg, e = .returned (.tuple #[vl, vg]) ∧ w'.ownsRow w.heap.size 114 1 vl (T.filter fun t => !ddE S h t.2).length (pts (T.filter fun t => !ddE S h t.2)) ∧ w'.ownsRow w.heap.size 28 1 vg ((T.filter fun t => ddE S h t.2).map (fun t : Nat × Ent => t.2.id)).length (ucells .u64 ((T.filter fun t => ddE S h t.2).map (fun t : Nat × Ent => t.2.id))) ∧ Below w.heap.size w w' := by
  obtain ⟨i1, hi1, hy0, hy1, hy2⟩ := info_parts4 info_tbp
  obtain ⟨i2, hi2, hz0, hz1, hz2⟩ := info_parts4 info_u64
  have HDD := Lib.hid (fun W b x (hb : Below w.heap.size w W) (he : En W b x) => edead_any W b g h x S F (hl.below hb) he)
  have HT := Lib.hid hT
  have HE := Lib.hid hE
  have HN := Lib.hid hN
  clear hl hT hE hN
  go_enter Try.func65, Try.ntmps65
  go_wp2
  go_loopw [8, 9, 14] (fun lv gv iv wr => ∃ (i m n : Nat) (Al Ag : Option Addr) (cl cg : Nat), i ≤ N ∧ m ≤ i ∧ n ≤ i ∧ iv = .int .i64 (i : Int) ∧ lv = .slice Al m cl ∧ gv = .slice Ag n cg ∧ m = ((T.take i).filter fun t => !ddE S h t.2).length ∧ n = (((T.take i).filter fun t => ddE S h t.2).map (fun t : Nat × Ent => t.2.id)).length ∧ wr.ownsRow w.heap.size 114 1 (.slice Al m cl) m (pts ((T.take i).filter fun t => !ddE S h t.2)) ∧ wr.ownsRow w.heap.size 28 1 (.slice Ag n cg) n (ucells .u64 (((T.take i).filter fun t => ddE S h t.2).map (fun t : Nat × Ent => t.2.id))) ∧ Below w.heap.size w wr) (fun _ _ iv _ => N - (intOf iv).toNat)
  case atStart => exact ⟨0, 0, 0, none, none, 0, 0, Nat.zero_le _, Nat.le_refl _, Nat.le_refl _, rfl, rfl, rfl, rfl, rfl, World.ownsRow_nil _ _ _ _, World.ownsRow_nil _ _ _ _, Below.refl _ _⟩
  case round =>
    obtain ⟨i, m, n, Al, Ag, cl, cg, hi, hmi, hni, rfl, rfl, rfl, hm, hn, hol, hog, hb⟩ := hrel
    have HMM := Lib.hid hm
    have HNN := Lib.hid hn
    have HOL := Lib.hid hol
    have HOG := Lib.hid hog
    clear hm hn hol hog
    by_cases hlt : i < N
    · have hiT : i < T.length := by rw [← HN.out]; exact hlt
      have hg : (pts T)[i]? = some (ptr T[i].1) := by unfold pts; rw [List.getElem?_map, List.getElem?_eq_getElem hiT]; rfl
      obtain ⟨ad, rfl, q0⟩ := (HT.out.below hb).2 i _ hg
      replace q0 : wr.cell? (ad.add i) = some (.pointer (some ⟨T[i].1, 0, none⟩)) := q0
      have ix := idx_tb ad N ct i hlt
      have him := (HE.out _ (List.getElem_mem hiT)).below hb
      have HF1 := Lib.hid (filt_take T (fun t => !ddE S h t.2) hiT)
      have HF2 := Lib.hid (filt_take T (fun t => ddE S h t.2) hiT)
      obtain ⟨tt, htt⟩ : ∃ tt, T[i] = tt := ⟨_, rfl⟩
      rw [htt] at q0 him HF1 HF2
      clear hg htt
      obtain ⟨b, x⟩ := tt
      have him : En wr b x := him
      replace q0 : wr.cell? (ad.add i) = some (.pointer (some ⟨b, 0, none⟩)) := q0
      have hm1 := mt_dead b
      have hm2 := mt_number b
      have HC := Lib.hid (HDD.out wr b x hb him)
      have HNU := Lib.hid (fun W (hb' : Below wr.heap.size wr W) => number_any W b _ ((him).below hb'))
      have HF1 := HF1.out
      have HF2 := HF2.out
      simp only at HF1 HF2
      cases hz : ddE S h x with
      | true =>
        rw [hz] at HC HF1 HF2
        simp only [Bool.not_true, Bool.false_eq_true, if_false, if_true, List.append_nil] at HF1 HF2
        have HF1 := Lib.hid HF1
        have HF2 := Lib.hid HF2
        clear hz him
        go_wp2_with fail
        refine (HC.out).mono ?_
        rintro e w1 ⟨rfl, hb1⟩
        have hb2 := hb.next hb1
        go_wp2_with fail
        refine (HNU.out _ hb1).mono ?_
        rintro e w2 ⟨rfl, hb3⟩
        have hb4 := hb2.next hb3
        have y5 : Below w2.heap.size w2 (w2.alloc (.cells #[.int .u64 (x.id : Int)] 28)) := (Below.refl _ _).al _
        have og5 := own_below (own_below (own_below HOG.out hb1) hb3) y5
        have ol5 := own_below (own_below (own_below HOL.out hb1) hb3) y5
        have hb5 := hb4.next y5
        have hsz5 := hb5.size
        clear hm1 hm2 q0 ix
        go_wp2_with (at_builtin; refine wpList_append_src _ rfl (.tmp 23) (.tmp 27) 48 48 rfl w.heap.size 28 _ _ 1 8 Try.underlying48 hi2 hz0 hz1 hz2 rfl _ _ _ rfl og5 _ 1 [.int .u64 (x.id : Int)] rfl (src_rd Try.underlying48 _ (rd_lit (by first | rfl | simp) rfl rfl) (by decide) (by intro u hu; rw [List.mem_singleton] at hu; subst hu; rfl)) (by simp only [maxLen]; omega) (by omega) hsz5 ?_; intro v9 w9 ho9 hg9 ha9; have hb9 := hb5.trans (grown_below og5 hg9 hsz5); have HL9 := Lib.hid ((Fr.of_own (S := fun k => Value.ownBlock (.slice Ag n cg) = some k) hg9 fun k e => e).own ol5 fun k hk e => (own_ty ol5 hk).ne (own_ty og5 e) (by decide) rfl); obtain ⟨A9, c9, hv9, _, _, _⟩ := own_form ho9; subst hv9; have HO9 := Lib.hid ho9; clear ho9 hg9 ha9)
        go_roundw
        case rel => exact ⟨i + 1, m, n + 1, Al, A9, cl, c9, by omega, by omega, by omega, by go_num, rfl, rfl, by rw [HF1.out]; exact HMM.out, by rw [HF2.out]; have := HNN.out; simp at this ⊢; omega, by rw [HF1.out]; exact HL9.out, by rw [HF2.out, List.map_append, List.map_cons, List.map_nil, ucells_snoc]; exact HO9.out, hb9⟩
        case measure => simp [intOf]; omega
      | false =>
        rw [hz] at HC HF1 HF2
        simp only [Bool.not_false, Bool.false_eq_true, if_false, if_true, List.append_nil] at HF1 HF2
        have HF1 := Lib.hid HF1
        have HF2 := Lib.hid HF2
        clear hz him
        go_wp2_with fail
        refine (HC.out).mono ?_
        rintro e w1 ⟨rfl, hb1⟩
        have hb2 := hb.next hb1
        have y5 : Below w1.heap.size w1 (w1.alloc (.cells #[.pointer (some ⟨b, 0, none⟩)] 114)) := (Below.refl _ _).al _
        have og5 := own_below (own_below HOG.out hb1) y5
        have ol5 := own_below (own_below HOL.out hb1) y5
        have hb5 := hb2.next y5
        have hsz5 := hb5.size
        clear hm1 hm2 q0 ix
        go_wp2_with (at_builtin; refine wpList_append_src _ rfl (.tmp 29) (.tmp 31) 100 100 rfl w.heap.size 114 _ _ 1 8 Try.underlying100 hi1 hy0 hy1 hy2 rfl _ _ _ rfl ol5 _ 1 [ptr b] rfl (src_rd Try.underlying100 _ (rd_lit (by first | rfl | simp) rfl rfl) (by decide) (by intro u hu; rw [List.mem_singleton] at hu; subst hu; rfl)) (by simp only [maxLen]; omega) (by omega) hsz5 ?_; intro v9 w9 ho9 hg9 ha9; have hb9 := hb5.trans (grown_below ol5 hg9 hsz5); have HG9 := Lib.hid ((Fr.of_own (S := fun k => Value.ownBlock (.slice Al m cl) = some k) hg9 fun k e => e).own og5 fun k hk e => (own_ty og5 hk).ne (own_ty ol5 e) (by decide) rfl); obtain ⟨A9, c9, hv9, _, _, _⟩ := own_form ho9; subst hv9; have HO9 := Lib.hid ho9; clear ho9 hg9 ha9)
        go_roundw
        case rel => exact ⟨i + 1, m + 1, n, A9, Ag, c9, cg, by omega, by omega, by omega, by go_num, rfl, rfl, by rw [HF1.out]; have := HMM.out; simp at this ⊢; omega, by rw [HF2.out]; exact HNN.out, by rw [HF1.out]; unfold pts at HO9 ⊢; rw [List.map_append]; exact HO9.out, by rw [HF2.out]; exact HG9.out, hb9⟩
        case measure => simp [intOf]; omega
    · have hiN : i = N := by omega
      have hfl : (T.take i) = T := by rw [hiN, HN.out]; exact List.take_length
      have HL1 := HOL.out
      have HG1 := HOG.out
      have h1 := HMM.out
      have h2 := HNN.out
      rw [hfl] at HL1 HG1 h1 h2
      have HL1 := Lib.hid HL1
      have HG1 := Lib.hid HG1
      have H1 := Lib.hid h1
      have H2 := Lib.hid h2
      clear hfl h1 h2
      subst hiN
      go_wp2
      refine bodyPost_ret (v := .tuple #[.slice Al m cl, .slice Ag n cg]) (by simp [results, Try.results65, go_sem]) rfl ?_
      exact ⟨_, _, rfl, by rw [← H1.out]; exact HL1.out, by rw [← H2.out]; exact HG1.out, hb⟩
set_option maxRecDepth 100000 in
set_option maxHeartbeats 2000000 in
theorem sift_i (w : World) (g h N ct : Nat) (AT : Option Addr) (T : List (Nat × Ix)) (S : List Nat) (F : Nat → Prop) (hl : LG w g 1 S F) (hN : N = T.length) (hN16 : N ≤ 16) (hT : Rd w 1 AT N (pts T)) (hE : ∀ t ∈ T, Im w t.1 t.2) :
    Calls Try.prog 64 #[.pointer (some ⟨g, 0, none⟩), .slice AT N ct, .int .u64 (h : Int)] w fun e w' => ∃ vl vg, e = .returned (.tuple #[vl, vg]) ∧ w'.ownsRow w.heap.size 130 1 vl (T.filter fun t => !ddI S h t.2).length (pts (T.filter fun t => !ddI S h t.2)) ∧ w'.ownsRow w.heap.size 28 1 vg ((T.filter fun t => ddI S h t.2).map (fun t : Nat × Ix => t.2.e.id)).length (ucells .u64 ((T.filter fun t => ddI S h t.2).map (fun t : Nat × Ix => t.2.e.id))) ∧ Below w.heap.size w w' := by
  obtain ⟨i1, hi1, hy0, hy1, hy2⟩ := info_parts4 info_ixp
  obtain ⟨i2, hi2, hz0, hz1, hz2⟩ := info_parts4 info_u64
  have HDD := Lib.hid (fun W b x (hb : Below w.heap.size w W) (he : Im W b x) => idead_any W b g h x S F (hl.below hb) he)
  have HT := Lib.hid hT
  have HE := Lib.hid hE
  have HN := Lib.hid hN
  clear hl hT hE hN
  go_enter Try.func64, Try.ntmps64
  go_wp2
  go_loopw [8, 9, 14] (fun lv gv iv wr => ∃ (i m n : Nat) (Al Ag : Option Addr) (cl cg : Nat), i ≤ N ∧ m ≤ i ∧ n ≤ i ∧ iv = .int .i64 (i : Int) ∧ lv = .slice Al m cl ∧ gv = .slice Ag n cg ∧ m = ((T.take i).filter fun t => !ddI S h t.2).length ∧ n = (((T.take i).filter fun t => ddI S h t.2).map (fun t : Nat × Ix => t.2.e.id)).length ∧ wr.ownsRow w.heap.size 130 1 (.slice Al m cl) m (pts ((T.take i).filter fun t => !ddI S h t.2)) ∧ wr.ownsRow w.heap.size 28 1 (.slice Ag n cg) n (ucells .u64 (((T.take i).filter fun t => ddI S h t.2).map (fun t : Nat × Ix => t.2.e.id))) ∧ Below w.heap.size w wr) (fun _ _ iv _ => N - (intOf iv).toNat)
  case atStart => exact ⟨0, 0, 0, none, none, 0, 0, Nat.zero_le _, Nat.le_refl _, Nat.le_refl _, rfl, rfl, rfl, rfl, rfl, World.ownsRow_nil _ _ _ _, World.ownsRow_nil _ _ _ _, Below.refl _ _⟩
  case round =>
    obtain ⟨i, m, n, Al, Ag, cl, cg, hi, hmi, hni, rfl, rfl, rfl, hm, hn, hol, hog, hb⟩ := hrel
    have HMM := Lib.hid hm
    have HNN := Lib.hid hn
    have HOL := Lib.hid hol
    have HOG := Lib.hid hog
    clear hm hn hol hog
    by_cases hlt : i < N
    · have hiT : i < T.length := by rw [← HN.out]; exact hlt
      have hg : (pts T)[i]? = some (ptr T[i].1) := by unfold pts; rw [List.getElem?_map, List.getElem?_eq_getElem hiT]; rfl
      obtain ⟨ad, rfl, q0⟩ := (HT.out.below hb).2 i _ hg
      replace q0 : wr.cell? (ad.add i) = some (.pointer (some ⟨T[i].1, 0, none⟩)) := q0
      have ix := idx_ix ad N ct i hlt
      have him := (HE.out _ (List.getElem_mem hiT)).below hb
      have HF1 := Lib.hid (filt_take T (fun t => !ddI S h t.2) hiT)
      have HF2 := Lib.hid (filt_take T (fun t => ddI S h t.2) hiT)
      obtain ⟨tt, htt⟩ : ∃ tt, T[i] = tt := ⟨_, rfl⟩
      rw [htt] at q0 him HF1 HF2
      clear hg htt
      obtain ⟨b, x⟩ := tt
      have him : Im wr b x := him
      replace q0 : wr.cell? (ad.add i) = some (.pointer (some ⟨b, 0, none⟩)) := q0
      have hm1 := mi_dead b
      have hm2 := mi_number b
      have HC := Lib.hid (HDD.out wr b x hb him)
      have HNU := Lib.hid (fun W (hb' : Below wr.heap.size wr W) => number_any W b _ ((him.en).below hb'))
      have HF1 := HF1.out
      have HF2 := HF2.out
      simp only at HF1 HF2
      cases hz : ddI S h x with
      | true =>
        rw [hz] at HC HF1 HF2
        simp only [Bool.not_true, Bool.false_eq_true, if_false, if_true, List.append_nil] at HF1 HF2
        have HF1 := Lib.hid HF1
        have HF2 := Lib.hid HF2
        clear hz him
        go_wp2_with fail
        refine (HC.out).mono ?_
        rintro e w1 ⟨rfl, hb1⟩
        have hb2 := hb.next hb1
        go_wp2_with fail
        refine (HNU.out _ hb1).mono ?_
        rintro e w2 ⟨rfl, hb3⟩
        have hb4 := hb2.next hb3
        have y5 : Below w2.heap.size w2 (w2.alloc (.cells #[.int .u64 (x.e.id : Int)] 28)) := (Below.refl _ _).al _
        have og5 := own_below (own_below (own_below HOG.out hb1) hb3) y5
        have ol5 := own_below (own_below (own_below HOL.out hb1) hb3) y5
        have hb5 := hb4.next y5
        have hsz5 := hb5.size
        clear hm1 hm2 q0 ix
        go_wp2_with (at_builtin; refine wpList_append_src _ rfl (.tmp 23) (.tmp 27) 48 48 rfl w.heap.size 28 _ _ 1 8 Try.underlying48 hi2 hz0 hz1 hz2 rfl _ _ _ rfl og5 _ 1 [.int .u64 (x.e.id : Int)] rfl (src_rd Try.underlying48 _ (rd_lit (by first | rfl | simp) rfl rfl) (by decide) (by intro u hu; rw [List.mem_singleton] at hu; subst hu; rfl)) (by simp only [maxLen]; omega) (by omega) hsz5 ?_; intro v9 w9 ho9 hg9 ha9; have hb9 := hb5.trans (grown_below og5 hg9 hsz5); have HL9 := Lib.hid ((Fr.of_own (S := fun k => Value.ownBlock (.slice Ag n cg) = some k) hg9 fun k e => e).own ol5 fun k hk e => (own_ty ol5 hk).ne (own_ty og5 e) (by decide) rfl); obtain ⟨A9, c9, hv9, _, _, _⟩ := own_form ho9; subst hv9; have HO9 := Lib.hid ho9; clear ho9 hg9 ha9)
        go_roundw
        case rel => exact ⟨i + 1, m, n + 1, Al, A9, cl, c9, by omega, by omega, by omega, by go_num, rfl, rfl, by rw [HF1.out]; exact HMM.out, by rw [HF2.out]; have := HNN.out; simp at this ⊢; omega, by rw [HF1.out]; exact HL9.out, by rw [HF2.out, List.map_append, List.map_cons, List.map_nil, ucells_snoc]; exact HO9.out, hb9⟩
        case measure => simp [intOf]; omega
      | false =>
        rw [hz] at HC HF1 HF2
        simp only [Bool.not_false, Bool.false_eq_true, if_false, if_true, List.append_nil] at HF1 HF2
        have HF1 := Lib.hid HF1
        have HF2 := Lib.hid HF2
        clear hz him
        go_wp2_with fail
        refine (HC.out).mono ?_
        rintro e w1 ⟨rfl, hb1⟩
        have hb2 := hb.next hb1
        have y5 : Below w1.heap.size w1 (w1.alloc (.cells #[.pointer (some ⟨b, 0, none⟩)] 130)) := (Below.refl _ _).al _
        have og5 := own_below (own_below HOG.out hb1) y5
        have ol5 := own_below (own_below HOL.out hb1) y5
        have hb5 := hb2.next y5
        have hsz5 := hb5.size
        clear hm1 hm2 q0 ix
        go_wp2_with (at_builtin; refine wpList_append_src _ rfl (.tmp 29) (.tmp 31) 101 101 rfl w.heap.size 130 _ _ 1 8 Try.underlying101 hi1 hy0 hy1 hy2 rfl _ _ _ rfl ol5 _ 1 [ptr b] rfl (src_rd Try.underlying101 _ (rd_lit (by first | rfl | simp) rfl rfl) (by decide) (by intro u hu; rw [List.mem_singleton] at hu; subst hu; rfl)) (by simp only [maxLen]; omega) (by omega) hsz5 ?_; intro v9 w9 ho9 hg9 ha9; have hb9 := hb5.trans (grown_below ol5 hg9 hsz5); have HG9 := Lib.hid ((Fr.of_own (S := fun k => Value.ownBlock (.slice Al m cl) = some k) hg9 fun k e => e).own og5 fun k hk e => (own_ty og5 hk).ne (own_ty ol5 e) (by decide) rfl); obtain ⟨A9, c9, hv9, _, _, _⟩ := own_form ho9; subst hv9; have HO9 := Lib.hid ho9; clear ho9 hg9 ha9)
        go_roundw
        case rel => exact ⟨i + 1, m + 1, n, A9, Ag, c9, cg, by omega, by omega, by omega, by go_num, rfl, rfl, by rw [HF1.out]; have := HMM.out; simp at this ⊢; omega, by rw [HF2.out]; exact HNN.out, by rw [HF1.out]; unfold pts at HO9 ⊢; rw [List.map_append]; exact HO9.out, by rw [HF2.out]; exact HG9.out, hb9⟩
        case measure => simp [intOf]; omega
    · have hiN : i = N := by omega
      have hfl : (T.take i) = T := by rw [hiN, HN.out]; exact List.take_length
      have HL1 := HOL.out
      have HG1 := HOG.out
      have h1 := HMM.out
      have h2 := HNN.out
      rw [hfl] at HL1 HG1 h1 h2
      have HL1 := Lib.hid HL1
      have HG1 := Lib.hid HG1
      have H1 := Lib.hid h1
      have H2 := Lib.hid h2
      clear hfl h1 h2
      subst hiN
      go_wp2
      refine bodyPost_ret (v := .tuple #[.slice Al m cl, .slice Ag n cg]) (by simp [results, Try.results64, go_sem]) rfl ?_
      exact ⟨_, _, rfl, by rw [← H1.out]; exact HL1.out, by rw [← H2.out]; exact HG1.out, hb⟩
end Go.Proofs.Ytbmkhopmhmmibaa
