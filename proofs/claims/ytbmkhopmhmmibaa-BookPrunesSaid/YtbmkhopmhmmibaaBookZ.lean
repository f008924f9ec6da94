/-
  (*Book).DropTable.
-/
import Derived.Test.YtbmkhopmhmmibaaBookY
import Derived.LaidEqlPtr
namespace Go.Proofs.Ytbmkhopmhmmibaa
open Go.RowKit
set_option linter.unusedVariables false

theorem nodup_eq {α : Type} {f : α → Nat} {L : List α} (h : (L.map f).Nodup) : ∀ {x y : α}, x ∈ L → y ∈ L → f x = f y → x = y := by
  induction L with
  | nil => intro x y hx; cases hx
  | cons a L ih =>
    rw [List.map_cons, List.nodup_cons] at h
    intro x y hx hy he
    rcases List.mem_cons.1 hx with h1 | h1
    · rcases List.mem_cons.1 hy with h2 | h2
      · rw [h1, h2]
      · exact (h.1 (List.mem_map.2 ⟨y, h2, by rw [← he, h1]⟩)).elim
    · rcases List.mem_cons.1 hy with h2 | h2
      · exact (h.1 (List.mem_map.2 ⟨x, h1, by rw [he, h2]⟩)).elim
      · exact ih h.2 h1 h2 he
theorem entB_tb {T : List Tb} {I : List (Nat × Ix)} {t : Tb} (h : (T.map Tb.b).Nodup) (ht : t ∈ T) : entB T I t.b = t.e := by
  unfold entB
  cases hf : T.find? (fun u => u.b == t.b) with
  | some u =>
    have h1 := List.mem_of_find?_eq_some hf
    have h2 : u.b = t.b := by have := List.find?_some hf; simpa using this
    rw [nodup_eq h h1 ht h2]
  | none =>
    rw [List.find?_eq_none] at hf
    exact (hf t ht (by simp)).elim
/-- The indexes that go with a table. -/
def goP (S : List Nat) (own xmax : Nat) (R : List Nat) (tb : Nat) (i : Nat × Ix) : Bool := decide (i.2.tb = tb) && visI 1 S own xmax R i.2
def goD (S : List Nat) (own xmax : Nat) (R : List Nat) (t : Tb) (I : List (Nat × Ix)) : List Nat := t.b :: (I.filter (goP S own xmax R t.b)).map Prod.fst
/-- What DropTable answers and leaves. -/
def DtR (B : Nat) (w w' : World) (k last : Nat) (T : List Tb) (I : List (Nat × Ix)) (vT vI : Value) (S : List Nat) (own xmax : Nat) (R : List Nat) (n : ByteArray) (e : Ending) : Prop := match findTb S own xmax R n T with
  | none => e = .returned (.tuple #[.int .u64 0, .int .i64 6]) ∧ Below w.heap.size w w'
  | some t => if allFree S own xmax R T I (goD S own xmax R t I) = true then e = .returned (.tuple #[.int .u64 (t.e.id : Int), .int .i64 0]) ∧ Bk B w' k last (T.map (Tb.st (goD S own xmax R t I) own)) (I.map (Ix.st (goD S own xmax R t I) own)) vT vI ∧ FrT bkT B w w'
      else e = .returned (.tuple #[.int .u64 0, .int .i64 11]) ∧ Below w.heap.size w w'
theorem info_tabl : (Try.prog.info? 123).map (fun i => i.size) = some 5 := by kernel_rfl
theorem ptr_same (w : World) (a : Nat) : (binOp .eql 114 (.pointer (some ⟨a, 0, none⟩)) (.pointer (some ⟨a, 0, none⟩))).run Try.prog w = .ok (.bool true) w := by
  have h := info_tabl
  cases hj : Try.prog.info? 123 with
  | none => rw [hj] at h; cases h
  | some j => exact run_eql_ptr_same w _ Try.underlying114 hj
theorem ptr_other (w : World) (a b : Nat) {la lb : List Value} (hne : a ≠ b) (ha : Bx w a 123 la) (hb : Bx w b 123 lb) : (binOp .eql 114 (.pointer (some ⟨a, 0, none⟩)) (.pointer (some ⟨b, 0, none⟩))).run Try.prog w = .ok (.bool false) w := by
  have h := info_tabl
  cases hj : Try.prog.info? 123 with
  | none => rw [hj] at h; cases h
  | some j =>
    rw [hj] at h
    have h5 : j.size = 5 := by injection h
    exact run_eql_ptr_other w Try.underlying114 hj (by omega) (fun e => hne (by injection e)) ha hb
theorem info_ep : (Try.prog.info? 135).map (fun i => (i.zero, i.size, i.bytes)) = some (some (.pointer none), 1, 8) := by kernel_rfl
set_option maxRecDepth 100000 in
set_option maxHeartbeats 4000000 in
theorem drtab_any (w : World) (B k g own xmin xmax bb last : Nat) (T : List Tb) (I : List (Nat × Ix)) (S R : List Nat) (F : Nat → Prop) (v vT vI : Value) (n : ByteArray) (hl : LG w g 1 S F) (hR : w.ownsRow bb 28 1 v R.length (ucells .u64 R)) (hn : R.length ≤ 9223372036854775807)
    (hB : Bk B w k last T I vT vI) (hBw : B ≤ w.heap.size) (hI16 : I.length ≤ 16) :
    Calls Try.prog 25 #[.pointer (some ⟨k, 0, none⟩), .pointer (some ⟨g, 0, none⟩), .agg #[.int .u64 (own : Int), .int .u64 (xmin : Int), .int .u64 (xmax : Int), v], .string n] w fun e w' => DtR B w w' k last T I vT vI S own xmax R n e := by
  obtain ⟨A, c, hv, _, _, _⟩ := own_form hR
  subst hv
  obtain ⟨AT, ct, AI, ci, rfl, rfl, hT64, hI64, hM⟩ := hB.m
  have x0 : Below w.heap.size w (w.alloc (.cells #[.int .u64 (own : Int), .int .u64 (xmin : Int), .int .u64 (xmax : Int), .slice A R.length c] 50)).drew := ((Below.refl _ _).al _).next (below_n _ 1)
  have b0 : Bx (w.alloc (.cells #[.int .u64 (own : Int), .int .u64 (xmin : Int), .int .u64 (xmax : Int), .slice A R.length c] 50)).drew w.heap.size 50 [.int .u64 (own : Int), .int .u64 (xmin : Int), .int .u64 (xmax : Int), .slice A R.length c] := (Bx.new w 50 _ _ rfl).below (below_n _ 1)
  have bk := (hB.below x0).box
  have hSd : (w.alloc (.cells #[.int .u64 (own : Int), .int .u64 (xmin : Int), .int .u64 (xmax : Int), .slice A R.length c] 50)).drew.cell? ⟨w.heap.size, 0, none⟩ = some (.int .u64 (own : Int)) ∧ (w.alloc (.cells #[.int .u64 (own : Int), .int .u64 (xmin : Int), .int .u64 (xmax : Int), .slice A R.length c] 50)).drew.cell? ⟨w.heap.size, 1, none⟩ = some (.int .u64 (xmin : Int)) ∧ (w.alloc (.cells #[.int .u64 (own : Int), .int .u64 (xmin : Int), .int .u64 (xmax : Int), .slice A R.length c] 50)).drew.cell? ⟨w.heap.size, 2, none⟩ = some (.int .u64 (xmax : Int)) ∧ (w.alloc (.cells #[.int .u64 (own : Int), .int .u64 (xmin : Int), .int .u64 (xmax : Int), .slice A R.length c] 50)).drew.cell? ⟨w.heap.size, 3, none⟩ = some (.slice A R.length c) ∧ (w.alloc (.cells #[.int .u64 (own : Int), .int .u64 (xmin : Int), .int .u64 (xmax : Int), .slice A R.length c] 50)).drew.cell? ⟨k, 1, none⟩ = some (.slice AT T.length ct) := ⟨b0.cell 0, b0.cell 1, b0.cell 2, b0.cell 3, bk.cell 1⟩
  have HFT := tfind_any _ g 1 own xmin xmax bb T.length ct 0 AT (T.map Tb.p) S R F _ n (hl.below x0) (own_below hR x0) hn (by simp) hT64 (hM.below x0).rT (fun t ht => ((hM.below x0).eT t ht))
  rw [findT_tb] at HFT
  have HB := Lib.hid hB
  have HX := Lib.hid x0
  have HRI := Lib.hid hM.rI
  have HL := Lib.hid hl
  have HR := Lib.hid hR
  obtain ⟨i1, hi1, hy0, hy1, hy2⟩ := info_parts4 info_ep
  obtain ⟨o, ho⟩ : ∃ o, findTb S own xmax R n T = o := ⟨_, rfl⟩
  rw [ho] at HFT
  have HFB := Lib.hid ho
  clear hl hR hB hM ho bk
  cases o with
  | none =>
    have HFT := Lib.hid (show Calls _ _ _ _ fun e w' => e = .returned (.tuple #[.pointer none, .bool false]) ∧ _ from HFT)
    go_enter Try.func25, Try.ntmps25
    go_upto_region 3 with fail
    go_region_held3 (fun w' => w'.cell? ⟨w.heap.size, 0, none⟩ = some (.int .u64 (own : Int)) ∧ w'.cell? ⟨w.heap.size, 1, none⟩ = some (.int .u64 (xmin : Int)) ∧ w'.cell? ⟨w.heap.size, 2, none⟩ = some (.int .u64 (xmax : Int)) ∧ w'.cell? ⟨w.heap.size, 3, none⟩ = some (.slice A R.length c) ∧ w'.cell? ⟨k, 1, none⟩ = some (.slice AT T.length ct)) (first | (with_reducible assumption))
      (first | (go_at_call 55; (with_reducible refine (HFT.out).mono ?_); rintro e w1 ⟨rfl, hb1⟩; have x1 := HX.out.next hb1; have hS1 : w1.cell? ⟨w.heap.size, 0, none⟩ = some (.int .u64 (own : Int)) ∧ w1.cell? ⟨w.heap.size, 1, none⟩ = some (.int .u64 (xmin : Int)) ∧ w1.cell? ⟨w.heap.size, 2, none⟩ = some (.int .u64 (xmax : Int)) ∧ w1.cell? ⟨w.heap.size, 3, none⟩ = some (.slice A R.length c) ∧ w1.cell? ⟨k, 1, none⟩ = some (.slice AT T.length ct) := ⟨cells_below hb1 hSd.1, cells_below hb1 hSd.2.1, cells_below hb1 hSd.2.2.1, cells_below hb1 hSd.2.2.2.1, cells_below hb1 hSd.2.2.2.2⟩))
    go_wp2_with fail
    refine bodyPost_ret (v := .tuple #[.int .u64 0, .int .i64 6]) (by simp [results, Try.results25, go_sem]) rfl ?_
    unfold DtR
    rw [HFB.out]
    exact ⟨rfl, x1⟩
  | some t =>
    obtain ⟨tb, te, tcs, tcv⟩ := t
    have htm := findTb_mem HFB.out
    have HFT := Lib.hid (show Calls _ _ _ _ fun e w' => e = .returned (.tuple #[.pointer (some ⟨tb, 0, none⟩), .bool true]) ∧ _ from HFT)
    have HD := Lib.hid (show goD S own xmax R ⟨tb, te, tcs, tcv⟩ I = tb :: (I.filter (goP S own xmax R tb)).map Prod.fst from rfl)
    have HID := Lib.hid (show (entB T I tb).id = te.id from congrArg Ent.id (entB_tb HB.out.ndT htm))
    have HTM := Lib.hid htm
    have HGP := Lib.hid (show ∀ i, goP S own xmax R tb i = (decide (i.2.tb = tb) && visI 1 S own xmax R i.2) from fun i => rfl)
    obtain ⟨M, hMl⟩ : ∃ M, I.length = M := ⟨_, rfl⟩
    rw [hMl] at HRI hI64 hI16 HB
    have HM := Lib.hid hMl
    clear htm hMl
    go_enter Try.func25, Try.ntmps25
    go_upto_region 3 with fail
    go_region_held3 (fun w' => w'.cell? ⟨w.heap.size, 0, none⟩ = some (.int .u64 (own : Int)) ∧ w'.cell? ⟨w.heap.size, 1, none⟩ = some (.int .u64 (xmin : Int)) ∧ w'.cell? ⟨w.heap.size, 2, none⟩ = some (.int .u64 (xmax : Int)) ∧ w'.cell? ⟨w.heap.size, 3, none⟩ = some (.slice A R.length c) ∧ w'.cell? ⟨k, 1, none⟩ = some (.slice AT T.length ct)) (first | (with_reducible assumption))
      (first | (go_at_call 55; (with_reducible refine (HFT.out).mono ?_); rintro e w1 ⟨rfl, hb1⟩; have x1 := HX.out.next hb1; have b1 := b0.below hb1; have hS1 : w1.cell? ⟨w.heap.size, 0, none⟩ = some (.int .u64 (own : Int)) ∧ w1.cell? ⟨w.heap.size, 1, none⟩ = some (.int .u64 (xmin : Int)) ∧ w1.cell? ⟨w.heap.size, 2, none⟩ = some (.int .u64 (xmax : Int)) ∧ w1.cell? ⟨w.heap.size, 3, none⟩ = some (.slice A R.length c) ∧ w1.cell? ⟨k, 1, none⟩ = some (.slice AT T.length ct) := ⟨cells_below hb1 hSd.1, cells_below hb1 hSd.2.1, cells_below hb1 hSd.2.2.1, cells_below hb1 hSd.2.2.2.1, cells_below hb1 hSd.2.2.2.2⟩))
    clear hSd hS1 b0 HFT
    have o2 := own_lit2 (w := w1) (e := 135) (sz := 1) (n := 1) (cs := [.pointer (some ⟨tb, 0, none⟩)]) rfl (by decide)
    have y2 : Below w1.heap.size w1 (w1.alloc (.cells #[.pointer (some ⟨tb, 0, none⟩)] 135)) := (Below.refl _ _).al _
    have x2 := x1.next y2
    have b2 := b1.below y2
    have hI2 := (HB.out.below x2).box.cell 2
    have hIs : w.heap.size ≤ w1.heap.size := x1.size
    go_upto_region 7 with fail
    generalize hw2 : w1.alloc (.cells #[.pointer (some ⟨tb, 0, none⟩)] 135) = w2 at *
    have O2 := Lib.hid (own_le o2 hIs)
    generalize w1.heap.size = q1 at *
    clear hw2 b1 x1 o2 y2
    go_wp2_with fail
    have HVI := Lib.hid (fun W b x (hb : Below w.heap.size w W) (h : Im W b x) => ivis_any W b g 1 own xmin xmax bb x S R F _ (HL.out.below hb) (own_below HR.out hb) hn h)
    have HBX := Lib.hid b2
    have HX2 := Lib.hid x2
    clear b2 x2 hI2
    go_loopw [12, 39] (fun av iv wr => ∃ (i m : Nat) (Aa : Option Addr) (ca : Nat), i ≤ M ∧ 1 ≤ m ∧ m ≤ i + 1 ∧ iv = .int .i64 (i : Int) ∧ av = .slice Aa m ca ∧ m = (tb :: ((I.take i).filter (goP S own xmax R tb)).map Prod.fst).length ∧ wr.ownsRow w.heap.size 135 1 (.slice Aa m ca) m ((tb :: ((I.take i).filter (goP S own xmax R tb)).map Prod.fst).map ptr) ∧ Below w.heap.size w wr ∧ Bx wr w.heap.size 50 [.int .u64 (own : Int), .int .u64 (xmin : Int), .int .u64 (xmax : Int), .slice A R.length c]) (fun _ iv _ => M - (intOf iv).toNat)
    case atStart => exact ⟨0, 1, some ⟨q1, 0, none⟩, 1, Nat.zero_le _, Nat.le_refl _, Nat.le_refl _, rfl, rfl, rfl, O2.out, HX2.out, HBX.out⟩
    case round =>
      obtain ⟨i, m, Aa, ca, hi, hm1, hmi, rfl, rfl, hm, ho, hb, hbx⟩ := hrel
      have HMM := Lib.hid hm
      clear hm
      by_cases hlt : i < M
      · have hiT : i < I.length := by rw [HM.out]; exact hlt
        have hg : (pts I)[i]? = some (ptr I[i].1) := by unfold pts; rw [List.getElem?_map, List.getElem?_eq_getElem hiT]; rfl
        obtain ⟨ad, rfl, q0⟩ := (HRI.out.below hb).2 i _ hg
        replace q0 : wr.cell? (ad.add i) = some (.pointer (some ⟨I[i].1, 0, none⟩)) := q0
        have ix := idx_ix ad M ci i hlt
        have him := (HB.out.below hb).im (List.getElem_mem hiT)
        have HFT := Lib.hid (filt_take I (goP S own xmax R tb) hiT)
        obtain ⟨tt, htt⟩ : ∃ tt, I[i] = tt := ⟨_, rfl⟩
        rw [htt] at q0 him
        have HTT := Lib.hid htt
        clear hg htt
        obtain ⟨b, x⟩ := tt
        have him : Im wr b x := him
        replace q0 : wr.cell? (ad.add i) = some (.pointer (some ⟨b, 0, none⟩)) := q0
        have tp := him.tp
        have HV1 := Lib.hid (HVI.out wr b x hb him)
        have hgp := HGP.out (b, x)
        change goP S own xmax R tb (b, x) = (decide (x.tb = tb) && visI 1 S own xmax R x) at hgp
        have k0 := hbx.cell 0
        have k1 := hbx.cell 1
        have k2 := hbx.cell 2
        have k3 := hbx.cell 3
        have HO := Lib.hid ho
        clear him ho
        have hxb := (HB.out.below hb).iB _ (List.getElem_mem hiT)
        rw [HTT.out] at hxb
        obtain ⟨_, _, t2, ht2, ht3, _⟩ := hxb
        have hbt1 := ((HB.out.below hb).tB _ ht2).2.1
        rw [ht3] at hbt1
        have hbt2 := ((HB.out.below hb).tB _ HTM.out).2.1
        change Bx wr x.tb _ _ at hbt1
        change Bx wr tb _ _ at hbt2
        by_cases hxt : x.tb = tb
        · have hpq := ptr_same wr tb
          clear hbt1 hbt2
          cases hz : visI 1 S own xmax R x with
          | false =>
            rw [hz] at HV1
            rw [hz, Bool.and_false] at hgp
            have hft := HFT.out
            rw [HTT.out, hgp] at hft
            simp only [Bool.false_eq_true, if_false, List.append_nil] at hft
            have HF2 := Lib.hid hft
            rw [hxt] at tp
            clear hft hz hgp hxt
            go_wp2_with (go_at_call 60; (with_reducible refine (HV1.out).mono ?_); rintro e w3 ⟨rfl, hb3⟩; have hb4 := hb.next hb3; have bx4 := hbx.below hb3)
            go_roundw
            case rel => exact ⟨i + 1, m, Aa, ca, by omega, hm1, by omega, by go_num, rfl, by rw [HF2.out]; exact HMM.out, by rw [HF2.out]; exact own_below HO.out hb3, hb4, bx4⟩
            case measure => simp [intOf]; omega
          | true =>
            rw [hz] at HV1
            rw [hz, Bool.and_true] at hgp
            have hft := HFT.out
            rw [HTT.out, hgp, decide_eq_true hxt] at hft
            simp only [if_true] at hft
            have HF2 := Lib.hid hft
            rw [hxt] at tp
            clear hft hz hgp hxt
            go_wp2_with fail
            refine (HV1.out).mono ?_
            rintro e w3 ⟨rfl, hb3⟩
            have hb4 := hb.next hb3
            have bx4 := hbx.below hb3
            have y5 : Below w3.heap.size w3 (w3.alloc (.cells #[.pointer (some ⟨b, 0, none⟩)] 135)) := (Below.refl _ _).al _
            have o5 := own_below (own_below HO.out hb3) y5
            have hb5 := hb4.next y5
            have hsz5 := hb5.size
            have HB5 := Lib.hid (bx4.below y5)
            clear k0 k1 k2 k3 bx4
            go_wp2_with (at_builtin; refine wpList_append_src _ rfl (.tmp 55) (.tmp 59) 136 136 rfl w.heap.size 135 _ _ 1 8 Try.underlying136 hi1 hy0 hy1 hy2 rfl _ _ _ rfl o5 _ 1 [ptr b] rfl (src_rd Try.underlying136 _ (rd_lit (by first | rfl | simp) rfl rfl) (by decide) (by intro u hu; rw [List.mem_singleton] at hu; subst hu; rfl)) (by simp only [maxLen]; omega) (by omega) hsz5 ?_; intro v9 w9 ho9 hg9 ha9; have hb9 := hb5.trans (grown_below o5 hg9 hsz5); have HB9 := Lib.hid ((Fr.of_own (S := fun k => Value.ownBlock (.slice Aa m ca) = some k) hg9 fun k e => e).bx HB5.out fun e => HB5.out.ty.ne (own_ty o5 e) (by decide) rfl); obtain ⟨A9, c9, hv9, _, _, _⟩ := own_form ho9; subst hv9; have HO9 := Lib.hid ho9; clear ho9 hg9 ha9)
            go_roundw
            case rel => exact ⟨i + 1, m + 1, A9, c9, by omega, by omega, by omega, by go_num, rfl, by rw [HF2.out]; have := HMM.out; simp at this ⊢; omega, by rw [HF2.out]; simpa using HO9.out, hb9, HB9.out⟩
            case measure => simp [intOf]; omega
        · have hpq := ptr_other wr x.tb tb hxt hbt1 hbt2
          clear hbt1 hbt2
          have hgp2 : goP S own xmax R tb (b, x) = false := by rw [hgp, decide_eq_false hxt]; rfl
          have hft := HFT.out
          rw [HTT.out, hgp2] at hft
          simp only [Bool.false_eq_true, if_false, List.append_nil] at hft
          have HF2 := Lib.hid hft
          clear hft hgp hgp2
          go_wp2
          go_roundw
          case rel => exact ⟨i + 1, m, Aa, ca, by omega, hm1, by omega, by go_num, rfl, by rw [HF2.out]; exact HMM.out, by rw [HF2.out]; exact HO.out, hb, hbx⟩
          case measure => simp [intOf]; omega
      · have hiN : i = M := by omega
        have hfl : (I.take i) = I := by rw [hiN, ← HM.out]; exact List.take_length
        rw [hfl] at ho
        have hm := HMM.out
        rw [hfl] at hm
        have HO := Lib.hid ho
        have HMN := Lib.hid hm
        have k0 := hbx.cell 0
        have k1 := hbx.cell 1
        have k2 := hbx.cell 2
        have k3 := hbx.cell 3
        have HDR := drop_any wr B k g own xmin xmax bb w.heap.size last m ca Aa T I S R (tb :: (I.filter (goP S own xmax R tb)).map Prod.fst) F _ _ _ (HL.out.below hb) (own_below HR.out hb) hn (HB.out.below hb) (Nat.le_trans hBw hb.size) (fun d hd => by
          rcases List.mem_cons.1 hd with rfl | hd
          · exact .inl (List.mem_map.2 ⟨_, HTM.out, rfl⟩)
          · obtain ⟨j, hj, rfl⟩ := List.mem_map.1 hd
            exact .inr (List.mem_map.2 ⟨j, (List.mem_filter.1 hj).1, rfl⟩)) hm hm1 ho
        rw [← HD.out] at HDR
        have HDD := Lib.hid HDR
        have hhd : (entB T I ((goD S own xmax R ⟨tb, te, tcs, tcv⟩ I).headD 0)).id = te.id := HID.out
        have HHD := Lib.hid hhd
        have HBB := Lib.hid hb
        clear HDR hhd ho hm hfl hbx
        subst hiN
        go_wp2_with fail
        refine (HDD.out).mono ?_
        rintro e w3 (⟨hfa, rfl, x3⟩ | ⟨hfa, rfl, hb3, f3⟩)
        · have HFA := Lib.hid hfa
          clear hfa k0 k1 k2 k3
          go_wp2_with fail
          refine bodyPost_ret (v := .tuple #[.int .u64 0, .int .i64 11]) (by simp [results, Try.results25, go_sem]) rfl ?_
          unfold DtR
          rw [HFB.out]
          show (if allFree S own xmax R T I (goD S own xmax R ⟨tb, te, tcs, tcv⟩ I) = true then _ else _)
          rw [HFA.out]
          rw [if_neg (by decide)]
          exact ⟨rfl, hb.next x3⟩
        · have HFA := Lib.hid hfa
          have HK := Lib.hid hb3
          rw [HHD.out]
          clear hfa hb3 k0 k1 k2 k3
          go_wp2_with fail
          refine bodyPost_ret (v := .tuple #[.int .u64 (te.id : Int), .int .i64 0]) (by simp [results, Try.results25, go_sem]) rfl ?_
          unfold DtR
          rw [HFB.out]
          show (if allFree S own xmax R T I (goD S own xmax R ⟨tb, te, tcs, tcv⟩ I) = true then _ else _)
          rw [HFA.out]
          rw [if_pos rfl]
          exact ⟨rfl, by rw [HM.out]; exact HK.out, (FrT.of_below hb).trans f3⟩
end Go.Proofs.Ytbmkhopmhmmibaa
