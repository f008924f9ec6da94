/-
  (*Book).CreateTable.
-/
import Derived.Test.YtbmkhopmhmmibaaBookG
namespace Go.Proofs.Ytbmkhopmhmmibaa
open Go.RowKit
set_option linter.unusedVariables false

section
variable {B k last : Nat} {w w1 w' : World} {T : List Tb} {I : List (Nat × Ix)} {vT vI v9 : Value} {S : Nat → Prop}
theorem Bk.count (h : Bk B w k last T I vT vI) (hf : Fr (fun i => i = k) w w') (hb : Bx w' k 103 [.int .u64 ((last + 1 : Nat) : Int), vT, vI]) : Bk B w' k (last + 1) T I vT vI :=
  ⟨h.kB, hb, hf.own h.oT fun j hj hS => (own_ty h.oT hj).ne h.box.ty (by decide) hS, hf.own h.oI fun j hj hS => (own_ty h.oI hj).ne h.box.ty (by decide) hS,
    fun t ht => by
      obtain ⟨a, b, c⟩ := h.tB t ht
      exact ⟨a, hf.bx b fun hS => b.ty.ne h.box.ty (by decide) hS, hf.own c fun j hj hS => (own_ty c hj).ne h.box.ty (by decide) hS⟩,
    fun i hi => by
      obtain ⟨a, b, c⟩ := h.iB i hi
      exact ⟨a, hf.bx b fun hS => b.ty.ne h.box.ty (by decide) hS, c⟩, h.ndT, h.ndI⟩
theorem Bk.ty (h : Bk B w k last T I vT vI) : FrT bkT B w w' ↔ FrT bkT B w w' := Iff.rfl
theorem Bk.frk (h : Bk B w k last T I vT vI) (hf : Fr (fun i => i = k) w w') : FrT bkT B w w' :=
  FrT.of_fr hf fun j hj => by subst hj; exact ⟨h.kB, _, by unfold bkT; simp, h.box.ty⟩
/-- A table is put behind the others. -/
theorem Bk.put (h : Bk B w k last T I vT vI) (hg : w.grownBy w1 vT.ownBlock) (t : Tb) (ho : w1.ownsRow B 114 1 v9 (T.length + 1) ((T.map fun t => ptr t.b) ++ [ptr t.b]))
    (hB : B ≤ t.b) (hb : Bx w t.b 123 t.c) (hc : w.ownsRow B 121 2 t.cv t.cs.length (t.cs.flatMap Co.e)) (hn : t.b ∉ T.map Tb.b) :
    Bk B (w1.setCell ⟨k, 1, none⟩ v9) k last (T ++ [t]) I v9 vI ∧ FrT bkT B w (w1.setCell ⟨k, 1, none⟩ v9) := by
  have f1 : Fr (fun j => vT.ownBlock = some j) w w1 := Fr.of_own hg fun k e => e
  have b1 := f1.bx h.box fun e => h.box.ty.ne (own_ty h.oT e) (by decide) rfl
  have f2 : Fr (fun j => j = k) w1 (w1.setCell ⟨k, 1, none⟩ v9) := (Fr.refl (fun j => j = k) w1).set (b := k) (.inl rfl) 1 v9
  have g1 : FrT bkT B w w1 := FrT.of_fr f1 fun j hj => ⟨(h.oT.lt _ hj).1, _, by unfold bkT; simp, own_ty h.oT hj⟩
  have g2 : FrT bkT B w1 (w1.setCell ⟨k, 1, none⟩ v9) := FrT.of_fr f2 fun j hj => by subst hj; exact ⟨h.kB, _, by unfold bkT; simp, b1.ty⟩
  have F : Fr (fun j => vT.ownBlock = some j ∨ j = k) w (w1.setCell ⟨k, 1, none⟩ v9) := (f1.mono fun j hj => .inl hj).trans f2 fun j hj => .inl (.inr hj)
  have nx : ∀ {j : Nat} {e : TypeId}, Ty w j e → e ≠ 114 → e ≠ 103 → ¬ (vT.ownBlock = some j ∨ j = k) := fun hj h1 h2 hh => hh.elim (fun hh => hj.ne (own_ty h.oT hh) h1 rfl) fun hh => hj.ne h.box.ty h2 hh
  refine ⟨⟨h.kB, b1.set 1 v9, ?_, F.own h.oI fun j hj => nx (own_ty h.oI hj) (by decide) (by decide), ?_, fun i hi => ?_, ?_, h.ndI⟩, g1.trans g2⟩
  · rw [List.length_append, List.length_singleton, List.map_append]
    exact f2.own ho fun j hj hS => (own_ty ho hj).ne b1.ty (by decide) hS
  · intro t' ht
    rcases List.mem_append.1 ht with ht | ht
    · obtain ⟨a, b, c⟩ := h.tB t' ht
      exact ⟨a, F.bx b (nx b.ty (by decide) (by decide)), F.own c fun j hj => nx (own_ty c hj) (by decide) (by decide)⟩
    · rw [List.mem_singleton] at ht
      subst ht
      exact ⟨hB, F.bx hb (nx hb.ty (by decide) (by decide)), F.own hc fun j hj => nx (own_ty hc hj) (by decide) (by decide)⟩
  · obtain ⟨a, b, t', ht, h1, h2⟩ := h.iB i hi
    exact ⟨a, F.bx b (nx b.ty (by decide) (by decide)), t', List.mem_append_left _ ht, h1, h2⟩
  · rw [List.map_append, List.nodup_append]
    refine ⟨h.ndT, by simp, ?_⟩
    intro a ha b hb he
    rw [List.map_cons, List.map_nil, List.mem_singleton] at hb
    subst hb he
    exact hn ha
end
theorem proper_len {L : List Co} (h : properB L = true) : 1 ≤ L.length ∧ L.length ≤ 8 := by
  refine Classical.byContradiction fun hn => ?_
  rw [properB_false fun hp => hn ⟨hp.1, hp.2.1⟩] at h
  cases h
theorem nil_slice {w : World} {B sz N c : Nat} {A : Option Addr} {e : TypeId} {xs : List Value} (h : w.ownsRow B e sz (.slice A N c) N xs) (hA : A = none) : N = 0 ∧ c = 0 := by
  subst hA
  rcases h.2 with ⟨e, h⟩ | ⟨g, c, r, e, _⟩
  · injection e with e1 e2 e3
    exact ⟨h, e3⟩
  · injection e with e1
    cases e1
/-- What CreateTable answers. -/
noncomputable def crE (S : List Nat) (own xmax : Nat) (R : List Nat) (n : ByteArray) (L : List Co) (T : List Tb) (I : List (Nat × Ix)) : Int :=
  if nameB n && properB L then (if vacV S own xmax R n (T.map Tb.p) I = 0 then (if T.length < 16 then 0 else 12) else vacV S own xmax R n (T.map Tb.p) I) else 3
theorem info_tbp : (Try.prog.info? 114).map (fun i => (i.zero, i.size, i.bytes)) = some (some (.pointer none), 1, 8) := by kernel_rfl
set_option maxRecDepth 100000 in
set_option maxHeartbeats 2000000 in
theorem crtab_any (w : World) (B k g own xmin xmax bb bc last N c : Nat) (A : Option Addr) (T : List Tb) (I : List (Nat × Ix)) (S R : List Nat) (F : Nat → Prop) (v vT vI : Value) (n : ByteArray) (L : List Co) (hl : LG w g 1 S F) (hR : w.ownsRow bb 28 1 v R.length (ucells .u64 R)) (hn : R.length ≤ 9223372036854775807)
    (hB : Bk B w k last T I vT vI) (hlast : last < 1000000000) (hBw : B ≤ w.heap.size) (hns : n.size ≤ 9223372036854775807) (hN : N = L.length) (hL : w.ownsRow bc 121 2 (.slice A N c) N (L.flatMap Co.e)) (hz : ∀ x ∈ L, x.nm.size ≤ 9223372036854775807) :
    Calls Try.prog 20 #[.pointer (some ⟨k, 0, none⟩), .pointer (some ⟨g, 0, none⟩), .agg #[.int .u64 (own : Int), .int .u64 (xmin : Int), .int .u64 (xmax : Int), v], .string n, .slice A N c] w fun e w' => (crE S own xmax R n L T I ≠ 0 ∧ e = .returned (.tuple #[.int .u64 0, .int .i64 (crE S own xmax R n L T I)]) ∧ Below w.heap.size w w') ∨
      (crE S own xmax R n L T I = 0 ∧ e = .returned (.tuple #[.int .u64 ((last + 1 : Nat) : Int), .int .i64 0]) ∧ (∃ b cv vT', w.heap.size ≤ b ∧ Bk B w' k (last + 1) (T ++ [⟨b, ⟨last + 1, n, own, 0⟩, L, cv⟩]) I vT' vI) ∧ FrT bkT B w w') := by
  obtain ⟨A0, c0, hv, _, _, _⟩ := own_form hR
  subst hv
  obtain ⟨A1, c1, hv1, hNc, hcm, hrd⟩ := own_form hL
  injection hv1 with e1 _ e2
  subst e1 e2
  have hcm : c ≤ 9223372036854775807 := by unfold maxLen at hcm; omega
  obtain ⟨AT, ct, AI, ci, rfl, rfl, hT64, hI64, hM⟩ := hB.m
  have x0 : Below w.heap.size w (w.alloc (.cells #[.int .u64 (own : Int), .int .u64 (xmin : Int), .int .u64 (xmax : Int), .slice A0 R.length c0] 50)) := (Below.refl _ _).al _
  have b0 := Bx.new w 50 #[.int .u64 (own : Int), .int .u64 (xmin : Int), .int .u64 (xmax : Int), .slice A0 R.length c0] [.int .u64 (own : Int), .int .u64 (xmin : Int), .int .u64 (xmax : Int), .slice A0 R.length c0] rfl
  have HNM := Lib.hid (fun W => bname_any W n hns)
  have HPR := Lib.hid (fun W (hb : Below w.heap.size w W) => proper_any W N c A L hN hNc hcm (hrd.below hb) hz)
  have HVA := Lib.hid (fun W (hb : Below w.heap.size w W) => vacant_any W k g own xmin xmax bb last T.length ct I.length ci AT AI (T.map Tb.p) I S R F _ n (hl.below hb) (own_below hR hb) hn (hM.below hb) hT64 hI64)
  have HB := Lib.hid hB
  have HL := Lib.hid hL
  have HN := Lib.hid hN
  have HZ := Lib.hid (show n.size ≤ 9223372036854775807 from hns)
  obtain ⟨i1, hi1, hy0, hy1, hy2⟩ := info_parts4 info_tbp
  obtain ⟨cr, hcr⟩ : ∃ cr, crE S own xmax R n L T I = cr := ⟨_, rfl⟩
  rw [hcr]
  unfold crE at hcr
  obtain ⟨vv, hvv⟩ : ∃ vv, vacV S own xmax R n (T.map Tb.p) I = vv := ⟨_, rfl⟩
  simp only [hvv] at hcr HVA
  have HCR := Lib.hid hcr.symm
  clear hcr hvv
  clear hl hR hM hL hrd hns hN hz hB
  go_enter Try.func20, Try.ntmps20
  go_wp2_with fail
  refine (HNM.out _).mono ?_
  rintro e w1 ⟨rfl, hb1⟩
  have x1 := x0.next hb1
  have b1 := b0.below hb1
  cases hnm : nameB n with
  | false =>
    have HCQ := HCR.out
    rw [hnm] at HCQ
    simp only [Bool.false_and, Bool.false_eq_true, if_false] at HCQ
    clear hnm b0 b1 HCR
    go_wp2_with fail
    refine bodyPost_ret (v := .tuple #[.int .u64 0, .int .i64 3]) (by simp [results, Try.results20, go_sem]) rfl ?_
    exact .inl ⟨by rw [HCQ]; decide, by rw [HCQ], x1⟩
  | true =>
    rw [hnm] at HCR
    clear hnm b0
    go_wp2_with fail
    refine (HPR.out _ x1).mono ?_
    rintro e w2 ⟨rfl, hb2⟩
    have x2 := x1.next hb2
    have b2 := b1.below hb2
    cases hpr : properB L with
    | false =>
      have HCQ := HCR.out
      rw [hpr] at HCQ
      simp only [Bool.and_false, Bool.false_eq_true, if_false] at HCQ
      clear hpr b1 b2 HCR
      go_wp2_with fail
      refine bodyPost_ret (v := .tuple #[.int .u64 0, .int .i64 3]) (by simp [results, Try.results20, go_sem]) rfl ?_
      exact .inl ⟨by rw [HCQ]; decide, by rw [HCQ], x2⟩
    | true =>
      rw [hpr] at HCR
      have HCQ := HCR.out
      simp only [Bool.and_self, if_true] at HCQ
      replace HCQ := Lib.hid HCQ
      have hN8 : N ≤ 8 := by rw [HN.out]; exact (proper_len hpr).2
      clear hpr b1 HCR
      have k0 := b2.cell 0
      have k1 := b2.cell 1
      have k2 := b2.cell 2
      have k3 := b2.cell 3
      go_wp2_with fail
      refine (HVA.out _ x2).mono ?_
      rintro e w3 ⟨rfl, hb3⟩
      have x3 := x2.next hb3
      have b3 := b2.below hb3
      clear k0 k1 k2 k3
      by_cases hvv : vv = 0
      · have HC2 := HCQ.out
        rw [if_pos hvv] at HC2
        subst hvv
        have B3 := HB.out.below x3
        have k1 := B3.box.cell 1
        by_cases h16 : T.length < 16
        · rw [if_pos h16] at HC2
          have HC3 := Lib.hid HC2
          clear HC2
          have g16 : ¬ ((16 : Int) ≤ (T.length : Int)) := by omega
          have kk := b3.cell 0
          obtain ⟨ln, hln⟩ : ∃ ln, last + 1 = ln := ⟨_, rfl⟩
          have hen := enter_any w3 k last own n _ _ B3.box hlast
          rw [hln] at hen
          have HEN := Lib.hid hen
          have HLN := Lib.hid hln
          clear hen hln
          have HB3 := Lib.hid B3
          clear B3
          go_wp2_with fail
          refine (HEN.out).mono ?_
          rintro e w4 ⟨rfl, hbx4, hf4⟩
          have B4 := HB3.out.count hf4 (by rw [HLN.out]; exact hbx4)
          rw [HLN.out] at B4
          have f4 := HB3.out.frk hf4
          have L4 := f4.own (own_below HL.out x3) (by unfold bkT; decide)
          obtain ⟨A1, c1, hv1, hNc1, hcm1, hrd⟩ := own_form L4
          injection hv1 with e1 _ e2
          subst e1 e2
          have HCL := Lib.hid (cclone_any w4 A N c L HN.out hrd (nil_slice L4) (by omega))
          have X4 : FrT bkT B w w4 := (FrT.of_below x3).trans f4
          clear hrd L4 kk k1 hbx4 hf4 b3 b2
          go_wp2_with fail
          refine (HCL.out).mono ?_
          rintro e w5 ⟨cv, rfl, ho5, hb5⟩
          have B5 := B4.below hb5
          have X5 := X4.next hb5
          obtain ⟨A2, c2, hv2, _, _, _⟩ := own_form ho5
          subst hv2
          have hsz : w.heap.size ≤ w5.heap.size := X5.size
          have B6 := B5.below ((Below.refl _ _).al (.cells #[.int .u64 (ln : Int), .string n, .int .u64 (own : Int), .int .u64 0, .slice A2 N c2] 123))
          have hb6 : Below w5.heap.size w5 (w5.alloc (.cells #[.int .u64 (ln : Int), .string n, .int .u64 (own : Int), .int .u64 0, .slice A2 N c2] 123)) := (Below.refl _ _).al _
          have bx6 := Bx.new w5 123 #[.int .u64 (ln : Int), .string n, .int .u64 (own : Int), .int .u64 0, .slice A2 N c2] [.int .u64 (ln : Int), .string n, .int .u64 (own : Int), .int .u64 0, .slice A2 N c2] rfl
          have X6 := X5.next hb6
          have o6 := own_below ho5 hb6
          have m1 := B6.box.cell 1
          have hnew : w5.heap.size ∉ T.map Tb.b := fun hm => by
            obtain ⟨t, ht, he⟩ := List.mem_map.1 hm
            have := (B5.tB t ht).2.1.lt
            omega
          have HB6 := Lib.hid B6
          have HX6 := Lib.hid X6
          have HO6 := Lib.hid (show (w5.alloc (.cells #[.int .u64 (ln : Int), .string n, .int .u64 (own : Int), .int .u64 0, .slice A2 N c2] 123)).ownsRow B 121 2 (.slice A2 N c2) N (L.flatMap Co.e) from own_le o6 (Nat.le_trans hBw X4.size))
          have HBX := Lib.hid bx6
          clear B4 B5 B6 hb6 bx6 X6 o6 ho5 hb5 X5 X4 f4
          go_upto_region 11 with fail
          generalize hw6 : w5.alloc (.cells #[.int .u64 (ln : Int), .string n, .int .u64 (own : Int), .int .u64 0, .slice A2 N c2] 123) = w6 at *
          clear hw6
          have HG6 := HB6.out.oT
          have z6 : Below w6.heap.size w6 (w6.alloc (.cells #[.pointer (some ⟨w5.heap.size, 0, none⟩)] 114)) := (Below.refl _ _).al _
          have B7 := HB6.out.below z6
          have f7 := B7.box.frozen 1
          have m7 := B7.box.cell 1
          have h5 : w5.heap.size ≠ k := fun e => (HBX.out.ty.ne HB6.out.box.ty (by decide)) e
          clear HG6
          go_wp2_with (at_builtin; refine wpList_append_src _ rfl (.tmp 51) (.tmp 53) 100 100 rfl B 114 _ _ 1 8 Try.underlying100 hi1 hy0 hy1 hy2 rfl _ _ _ rfl B7.oT _ 1 [ptr w5.heap.size] rfl (src_rd Try.underlying100 _ (rd_lit (by first | rfl | simp) rfl rfl) (by decide) (by intro u hu; rw [List.mem_singleton] at hu; subst hu; rfl)) (by simp only [maxLen]; omega) (by omega) (Nat.le_of_lt (Nat.lt_of_le_of_lt B7.kB B7.box.lt)) ?_; intro v9 w9 ho9 hg9 ha9; obtain ⟨A9, c9, hv9, _, _, _⟩ := own_form ho9; subst hv9; have HP := B7.put hg9 ⟨w5.heap.size, ⟨ln, n, own, 0⟩, L, .slice A2 N c2⟩ ho9 (Nat.le_trans hBw hsz) (HBX.out.below z6) (by have := own_below HO6.out z6; rw [HN.out] at this ⊢; exact this) hnew; have bk9 := (Fr.of_own (S := fun k => Value.ownBlock (.slice AT T.length ct) = some k) hg9 fun k e => e).bx B7.box fun e => B7.box.ty.ne (own_ty B7.oT e) (by decide) rfl; have n9 := bk9.cell 1; have y9 := bk9.frozen 1; have t9 : (w9.setCell ⟨k, 1, none⟩ (.slice A9 (T.length + 1) c9)).cell? ⟨w5.heap.size, 0, none⟩ = some (.int .u64 (ln : Int)) := (HP.1.tB _ (List.mem_append_right _ (List.mem_singleton.2 rfl))).2.1.cell 0; have HP := Lib.hid HP; clear ho9 hg9 ha9 bk9)
          refine bodyPost_ret (v := .tuple #[.int .u64 (ln : Int), .int .i64 0]) (by simp [results, Try.results20, go_sem]) rfl ?_
          exact .inr ⟨HC3.out, by rw [HLN.out], ⟨w5.heap.size, .slice A2 N c2, .slice A9 (T.length + 1) c9, hsz, by rw [HLN.out]; exact HP.out.1⟩, (HX6.out.next z6).trans HP.out.2⟩
        · rw [if_neg h16] at HC2
          have g16 : ((16 : Int) ≤ (T.length : Int)) := by omega
          clear B3 b3 b2
          go_wp2_with fail
          refine bodyPost_ret (v := .tuple #[.int .u64 0, .int .i64 12]) (by simp [results, Try.results20, go_sem]) rfl ?_
          exact .inl ⟨by rw [HC2]; decide, by rw [HC2], x3⟩
      · have HC2 := HCQ.out
        rw [if_neg hvv] at HC2
        have HC3 := Lib.hid HC2
        have gv : (vv == 0) = false := beq_eq_false_iff_ne.2 hvv
        have gv2 : (vv != 0) = true := by unfold bne; rw [gv]; rfl
        have HVV := Lib.hid hvv
        clear hvv HC2 b3 b2
        go_wp2_with fail
        refine bodyPost_ret (v := .tuple #[.int .u64 0, .int .i64 vv]) (by simp [results, Try.results20, go_sem]) rfl ?_
        exact .inl ⟨by rw [HC3.out]; exact HVV.out, by rw [HC3.out], x3⟩
end Go.Proofs.Ytbmkhopmhmmibaa
