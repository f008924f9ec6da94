/-
  HeapSteady: the walk: the law answers true; of what was there nothing has turned.
-/
import Derived.Test.YtpnkmkenmpbekaaHeapJ
import Derived.Test.YtpnkmkenmpbekaaDoorL
import Derived.Deep.DeepCutAuto
namespace Go.Proofs.Ytpnkmkenmpbekaa.heapSteady
open Go.RowKit
set_option linter.unusedVariables false

theorem cut_row {w : World} {B b k : Nat} (h : w.ownsRow B 5 1 (.slice (some ⟨b, 0, none⟩) 200 200) 200 (bcells (zer 200))) (hk : k ≤ 200) : w.ownsRow B 5 1 (.slice (some ⟨b, 0, none⟩) k 200) k (bcells (zer k)) := by
  refine ⟨by rw [bcells_length, zer_length, Nat.mul_one], ?_⟩
  rcases h.2 with ⟨h1, _⟩ | ⟨g, cap, cur, hv, hb, hg, hn, hm, hs, ht⟩
  · cases h1
  · injection hv with h1 h2 h3
    injection h1 with h1
    injection h1 with h1
    subst h1 h3
    refine .inr ⟨b, 200, cur, rfl, hb, hg, hk, hm, hs, ?_⟩
    have hz : bcells (zer k) = (bcells (zer 200)).take k := by unfold bcells zer; rw [← List.map_take, List.take_replicate, Nat.min_eq_left hk]
    rw [hz, ← ht, List.take_take, Nat.mul_one, Nat.mul_one, Nat.min_eq_left hk]
/-- What stands between the rounds. -/
structure St (w wr : World) (h p b bt k : Nat) (v : Value) (T : List (Nat × Nat)) (F : Nat → Prop) (Ps : List Pg) (n : Nat) : Prop where
  hs : Hs w wr h p F Ps n
  sum : Ps.length + n = 256
  tid : Tids wr w.heap.size v T
  lay : Lay1 T Ps (vZ 1 k)
  box : Bx wr bt 44 [.int .u64 1, .int .u64 1, .int .u64 0, .int .i64 (-1), .int .i64 (-1), .slice (some ⟨b, 0, none⟩) k 200]
  row : wr.ownsRow w.heap.size 5 1 (.slice (some ⟨b, 0, none⟩) k 200) k (bcells (zer k))
section
variable {w wr w' : World} {h p b bt k n : Nat} {v v' : Value} {T : List (Nat × Nat)} {F : Nat → Prop} {Ps : List Pg}
theorem St.below (s : St w wr h p b bt k v T F Ps n) (hb : Below wr.heap.size wr w') : St w w' h p b bt k v T F Ps n :=
  ⟨s.hs.step hb, s.sum, s.tid.below hb, s.lay, Bx.below s.box hb, own_below s.row hb⟩
theorem St.alloc (s : St w wr h p b bt k v T F Ps n) (o : Obj) : St w (wr.alloc o) h p b bt k v T F Ps n := s.below ((Below.refl _ _).alloc (Nat.le_refl _) o)
/-- The row of places written. -/
theorem St.grown (s : St w wr h p b bt k v T F Ps n) {T' : List (Nat × Nat)} (hg : wr.grownBy w' v.ownBlock) (ht : Tids w' w.heap.size v' T') (hl : Lay1 T' Ps (vZ 1 k)) : St w w' h p b bt k v' T' F Ps n := by
  have hf : Fr (fun k => v.ownBlock = some k) wr w' := Fr.of_own hg fun k e => e
  exact ⟨s.hs.other s.tid hg (by decide) (by decide) (by decide) (by decide) (by decide) (by decide), s.sum, ht, hl, hf.bx s.box (fun e => (own_ty s.tid e).ne s.box.ty (by decide) rfl), hf.own s.row (fun j hj e => (own_ty s.tid e).ne (own_ty s.row hj) (by decide) rfl)⟩
end
set_option maxRecDepth 100000 in
set_option maxHeartbeats 4000000 in
theorem walk (s m : Int) (A : Option Addr) (c : Nat) (l : List UInt8) (w : World) (hs : 0 ≤ s ∧ s < 256) (hm : 0 ≤ m ∧ m < 256) (ha : Brd w A l) :
    Calls Try.prog 9 #[.int .u8 s, .int .u8 m, .slice A l.length c] w fun e w' => e = .returned (.bool true) ∧ Below w.heap.size w w' := by
  obtain ⟨i0, hi0, hz0, hz1, hz2⟩ := info_parts4 info_tid
  obtain ⟨k, hk⟩ : ∃ k : Nat, s % 201 = (k : Int) := ⟨(s % 201).toNat, by omega⟩
  have hk2 : k ≤ 200 := by omega
  obtain ⟨x, hx⟩ : ∃ x : Nat, m % 30 = (x : Int) := ⟨(m % 30).toNat, by omega⟩
  have hx2 : x < 30 := by omega
  obtain ⟨hs1, hs2⟩ := hs
  obtain ⟨hm1, hm2⟩ := hm
  have hx1 : IntKind.i64.wrap (1 + (x : Int)) = 1 + (x : Int) := IntWalk.i64_in _ (by omega)
  go_enter Try.func9, Try.ntmps9
  go_wp2_with fail
  refine (awake7_any w).mono ?_
  rintro e w1 ⟨rfl, hb1⟩
  go_wp2_with fail
  refine (newpool_any w1 256 (Nat.le_refl _)).mono ?_
  rintro e w2 ⟨rfl, hp2, hb2⟩
  go_wp2_with fail
  refine (hs_new (w0 := w) hp2 (hb1.next hb2) hb1.size).mono ?_
  rintro e w3 ⟨h, F0, rfl, J0, hb3⟩
  generalize w1.heap.size = p at *
  have HAR := Lib.hid (fun W (hW : Below w.heap.size w W) => Rd.below ha hW)
  clear hp2 hb2 hb1 hb3 ha
  go_wp2_with fail
  refine (wide_any w3).mono ?_
  rintro e w4 ⟨b, rfl, ob, hb4⟩
  have J1 := (J0.step hb4).step ((Below.refl _ _).alloc (Nat.le_refl _) (.cells #[.int .u64 1, .int .u64 1, .int .u64 0, .int .i64 (-1), .int .i64 (-1), .slice (some ⟨b, 0, none⟩) k 200] 44))
  have bx := Bx.new w4 44 _ [.int .u64 1, .int .u64 1, .int .u64 0, .int .i64 (-1), .int .i64 (-1), .slice (some ⟨b, 0, none⟩) k 200] rfl
  have ob1 := own_le (cut_row (World.ownsRow.alloc ob (.cells #[.int .u64 1, .int .u64 1, .int .u64 0, .int .i64 (-1), .int .i64 (-1), .slice (some ⟨b, 0, none⟩) k 200] 44)) hk2) J0.below.size
  have S0 : St w _ h p b w4.heap.size k (.slice none 0 0) [] F0 [] 256 := ⟨J1, rfl, World.ownsRow_nil _ _ _ _, Lay1.nil _, bx, ob1⟩
  clear J0 J1 bx ob1 hb4
  go_upto_region 9 with fail
  obtain ⟨nn, hnn⟩ : ∃ nn : Nat, 1 + (x : Int) = (nn : Int) := ⟨1 + x, by omega⟩
  have hnn1 : 1 ≤ nn := by omega
  have hnn2 : nn ≤ 30 := by omega
  simp only [hnn, hk]
  generalize w4.alloc (.cells #[.int .u64 1, .int .u64 1, .int .u64 0, .int .i64 (-1), .int .i64 (-1), .slice (some ⟨b, 0, none⟩) k 200] 44) = W at *
  generalize w4.heap.size = bt at *
  have hok : (vZ 1 k).ok := vZ_ok (by decide) hk2
  clear hk hx1 hx hx2 hnn ob hm1 hm2 hs1 hs2
  go_wp2
  go_loopw [12, 42] (fun v iv wr => ∃ (T : List (Nat × Nat)) (F : Nat → Prop) (Ps : List Pg) (n : Nat), iv = .int .i64 (T.length : Int) ∧ T.length ≤ nn ∧ Ps.length ≤ T.length ∧ St w wr h p b bt k v T F Ps n) (fun _ iv _ => nn - (intOf iv).toNat)
  case atStart => exact ⟨[], F0, [], 256, rfl, Nat.zero_le _, Nat.le_refl _, S0⟩
  case round =>
    obtain ⟨T, F, Ps, n, rfl, hT, hPT, S⟩ := hrel
    clear S0
    by_cases hlt : T.length < nn
    · have hsum := S.sum
      have hE := hin_E0 (Ps := Ps) (n := n) hok (by omega)
      have hput := (hin_put hE).2.2.2
      have hPl : (hinS Ps n (vZ 1 k)).length ≤ T.length + 1 := by
        unfold hinS hinP
        rw [hE, if_pos rfl]
        cases hfind Ps (vZ 1 k).d.length with
        | some i => show (Ps.set _ _).length ≤ _; rw [List.length_set]; omega
        | none => show (Ps ++ _).length ≤ _; simp; omega
      have HLY := Lib.hid (S.lay.add hE)
      have HPL := Lib.hid (And.intro hPl hput)
      have HI := Lib.hid (S.hs.insz (by omega) 1 k _ _ S.row)
      have hbx := S.box
      have k0 := hbx.cell 0
      have k1 := hbx.cell 1
      have k2 := hbx.cell 2
      have k3 := hbx.cell 3
      have k4 := hbx.cell 4
      have k5 := hbx.cell 5
      clear hbx hPl hput
      go_wp2_with fail
      refine HI.out.mono ?_
      rintro e U ⟨he, F', I, f⟩
      rw [hE] at he
      subst he
      have tU : Tids U w.heap.size _ T := Hs.own S.hs f S.tid (by decide) (by decide) (by decide) (by decide) (by decide) (by decide)
      have bU := Hs.bx S.hs f S.box (by decide) (by decide) (by decide) (by decide) (by decide) (by decide)
      have rU := Hs.own S.hs f S.row (by decide) (by decide) (by decide) (by decide) (by decide) (by decide)
      clear S HI k0 k1 k2 k3 k4 k5 f hE
      generalize hinS Ps n (vZ 1 k) = Ps2 at *
      generalize hinN Ps n (vZ 1 k) = n2 at *
      generalize hinX Ps n (vZ 1 k) = X at *
      have I3 := (I.step ((Below.refl _ _).alloc (Nat.le_refl _) (.cells #[.int .i64 (X.1 : Int), .int .i64 (X.2 : Int)] 41))).step ((Below.refl _ _).alloc (Nat.le_refl _) (.cells #[.int .i64 (X.1 : Int), .int .i64 (X.2 : Int)] 41))
      have t3 := (tU.alloc (.cells #[.int .i64 (X.1 : Int), .int .i64 (X.2 : Int)] 41)).alloc (.cells #[.int .i64 (X.1 : Int), .int .i64 (X.2 : Int)] 41)
      have b3 := Bx.alloc (Bx.alloc bU (.cells #[.int .i64 (X.1 : Int), .int .i64 (X.2 : Int)] 41)) (.cells #[.int .i64 (X.1 : Int), .int .i64 (X.2 : Int)] 41)
      have r3 := World.ownsRow.alloc (World.ownsRow.alloc rU (.cells #[.int .i64 (X.1 : Int), .int .i64 (X.2 : Int)] 41)) (.cells #[.int .i64 (X.1 : Int), .int .i64 (X.2 : Int)] 41)
      have hs3 := I3.below.size
      obtain ⟨q, cc, rfl, hq1, hq2, hq3⟩ := own_form tU
      clear I tU bU rU
      go_wp2_with (at_builtin; refine wpList_append_src _ rfl (.tmp 52) (.tmp 54) 105 105 rfl w.heap.size 41 _ _ 2 16 Try.underlying105 hi0 hz0 hz1 hz2 rfl _ _ _ rfl t3 _ 1 (tidc [X]) rfl (src_rd Try.underlying105 _ (rd_lit (by first | rfl | simp) rfl rfl) (by decide) (tidc_one _)) (by simp only [maxLen]; omega) (by omega) hs3 ?_; intro v4 w9 ho4 hg4 ha4; obtain ⟨g4, c4, hv4, _, hn4, hm4⟩ := own_shape ho4 (by omega); subst hv4)
      have ho5 : Tids w9 w.heap.size (.slice (some ⟨g4, 0, none⟩) (T.length + 1) c4) (T ++ [X]) := by
        unfold Tids
        rw [tidc_append, List.length_append]
        exact ho4
      have I4 := Hs.other I3 t3 hg4 (by decide) (by decide) (by decide) (by decide) (by decide) (by decide)
      have hf4 : Fr (fun k => (Value.slice q T.length cc).ownBlock = some k) _ w9 := Fr.of_own hg4 fun k e => e
      have b4 := hf4.bx b3 (fun e => (own_ty t3 e).ne b3.ty (by decide) rfl)
      have r4 := hf4.own r3 (fun j hj e => (own_ty t3 e).ne (own_ty r3 hj) (by decide) rfl)
      clear ho4 hg4 ha4 t3 I3 b3 r3 hf4
      go_roundw
      case rel =>
        refine ⟨T ++ [X], F', Ps2, n2, ?_, by rw [List.length_append]; exact hlt, by rw [List.length_append]; exact HPL.out.1, ⟨I4, by rw [HPL.out.2]; exact hsum, ho5, HLY.out, b4, r4⟩⟩
        rw [List.length_append]; go_num
      case measure => simp [intOf]; omega
    · obtain rfl : T.length = nn := by omega
      have HPG := Lib.hid S.hs.pages
      obtain ⟨g4, c4, rfl, _, hc4, hc5⟩ := own_shape S.tid (by omega)
      have hP30 : Ps.length ≤ 30 := by omega
      clear hlt
      go_wp2_with (go_at_call 59; (with_reducible refine (HPG.out).mono ?_); rintro e w5 ⟨rfl, hw1⟩; have hw := hw1.symm; subst hw)
      go_loopw [61] (fun iv wr => ∃ (q : Nat) (T2 : List (Nat × Nat)) (F2 : Nat → Prop) (Ps2 : List Pg) (n2 : Nat), iv = .int .i64 (q : Int) ∧ q ≤ l.length ∧ q ≤ 40 ∧ Hid (T2.length = T.length ∧ Ps2.length = Ps.length) ∧ St w wr h p b bt k (.slice (some ⟨g4, 0, none⟩) T.length c4) T2 F2 Ps2 n2) (fun iv _ => l.length - (intOf iv).toNat)
      case atStart => exact ⟨0, T, F, Ps, n, rfl, Nat.zero_le _, by omega, Lib.hid ⟨rfl, rfl⟩, S⟩
      case round =>
        obtain ⟨q, T2, F2, Ps2, n2, rfl, hq, hq40, HT, S2⟩ := hrel
        clear S
        have S := S2
        clear S2
        by_cases hlt : q < l.length
        · have har : Brd wr A l := HAR.out wr S.hs.below
          obtain ⟨ad, rfl, hcell⟩ := har.at_ (k := q) hlt
          have hr8 := (l[q]'hlt).toNat_lt
          generalize (l[q]'hlt).toNat = r at *
          clear har
          by_cases h40 : q < 40
          · obtain ⟨kk, hkk⟩ : ∃ kk : Nat, kk = r % T.length := ⟨_, rfl⟩
            have hkl : kk < T.length := by rw [hkk]; exact Nat.mod_lt _ (by omega)
            have hkm : (r : Int) % (T.length : Int) = (kk : Int) := by rw [hkk]; omega
            clear hkk
            have hkl2 : kk < T2.length := by rw [HT.out.1]; exact hkl
            have ix := idx_tid g4 T.length c4 kk hkl
            have tid2 : Tids wr w.heap.size (.slice (some ⟨g4, 0, none⟩) T2.length c4) T2 := by rw [HT.out.1]; exact S.tid
            obtain ⟨k0, k1⟩ := tid2.at_ hkl2
            have hq2 := List.getElem?_eq_getElem hkl2
            have hget2 := S.lay.at_ kk T2[kk] hq2
            obtain ⟨P, hP, hs, hput, husd⟩ := hfre_put hget2
            have hlim := Heap.lim S.hs.heap hP
            have hgN : getN P T2[kk].2 = some (vZ 1 k) := by rw [← hget_at (s := T2[kk].2) hP]; exact hget2
            have hroom := free_room hlim hgN
            rw [← freN_get (by rw [hgN]; rfl)] at hroom
            have hi1 := (List.getElem?_eq_some_iff.1 hP).1
            have hPQ : (Ps2.set T2[kk].1 (freN P (T2[kk].2 : Int)))[T2[kk].1]? = some (freN P (T2[kk].2 : Int)) := List.getElem?_set_self hi1
            obtain ⟨hE, hL2, hN2⟩ := hin_len (n := n2) hok hPQ hroom
            have hlay := S.lay.swap hq2 hput husd hE
            have hus := (hin_put hE).2.2.1
            have hus2 : usedL (hinS (Ps2.set T2[kk].1 (freN P (T2[kk].2 : Int))) n2 (vZ 1 k)) = T.length := by rw [hus, husd, S.lay.used]; exact HT.out.1
            have hpl2 : (hinS (Ps2.set T2[kk].1 (freN P (T2[kk].2 : Int))) n2 (vZ 1 k)).length = Ps.length := by rw [hL2, List.length_set]; exact HT.out.2
            have hsum := S.sum
            have hsl : (Ps2.set T2[kk].1 (freN P (T2[kk].2 : Int))).length = Ps2.length := List.length_set
            have HF := Lib.hid (S.hs.free_yes (by omega) T2[kk].1 (T2[kk].2 : Int) P hP hs)
            have HZ := Lib.hid (And.intro hlay (And.intro hus2 (And.intro hpl2 (And.intro hE (And.intro hN2 hsl)))))
            clear hput husd hlim hgN hroom hPQ hlay hus hus2 hpl2 hL2 hN2 hget2 hE hsl tid2
            generalize freN P (T2[kk].2 : Int) = Q at *
            generalize Ps2.set T2[kk].1 Q = Ps3 at *
            go_wp2_with fail
            refine HF.out.mono ?_
            rintro e W1 ⟨rfl, F1, J1, f1⟩
            have t1 : Tids W1 w.heap.size _ T2 := Hs.own S.hs f1 S.tid (by decide) (by decide) (by decide) (by decide) (by decide) (by decide)
            have hbx := Hs.bx S.hs f1 S.box (by decide) (by decide) (by decide) (by decide) (by decide) (by decide)
            have r1 := Hs.own S.hs f1 S.row (by decide) (by decide) (by decide) (by decide) (by decide) (by decide)
            clear k0 k1 S HF f1
            have hs3 := HZ.out.2.2.2.2.2
            have HI := Lib.hid (J1.insz (by omega) 1 k _ _ r1)
            have k0 := hbx.cell 0
            have k1 := hbx.cell 1
            have k2 := hbx.cell 2
            have k3 := hbx.cell 3
            have k4 := hbx.cell 4
            have k5 := hbx.cell 5
            go_wp2_with fail
            refine HI.out.mono ?_
            rintro e W2 ⟨he, F3, J2, f2⟩
            rw [HZ.out.2.2.2.1] at he
            subst he
            rw [HZ.out.2.2.2.2.1] at J2
            have t2 : Tids W2 w.heap.size _ T2 := Hs.own J1 f2 t1 (by decide) (by decide) (by decide) (by decide) (by decide) (by decide)
            have b2 := Hs.bx J1 f2 hbx (by decide) (by decide) (by decide) (by decide) (by decide) (by decide)
            have r2 := Hs.own J1 f2 r1 (by decide) (by decide) (by decide) (by decide) (by decide) (by decide)
            clear k0 k1 k2 k3 k4 k5 J1 HI f2 t1 hbx r1 hs3
            obtain ⟨hlay, hus2, hpl2, _, _, hsl⟩ := HZ.out
            clear HZ
            generalize hinX Ps3 n2 (vZ 1 k) = X at *
            generalize hinS Ps3 n2 (vZ 1 k) = Ps4 at *
            have J3 := J2.step ((Below.refl _ _).alloc (Nat.le_refl _) (.cells #[.int .i64 (X.1 : Int), .int .i64 (X.2 : Int)] 41))
            have t3 := t2.alloc (.cells #[.int .i64 (X.1 : Int), .int .i64 (X.2 : Int)] 41)
            have b3 := Bx.alloc b2 (.cells #[.int .i64 (X.1 : Int), .int .i64 (X.2 : Int)] 41)
            have r3 := World.ownsRow.alloc r2 (.cells #[.int .i64 (X.1 : Int), .int .i64 (X.2 : Int)] 41)
            have hpg := J3.pages
            rw [hpl2] at hpg
            have hug := J3.used (by omega)
            rw [hus2] at hug
            have HPG2 := Lib.hid hpg
            have HUS2 := Lib.hid hug
            have t3' : Tids (W2.alloc (.cells #[.int .i64 (X.1 : Int), .int .i64 (X.2 : Int)] 41)) w.heap.size (.slice (some ⟨g4, 0, none⟩) T2.length c4) T2 := by rw [HT.out.1]; exact t3
            obtain ⟨c0, c1⟩ := t3'.at_ hkl2
            have z0 := World.ownsRow.frozenAt t3' (kk * 2)
            have z1 := World.ownsRow.frozenAt t3' (kk * 2 + 1)
            have o1 := World.ownsRow.stored t3' (kk * 2) (.int .i64 (X.1 : Int))
            have o2 := World.ownsRow.stored o1.1 (kk * 2 + 1) (.int .i64 (X.2 : Int))
            have og := grown_tr o1.2 o2.2
            have t4 : Tids (((W2.alloc (.cells #[.int .i64 (X.1 : Int), .int .i64 (X.2 : Int)] 41)).setCell ⟨g4, kk * 2, none⟩ (.int .i64 (X.1 : Int))).setCell ⟨g4, kk * 2 + 1, none⟩ (.int .i64 (X.2 : Int))) w.heap.size (.slice (some ⟨g4, 0, none⟩) T.length c4) (T2.set kk X) := by
              have := o2.1
              rw [tidc_set T2 kk X hkl2, HT.out.1] at this
              unfold Tids
              rw [List.length_set, HT.out.1]
              exact this
            have J4 := Hs.other J3 t3' og (by decide) (by decide) (by decide) (by decide) (by decide) (by decide)
            have hf4 : Fr (fun k => (Value.slice (some ⟨g4, 0, none⟩) T2.length c4).ownBlock = some k) _ _ := Fr.of_own (S := fun k => (Value.slice (some ⟨g4, 0, none⟩) T2.length c4).ownBlock = some k) og fun k e => e
            have b4 := hf4.bx b3 (fun e => (own_ty t3' e).ne b3.ty (by decide) rfl)
            have r4 := hf4.own r3 (fun j hj e => (own_ty t3' e).ne (own_ty r3 hj) (by decide) rfl)
            have HREL := Lib.hid (show St w (((W2.alloc (.cells #[.int .i64 (X.1 : Int), .int .i64 (X.2 : Int)] 41)).setCell ⟨g4, kk * 2, none⟩ (.int .i64 (X.1 : Int))).setCell ⟨g4, kk * 2 + 1, none⟩ (.int .i64 (X.2 : Int))) h p b bt k (.slice (some ⟨g4, 0, none⟩) T.length c4) (T2.set kk X) F3 Ps4 n2 from ⟨J4, by rw [hpl2]; have := HT.out.2; omega, t4, hlay, b4, r4⟩)
            have HT3 : Hid ((T2.set kk X).length = T.length ∧ Ps4.length = Ps.length) := Lib.hid ⟨by rw [List.length_set]; exact HT.out.1, hpl2⟩
            clear J2 J3 J4 t2 t3 t3' t4 b2 b3 b4 r2 r3 r4 o1 o2 og hf4 hpg hug hlay hus2 hpl2 hsl hP hs
            go_wp2_with (first
              | (go_at_call 59; (with_reducible refine (HPG2.out).mono ?_); rintro e w5 ⟨rfl, hw1⟩; have hw := hw1.symm; subst hw)
              | (go_at_call 60; (with_reducible refine (HUS2.out).mono ?_); rintro e w5 ⟨rfl, hw1⟩; have hw := hw1.symm; subst hw))
            go_roundw
            case rel => exact ⟨q + 1, T2.set kk X, F3, Ps4, n2, by go_num, by omega, by omega, HT3, HREL.out⟩
            case measure => simp [intOf]; omega
          · clear hq40
            have hse := S.sum
            have hd := S.hs.drop (by omega)
            rw [HT.out.2] at hd
            have HD := Lib.hid hd
            have hn2 : n2 + Ps2.length = 256 := by omega
            clear hd S hse
            go_wp2_with fail
            refine HD.out.mono ?_
            rintro e W5 ⟨rfl, F5, J5, f5⟩
            rw [← HT.out.2, hn2] at J5
            have HL := Lib.hid J5.left
            have HU := Lib.hid (J5.used (by simp))
            have hbe := J5.below
            clear J5 f5 hn2
            go_wp2_with (first
              | (go_at_call 44; (with_reducible refine (HL.out).mono ?_); rintro e w5 ⟨rfl, hw1⟩; have hw := hw1.symm; subst hw)
              | (go_at_call 60; (with_reducible refine (HU.out).mono ?_); rintro e w5 ⟨rfl, hw1⟩; have hw := hw1.symm; subst hw))
            go_ret
            exact ⟨rfl, hbe⟩
        · obtain rfl : q = l.length := by omega
          clear hlt hq
          have hse := S.sum
          have hd := S.hs.drop (by omega)
          rw [HT.out.2] at hd
          have HD := Lib.hid hd
          have hn2 : n2 + Ps2.length = 256 := by omega
          clear hd S hse
          go_wp2_with fail
          refine HD.out.mono ?_
          rintro e W5 ⟨rfl, F5, J5, f5⟩
          rw [← HT.out.2, hn2] at J5
          have HL := Lib.hid J5.left
          have HU := Lib.hid (J5.used (by simp))
          have hbe := J5.below
          clear J5 f5 hn2
          go_wp2_with (first
            | (go_at_call 44; (with_reducible refine (HL.out).mono ?_); rintro e w5 ⟨rfl, hw1⟩; have hw := hw1.symm; subst hw)
            | (go_at_call 60; (with_reducible refine (HU.out).mono ?_); rintro e w5 ⟨rfl, hw1⟩; have hw := hw1.symm; subst hw))
          go_ret
          exact ⟨rfl, hbe⟩
end Go.Proofs.Ytpnkmkenmpbekaa.heapSteady
