/-
  book.find and book.contested over indexes.
-/
import Derived.Test.YtbmkhopmhmmibaaBookI
namespace Go.Proofs.Ytbmkhopmhmmibaa
open Go.RowKit
set_option linter.unusedVariables false

def seenI (f : Nat) (S : List Nat) (own xmax : Nat) (R : List Nat) (n : ByteArray) (x : Ix) : Bool := (x.e.nm.toList == n.toList) && visI f S own xmax R x
def findI (f : Nat) (S : List Nat) (own xmax : Nat) (R : List Nat) (n : ByteArray) (T : List (Nat × Ix)) : Option (Nat × Ix) := T.find? fun t => seenI f S own xmax R n t.2
theorem idx_ix (ad : Addr) (n c k : Nat) (h : k < n) (W : World) : (Instr.indexAt 101 (.slice (some ad) n c) (.int .i64 (k : Int))).run Try.prog W = .ok (.pointer (some (ad.add k))) W := by
  rw [run_indexAt_slice (h := by kernel_rfl), if_pos (by omega)]
  rw [show Try.prog.elem 101 = 130 by kernel_rfl, show (sizeOf 130).run Try.prog W = .ok 1 W by kernel_rfl]
  simp [Result.andThen]
theorem mi_called (b : Nat) (W : World) : (Go.method 300 130 (.pointer (some ⟨b, 0, none⟩)) "lapidary/book.called").run Try.prog W = .ok (116, .pointer (some ⟨b, 0, none⟩)) W := by kernel_rfl
theorem mi_visible (b : Nat) (W : World) : (Go.method 300 130 (.pointer (some ⟨b, 0, none⟩)) "lapidary/book.visible").run Try.prog W = .ok (60, .pointer (some ⟨b, 0, none⟩)) W := by kernel_rfl
set_option maxRecDepth 100000 in
set_option maxHeartbeats 1000000 in
theorem ifind_any (w : World) (g f own xmin xmax bb N ct bt : Nat) (AT : Option Addr) (T : List (Nat × Ix)) (S R : List Nat) (F : Nat → Prop) (v : Value) (n : ByteArray) (hl : LG w g f S F) (hR : w.ownsRow bb 28 1 v R.length (ucells .u64 R)) (hn : R.length ≤ 9223372036854775807)
    (hN : N = T.length) (hN64 : N ≤ 9223372036854775807) (hT : Rd w 1 AT N (pts T)) (hE : ∀ t ∈ T, Im w t.1 t.2) :
    Calls Try.prog 63 #[.pointer (some ⟨g, 0, none⟩), .agg #[.int .u64 (own : Int), .int .u64 (xmin : Int), .int .u64 (xmax : Int), v], .slice AT N ct, .string n] w fun e w' => e = .returned (foundV (findI f S own xmax R n T)) ∧ Below w.heap.size w w' := by
  obtain ⟨A, c, hv, _, _, _⟩ := own_form hR
  subst hv
  have HL := Lib.hid hl
  have HR := Lib.hid hR
  have HT := Lib.hid hT
  have HE := Lib.hid hE
  have HN := Lib.hid hN
  clear hl hR hT hE hN
  go_enter Try.func63, Try.ntmps63
  go_wp2
  go_loopw [15] (fun iv wr => ∃ (i : Nat), i ≤ N ∧ iv = .int .i64 (i : Int) ∧ (∀ k (h : k < T.length), k < i → seenI f S own xmax R n T[k].2 = false) ∧ Below w.heap.size w wr ∧ Bx wr w.heap.size 50 [.int .u64 (own : Int), .int .u64 (xmin : Int), .int .u64 (xmax : Int), .slice A R.length c]) (fun iv _ => N - (intOf iv).toNat)
  case atStart => exact ⟨0, Nat.zero_le _, rfl, fun k h hk => by omega, (Below.refl _ _).al _, Bx.new w 50 _ _ rfl⟩
  case round =>
    obtain ⟨i, hi, rfl, hno, hb, hbx⟩ := hrel
    have HNO := Lib.hid hno
    clear hno
    by_cases hlt : i < N
    · have hiT : i < T.length := by rw [← HN.out]; exact hlt
      have hg : (pts T)[i]? = some (ptr T[i].1) := by unfold pts; rw [List.getElem?_map, List.getElem?_eq_getElem hiT]; rfl
      obtain ⟨ad, rfl, q0⟩ := (HT.out.below hb).2 i _ hg
      replace q0 : wr.cell? (ad.add i) = some (.pointer (some ⟨T[i].1, 0, none⟩)) := q0
      have ix := idx_ix ad N ct i hlt
      have hEn := (HE.out T[i] (List.getElem_mem hiT)).below hb
      obtain ⟨tt, htt⟩ : ∃ tt, T[i] = tt := ⟨_, rfl⟩
      rw [htt] at q0 hEn
      clear hg
      obtain ⟨b, x⟩ := tt
      have hEn : Im wr b x := hEn
      have hm1 := mi_called b
      have hm2 := mi_visible b
      have HTT := Lib.hid htt
      have HCA := Lib.hid (called_any wr b x.e n hEn.en)
      have HVA : ∀ W, Below wr.heap.size wr W → Calls Try.prog 60 #[.pointer (some ⟨b, 0, none⟩), .pointer (some ⟨g, 0, none⟩), .agg #[.int .u64 (own : Int), .int .u64 (xmin : Int), .int .u64 (xmax : Int), .slice A R.length c]] W fun e w' => e = .returned (.bool (visI f S own xmax R x)) ∧ Below W.heap.size W w' := fun W hb' => ivis_any W b g f own xmin xmax bb x S R F _ (HL.out.below (hb.next hb')) (own_below HR.out (hb.next hb')) hn (hEn.below hb')
      have HSE := Lib.hid (show seenI f S own xmax R n x = ((x.e.nm.toList == n.toList) && visI f S own xmax R x) from rfl)
      replace HVA := Lib.hid HVA
      go_upto_region 4 with fail
      clear q0 ix htt
      cases hz : (x.e.nm.toList == n.toList) with
      | false =>
        rw [hz] at HCA HSE
        have HNN := Lib.hid (no_more HNO.out hiT (by rw [HTT.out]; exact HSE.out))
        clear hm2 hz
        go_wp2_with (go_at_call 116; (with_reducible refine (HCA.out).mono ?_); rintro e w1 ⟨rfl, hb1⟩; have hb2 := hb.next hb1; have bx1 := hbx.below hb1)
        go_roundw
        case rel => exact ⟨i + 1, by omega, by go_num, HNN.out, hb2, bx1⟩
        case measure => simp [intOf]; omega
      | true =>
        rw [hz] at HCA HSE
        go_wp2_with fail
        refine (HCA.out).mono ?_
        rintro e w1 ⟨rfl, hb1⟩
        have hb2 := hb.next hb1
        have bx1 := hbx.below hb1
        have k0 := bx1.cell 0
        have k1 := bx1.cell 1
        have k2 := bx1.cell 2
        have k3 := bx1.cell 3
        have HV1 := Lib.hid (HVA.out _ hb1)
        cases hv : visI f S own xmax R x with
        | false =>
          rw [hv] at HV1 HSE
          have HNN := Lib.hid (no_more HNO.out hiT (by rw [HTT.out]; exact HSE.out))
          clear hz hv hm1
          go_wp2_with (go_at_call 60; (with_reducible refine (HV1.out).mono ?_); rintro e w2 ⟨rfl, hb3⟩; have hb4 := hb2.next hb3; have bx2 := bx1.below hb3)
          go_roundw
          case rel => exact ⟨i + 1, by omega, by go_num, HNN.out, hb4, bx2⟩
          case measure => simp [intOf]; omega
        | true =>
          rw [hv] at HV1 HSE
          have HFF := Lib.hid (found_at HNO.out hiT (by rw [HTT.out]; exact HSE.out))
          clear hz hv hm1
          go_wp2_with (go_at_call 60; (with_reducible refine (HV1.out).mono ?_); rintro e w2 ⟨rfl, hb3⟩; have hb4 := hb2.next hb3; have bx2 := bx1.below hb3)
          refine bodyPost_ret (v := .tuple #[.pointer (some ⟨b, 0, none⟩), .bool true]) (by simp [results, Try.results63, go_sem]) rfl ?_
          exact ⟨by unfold findI; rw [HFF.out, HTT.out]; rfl, hb4⟩
    · obtain rfl : i = N := by omega
      have HFF := Lib.hid (found_none HNO.out HN.out)
      go_wp2_with fail
      refine bodyPost_ret (v := .tuple #[.pointer none, .bool false]) (by simp [results, Try.results63, go_sem]) rfl ?_
      exact ⟨by unfold findI; rw [HFF.out]; rfl, hb⟩
def contI (f : Nat) (S : List Nat) (own xmax : Nat) (R : List Nat) (n : ByteArray) (x : Ix) : Bool := (x.e.nm.toList == n.toList) && (aliveI f S x && (!visI f S own xmax R x && !(decide (x.e.xmax ≠ 0) && decide (x.e.xmax = own))))
def contJ (f : Nat) (S : List Nat) (own xmax : Nat) (R : List Nat) (n : ByteArray) (T : List (Nat × Ix)) : Bool := T.any fun t => contI f S own xmax R n t.2
theorem mi_alive (b : Nat) (W : World) : (Go.method 300 130 (.pointer (some ⟨b, 0, none⟩)) "lapidary/book.alive").run Try.prog W = .ok (121, .pointer (some ⟨b, 0, none⟩)) W := by kernel_rfl
theorem mi_ended (b : Nat) (W : World) : (Go.method 300 130 (.pointer (some ⟨b, 0, none⟩)) "lapidary/book.ended").run Try.prog W = .ok (118, .pointer (some ⟨b, 0, none⟩)) W := by kernel_rfl
set_option maxRecDepth 100000 in
set_option maxHeartbeats 1000000 in
theorem icont_any (w : World) (g f own xmin xmax bb N ct : Nat) (AT : Option Addr) (T : List (Nat × Ix)) (S R : List Nat) (F : Nat → Prop) (v : Value) (n : ByteArray) (hl : LG w g f S F) (hR : w.ownsRow bb 28 1 v R.length (ucells .u64 R)) (hn : R.length ≤ 9223372036854775807)
    (hN : N = T.length) (hN64 : N ≤ 9223372036854775807) (hT : Rd w 1 AT N (pts T)) (hE : ∀ t ∈ T, Im w t.1 t.2) :
    Calls Try.prog 82 #[.pointer (some ⟨g, 0, none⟩), .agg #[.int .u64 (own : Int), .int .u64 (xmin : Int), .int .u64 (xmax : Int), v], .slice AT N ct, .string n] w fun e w' => e = .returned (.bool (contJ f S own xmax R n T)) ∧ Below w.heap.size w w' := by
  obtain ⟨A, c, hv, _, _, _⟩ := own_form hR
  subst hv
  have HL := Lib.hid hl
  have HR := Lib.hid hR
  have HT := Lib.hid hT
  have HE := Lib.hid hE
  have HN := Lib.hid hN
  clear hl hR hT hE hN
  go_enter Try.func82, Try.ntmps82
  go_wp2
  go_loopw [13] (fun iv wr => ∃ (i : Nat), i ≤ N ∧ iv = .int .i64 (i : Int) ∧ (∀ k (h : k < T.length), k < i → contI f S own xmax R n T[k].2 = false) ∧ Below w.heap.size w wr ∧ Bx wr w.heap.size 50 [.int .u64 (own : Int), .int .u64 (xmin : Int), .int .u64 (xmax : Int), .slice A R.length c]) (fun iv _ => N - (intOf iv).toNat)
  case atStart => exact ⟨0, Nat.zero_le _, rfl, fun k h hk => by omega, (Below.refl _ _).al _, Bx.new w 50 _ _ rfl⟩
  case round =>
    obtain ⟨i, hi, rfl, hno, hb, hbx⟩ := hrel
    have HNO := Lib.hid hno
    clear hno
    by_cases hlt : i < N
    · have hiT : i < T.length := by rw [← HN.out]; exact hlt
      have hg : (pts T)[i]? = some (ptr T[i].1) := by unfold pts; rw [List.getElem?_map, List.getElem?_eq_getElem hiT]; rfl
      obtain ⟨ad, rfl, q0⟩ := (HT.out.below hb).2 i _ hg
      replace q0 : wr.cell? (ad.add i) = some (.pointer (some ⟨T[i].1, 0, none⟩)) := q0
      have ix := idx_ix ad N ct i hlt
      have hEn := (HE.out T[i] (List.getElem_mem hiT)).below hb
      obtain ⟨tt, htt⟩ : ∃ tt, T[i] = tt := ⟨_, rfl⟩
      rw [htt] at q0 hEn
      clear hg
      obtain ⟨b, x⟩ := tt
      have hEn : Im wr b x := hEn
      have hm1 := mi_called b
      have hm2 := mi_visible b
      have hm3 := mi_alive b
      have hm4 := mi_ended b
      have HTT := Lib.hid htt
      have HCA := Lib.hid (called_any wr b x.e n hEn.en)
      have HAA := Lib.hid (fun W (hb' : Below wr.heap.size wr W) => ialive_any W b g f x S F (HL.out.below (hb.next hb')) (hEn.below hb'))
      have HVA := Lib.hid (fun W (hb' : Below wr.heap.size wr W) => ivis_any W b g f own xmin xmax bb x S R F _ (HL.out.below (hb.next hb')) (own_below HR.out (hb.next hb')) hn (hEn.below hb'))
      have HEA := Lib.hid (fun W (hb' : Below wr.heap.size wr W) => ended_any W b own x.e (hEn.below hb').en)
      have HSE := Lib.hid (show contI f S own xmax R n x = ((x.e.nm.toList == n.toList) && (aliveI f S x && (!visI f S own xmax R x && !(decide (x.e.xmax ≠ 0) && decide (x.e.xmax = own))))) from rfl)
      go_upto_region 4 with fail
      clear q0 ix htt
      have HC0 := Lib.hid (HCA.out)
      cases hz0 : (x.e.nm.toList == n.toList) with
      | false =>
        rw [hz0] at HC0 HSE
        have HNN := Lib.hid (no_more HNO.out hiT (by rw [HTT.out]; exact HSE.out))
        clear hz0
        go_wp2_with ((go_at_call 116; (with_reducible refine (HC0.out).mono ?_); rintro e w1 ⟨rfl, hq1⟩; have hb1 := hb.next hq1; have bx1 := hbx.below hq1))
        go_roundw
        case rel => exact ⟨i + 1, by omega, by go_num, HNN.out, hb1, bx1⟩
        case measure => simp [intOf]; omega
      | true =>
        rw [hz0] at HC0 HSE
        go_wp2_with fail
        refine (HC0.out).mono ?_
        rintro e w1 ⟨rfl, hq1⟩
        have hb1 := hb.next hq1
        have bx1 := hbx.below hq1
        have hr1 := hq1
        have k00 := bx1.cell 0
        have k01 := bx1.cell 1
        have k02 := bx1.cell 2
        have k03 := bx1.cell 3
        have HC1 := Lib.hid (HAA.out _ hr1)
        cases hz1 : aliveI f S x with
        | false =>
          rw [hz1] at HC1 HSE
          have HNN := Lib.hid (no_more HNO.out hiT (by rw [HTT.out]; exact HSE.out))
          clear hz1
          go_wp2_with ((go_at_call 121; (with_reducible refine (HC1.out).mono ?_); rintro e w2 ⟨rfl, hq2⟩; have hb2 := hb1.next hq2; have bx2 := bx1.below hq2))
          go_roundw
          case rel => exact ⟨i + 1, by omega, by go_num, HNN.out, hb2, bx2⟩
          case measure => simp [intOf]; omega
        | true =>
          rw [hz1] at HC1 HSE
          go_wp2_with fail
          refine (HC1.out).mono ?_
          rintro e w2 ⟨rfl, hq2⟩
          have hb2 := hb1.next hq2
          have bx2 := bx1.below hq2
          have hr2 := hr1.next hq2
          have k10 := bx2.cell 0
          have k11 := bx2.cell 1
          have k12 := bx2.cell 2
          have k13 := bx2.cell 3
          have HC2 := Lib.hid (HVA.out _ hr2)
          cases hz2 : visI f S own xmax R x with
          | false =>
            rw [hz2] at HC2 HSE
            go_wp2_with fail
            refine (HC2.out).mono ?_
            rintro e w3 ⟨rfl, hq3⟩
            have hb3 := hb2.next hq3
            have bx3 := bx2.below hq3
            have hr3 := hr2.next hq3
            have k20 := bx3.cell 0
            have k21 := bx3.cell 1
            have k22 := bx3.cell 2
            have k23 := bx3.cell 3
            have HC3 := Lib.hid (HEA.out _ hr3)
            cases hz3 : (decide (x.e.xmax ≠ 0) && decide (x.e.xmax = own)) with
            | false =>
              rw [hz3] at HC3 HSE
              have HFF := Lib.hid (any_at hiT (by rw [HTT.out]; exact HSE.out))
              clear hz3
              go_wp2_with (go_at_call 118; (with_reducible refine (HC3.out).mono ?_); rintro e w4 ⟨rfl, hq4⟩; have hb4 := hb3.next hq4; have bx4 := bx3.below hq4)
              refine bodyPost_ret (v := .bool true) (by simp [results, Try.results82, go_sem]) rfl ?_
              exact ⟨by unfold contJ; rw [HFF.out], hb4⟩
            | true =>
              rw [hz3] at HC3 HSE
              have HNN := Lib.hid (no_more HNO.out hiT (by rw [HTT.out]; exact HSE.out))
              clear hz3
              go_wp2_with ((go_at_call 118; (with_reducible refine (HC3.out).mono ?_); rintro e w4 ⟨rfl, hq4⟩; have hb4 := hb3.next hq4; have bx4 := bx3.below hq4))
              go_roundw
              case rel => exact ⟨i + 1, by omega, by go_num, HNN.out, hb4, bx4⟩
              case measure => simp [intOf]; omega
          | true =>
            rw [hz2] at HC2 HSE
            have HNN := Lib.hid (no_more HNO.out hiT (by rw [HTT.out]; exact HSE.out))
            clear hz2
            go_wp2_with ((go_at_call 60; (with_reducible refine (HC2.out).mono ?_); rintro e w3 ⟨rfl, hq3⟩; have hb3 := hb2.next hq3; have bx3 := bx2.below hq3))
            go_roundw
            case rel => exact ⟨i + 1, by omega, by go_num, HNN.out, hb3, bx3⟩
            case measure => simp [intOf]; omega
    · obtain rfl : i = N := by omega
      have HFF := Lib.hid (any_none HNO.out HN.out)
      go_wp2_with fail
      refine bodyPost_ret (v := .bool false) (by simp [results, Try.results82, go_sem]) rfl ?_
      exact ⟨by unfold contJ; rw [HFF.out], hb⟩
end Go.Proofs.Ytbmkhopmhmmibaa
