/-
  book.contested over tables: does one with a name stand in the way?
-/
import Derived.Test.YtbmkhopmhmmibaaBookB
namespace Go.Proofs.Ytbmkhopmhmmibaa
open Go.RowKit
set_option linter.unusedVariables false

/-- One with that name is alive, isn't seen, and wasn't dropped by own. -/
def contE (f : Nat) (S : List Nat) (own xmax : Nat) (R : List Nat) (n : ByteArray) (x : Ent) : Bool := (x.nm.toList == n.toList) && (aliveE f S x && (!visB f S own xmax R x.xmin x.xmax && !(decide (x.xmax ≠ 0) && decide (x.xmax = own))))
def contT (f : Nat) (S : List Nat) (own xmax : Nat) (R : List Nat) (n : ByteArray) (T : List (Nat × Ent)) : Bool := T.any fun t => contE f S own xmax R n t.2
theorem any_at {α : Type} {T : List (Nat × α)} {pr : α → Bool} {i : Nat} (hi : i < T.length) (h : pr T[i].2 = true) : T.any (fun t => pr t.2) = true := List.any_eq_true.2 ⟨T[i], List.getElem_mem hi, h⟩
theorem any_none {α : Type} {T : List (Nat × α)} {pr : α → Bool} {i : Nat} (hno : ∀ k (h : k < T.length), k < i → pr T[k].2 = false) (hi : i = T.length) : T.any (fun t => pr t.2) = false := by
  rw [List.any_eq_false]
  intro t ht
  obtain ⟨k, hk, rfl⟩ := List.getElem_of_mem ht
  rw [hno k hk (by omega)]
  decide
theorem m_alive (b : Nat) (W : World) : (Go.method 300 114 (.pointer (some ⟨b, 0, none⟩)) "lapidary/book.alive").run Try.prog W = .ok (115, .pointer (some ⟨b, 0, none⟩)) W := by kernel_rfl
theorem m_ended (b : Nat) (W : World) : (Go.method 300 114 (.pointer (some ⟨b, 0, none⟩)) "lapidary/book.ended").run Try.prog W = .ok (118, .pointer (some ⟨b, 0, none⟩)) W := by kernel_rfl
set_option maxRecDepth 100000 in
set_option maxHeartbeats 1000000 in
theorem tcont_any (w : World) (g f own xmin xmax bb N ct : Nat) (AT : Option Addr) (T : List (Nat × Ent)) (S R : List Nat) (F : Nat → Prop) (v : Value) (n : ByteArray) (hl : LG w g f S F) (hR : w.ownsRow bb 28 1 v R.length (ucells .u64 R)) (hn : R.length ≤ 9223372036854775807)
    (hN : N = T.length) (hN64 : N ≤ 9223372036854775807) (hT : Rd w 1 AT N (pts T)) (hE : ∀ t ∈ T, En w t.1 t.2) :
    Calls Try.prog 81 #[.pointer (some ⟨g, 0, none⟩), .agg #[.int .u64 (own : Int), .int .u64 (xmin : Int), .int .u64 (xmax : Int), v], .slice AT N ct, .string n] w fun e w' => e = .returned (.bool (contT f S own xmax R n T)) ∧ Below w.heap.size w w' := by
  obtain ⟨A, c, hv, _, _, _⟩ := own_form hR
  subst hv
  have HL := Lib.hid hl
  have HR := Lib.hid hR
  have HT := Lib.hid hT
  have HE := Lib.hid hE
  have HN := Lib.hid hN
  clear hl hR hT hE hN
  go_enter Try.func81, Try.ntmps81
  go_wp2
  go_loopw [13] (fun iv wr => ∃ (i : Nat), i ≤ N ∧ iv = .int .i64 (i : Int) ∧ (∀ k (h : k < T.length), k < i → contE f S own xmax R n T[k].2 = false) ∧ Below w.heap.size w wr ∧ Bx wr w.heap.size 50 [.int .u64 (own : Int), .int .u64 (xmin : Int), .int .u64 (xmax : Int), .slice A R.length c]) (fun iv _ => N - (intOf iv).toNat)
  case atStart => exact ⟨0, Nat.zero_le _, rfl, fun k h hk => by omega, (Below.refl _ _).al _, Bx.new w 50 _ _ rfl⟩
  case round =>
    obtain ⟨i, hi, rfl, hno, hb, hbx⟩ := hrel
    have HNO := Lib.hid hno
    clear hno
    by_cases hlt : i < N
    · have hiT : i < T.length := by rw [← HN.out]; exact hlt
      have hg : (pts T)[i]? = some (ptr T[i].1) := by unfold pts; rw [List.getElem?_map, List.getElem?_eq_getElem hiT]; rfl
      obtain ⟨ad, rfl, q0⟩ := (HT.out.below hb).2 i _ hg
      replace q0 : wr.cell? (ad.add i) = some (.pointer (some ⟨T[i].1, 0, none⟩)) := q0
      have ix := idx_tb ad N ct i hlt
      have hEn := (HE.out T[i] (List.getElem_mem hiT)).below hb
      obtain ⟨tt, htt⟩ : ∃ tt, T[i] = tt := ⟨_, rfl⟩
      rw [htt] at q0 hEn
      clear hg
      obtain ⟨b, x⟩ := tt
      have hEn : En wr b x := hEn
      have hm1 := m_called b
      have hm2 := m_visible b
      have hm3 := m_alive b
      have hm4 := m_ended b
      have HTT := Lib.hid htt
      have HCA := Lib.hid (called_any wr b x n hEn)
      have HAA := Lib.hid (fun W (hb' : Below wr.heap.size wr W) => alive_any W b g f x S F (HL.out.below (hb.next hb')) (hEn.below hb'))
      have HVA := Lib.hid (fun W (hb' : Below wr.heap.size wr W) => evis_any W b g f own xmin xmax bb x S R F _ (HL.out.below (hb.next hb')) (own_below HR.out (hb.next hb')) hn (hEn.below hb'))
      have HEA := Lib.hid (fun W (hb' : Below wr.heap.size wr W) => ended_any W b own x (hEn.below hb'))
      have HSE := Lib.hid (show contE f S own xmax R n x = ((x.nm.toList == n.toList) && (aliveE f S x && (!visB f S own xmax R x.xmin x.xmax && !(decide (x.xmax ≠ 0) && decide (x.xmax = own))))) from rfl)
      go_upto_region 4 with fail
      clear q0 ix htt
      have HC0 := Lib.hid (HCA.out)
      cases hz0 : (x.nm.toList == n.toList) with
      | false =>
        rw [hz0] at HC0 HSE
        have HNN := Lib.hid (no_more HNO.out hiT (by rw [HTT.out]; exact HSE.out))
        clear hz0
        go_wp2_with ((go_at_call 116; (with_reducible refine (HC0.out).mono ?_); rintro e w1 ⟨rfl, hq1⟩; have hb1 := hb.next hq1; have bx1 := hbx.below hq1))
        go_roundw
        case rel => exact ⟨i + 1, by omega, by go_num, HNN.out, hb1, bx1⟩
        case measure => simp [intOf]; omega
      | true =>
        rw [hz0] at HC0 HSE
        go_wp2_with fail
        refine (HC0.out).mono ?_
        rintro e w1 ⟨rfl, hq1⟩
        have hb1 := hb.next hq1
        have bx1 := hbx.below hq1
        have hr1 := hq1
        have k00 := bx1.cell 0
        have k01 := bx1.cell 1
        have k02 := bx1.cell 2
        have k03 := bx1.cell 3
        have HC1 := Lib.hid (HAA.out _ hr1)
        cases hz1 : aliveE f S x with
        | false =>
          rw [hz1] at HC1 HSE
          have HNN := Lib.hid (no_more HNO.out hiT (by rw [HTT.out]; exact HSE.out))
          clear hz1
          go_wp2_with ((go_at_call 115; (with_reducible refine (HC1.out).mono ?_); rintro e w2 ⟨rfl, hq2⟩; have hb2 := hb1.next hq2; have bx2 := bx1.below hq2))
          go_roundw
          case rel => exact ⟨i + 1, by omega, by go_num, HNN.out, hb2, bx2⟩
          case measure => simp [intOf]; omega
        | true =>
          rw [hz1] at HC1 HSE
          go_wp2_with fail
          refine (HC1.out).mono ?_
          rintro e w2 ⟨rfl, hq2⟩
          have hb2 := hb1.next hq2
          have bx2 := bx1.below hq2
          have hr2 := hr1.next hq2
          have k10 := bx2.cell 0
          have k11 := bx2.cell 1
          have k12 := bx2.cell 2
          have k13 := bx2.cell 3
          have HC2 := Lib.hid (HVA.out _ hr2)
          cases hz2 : visB f S own xmax R x.xmin x.xmax with
          | false =>
            rw [hz2] at HC2 HSE
            go_wp2_with fail
            refine (HC2.out).mono ?_
            rintro e w3 ⟨rfl, hq3⟩
            have hb3 := hb2.next hq3
            have bx3 := bx2.below hq3
            have hr3 := hr2.next hq3
            have k20 := bx3.cell 0
            have k21 := bx3.cell 1
            have k22 := bx3.cell 2
            have k23 := bx3.cell 3
            have HC3 := Lib.hid (HEA.out _ hr3)
            cases hz3 : (decide (x.xmax ≠ 0) && decide (x.xmax = own)) with
            | false =>
              rw [hz3] at HC3 HSE
              have HFF := Lib.hid (any_at hiT (by rw [HTT.out]; exact HSE.out))
              clear hz3
              go_wp2_with (go_at_call 118; (with_reducible refine (HC3.out).mono ?_); rintro e w4 ⟨rfl, hq4⟩; have hb4 := hb3.next hq4; have bx4 := bx3.below hq4)
              refine bodyPost_ret (v := .bool true) (by simp [results, Try.results81, go_sem]) rfl ?_
              exact ⟨by unfold contT; rw [HFF.out], hb4⟩
            | true =>
              rw [hz3] at HC3 HSE
              have HNN := Lib.hid (no_more HNO.out hiT (by rw [HTT.out]; exact HSE.out))
              clear hz3
              go_wp2_with ((go_at_call 118; (with_reducible refine (HC3.out).mono ?_); rintro e w4 ⟨rfl, hq4⟩; have hb4 := hb3.next hq4; have bx4 := bx3.below hq4))
              go_roundw
              case rel => exact ⟨i + 1, by omega, by go_num, HNN.out, hb4, bx4⟩
              case measure => simp [intOf]; omega
          | true =>
            rw [hz2] at HC2 HSE
            have HNN := Lib.hid (no_more HNO.out hiT (by rw [HTT.out]; exact HSE.out))
            clear hz2
            go_wp2_with ((go_at_call 84; (with_reducible refine (HC2.out).mono ?_); rintro e w3 ⟨rfl, hq3⟩; have hb3 := hb2.next hq3; have bx3 := bx2.below hq3))
            go_roundw
            case rel => exact ⟨i + 1, by omega, by go_num, HNN.out, hb3, bx3⟩
            case measure => simp [intOf]; omega
    · obtain rfl : i = N := by omega
      have HFF := Lib.hid (any_none HNO.out HN.out)
      go_wp2_with fail
      refine bodyPost_ret (v := .bool false) (by simp [results, Try.results81, go_sem]) rfl ?_
      exact ⟨by unfold contT; rw [HFF.out], hb⟩
end Go.Proofs.Ytbmkhopmhmmibaa
