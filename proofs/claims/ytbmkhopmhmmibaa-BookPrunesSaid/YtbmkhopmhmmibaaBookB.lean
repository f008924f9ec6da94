/-
  book.find over tables: the first with a name that is visible.
-/
import Derived.Test.YtbmkhopmhmmibaaBookA
import Derived.Test.YtbmkhopmhmmibaaOpen
namespace Go.Proofs.Ytbmkhopmhmmibaa
open Go.RowKit
set_option linter.unusedVariables false

/-- A pointer to a block. -/
def ptr (b : Nat) : Value := .pointer (some ⟨b, 0, none⟩)
def pts {α : Type} (T : List (Nat × α)) : List Value := T.map fun t => ptr t.1
/-- The first one with a name that is visible. -/
def seenE (f : Nat) (S : List Nat) (own xmax : Nat) (R : List Nat) (n : ByteArray) (x : Ent) : Bool := (x.nm.toList == n.toList) && visB f S own xmax R x.xmin x.xmax
def findT (f : Nat) (S : List Nat) (own xmax : Nat) (R : List Nat) (n : ByteArray) (T : List (Nat × Ent)) : Option (Nat × Ent) := T.find? fun t => seenE f S own xmax R n t.2
def foundV {α : Type} (o : Option (Nat × α)) : Value := match o with | some t => .tuple #[ptr t.1, .bool true] | none => .tuple #[.pointer none, .bool false]
theorem no_more {α : Type} {T : List (Nat × α)} {pr : α → Bool} {i : Nat} (hno : ∀ k (h : k < T.length), k < i → pr T[k].2 = false) (hi : i < T.length) (h : pr T[i].2 = false) : ∀ k (h : k < T.length), k < i + 1 → pr T[k].2 = false := fun k hk hki => by
  by_cases e : k = i
  · subst e; exact h
  · exact hno k hk (by omega)
theorem found_at {α : Type} {T : List (Nat × α)} {pr : α → Bool} {i : Nat} (hno : ∀ k (h : k < T.length), k < i → pr T[k].2 = false) (hi : i < T.length) (h : pr T[i].2 = true) : T.find? (fun t => pr t.2) = some T[i] := by
  rw [List.find?_eq_some_iff_getElem]
  exact ⟨h, i, hi, rfl, fun j hj => by rw [hno j (by omega) hj]; rfl⟩
theorem found_none {α : Type} {T : List (Nat × α)} {pr : α → Bool} {i : Nat} (hno : ∀ k (h : k < T.length), k < i → pr T[k].2 = false) (hi : i = T.length) : T.find? (fun t => pr t.2) = none := by
  rw [List.find?_eq_none]
  intro t ht
  obtain ⟨k, hk, rfl⟩ := List.getElem_of_mem ht
  rw [hno k hk (by omega)]
  decide
theorem idx_tb (ad : Addr) (n c k : Nat) (h : k < n) (W : World) : (Instr.indexAt 100 (.slice (some ad) n c) (.int .i64 (k : Int))).run Try.prog W = .ok (.pointer (some (ad.add k))) W := by
  rw [run_indexAt_slice (h := by kernel_rfl), if_pos (by omega)]
  rw [show Try.prog.elem 100 = 114 by kernel_rfl, show (sizeOf 114).run Try.prog W = .ok 1 W by kernel_rfl]
  simp [Result.andThen]
theorem m_called (b : Nat) (W : World) : (Go.method 300 114 (.pointer (some ⟨b, 0, none⟩)) "lapidary/book.called").run Try.prog W = .ok (116, .pointer (some ⟨b, 0, none⟩)) W := by kernel_rfl
theorem m_visible (b : Nat) (W : World) : (Go.method 300 114 (.pointer (some ⟨b, 0, none⟩)) "lapidary/book.visible").run Try.prog W = .ok (84, .pointer (some ⟨b, 0, none⟩)) W := by kernel_rfl
set_option maxRecDepth 100000 in
set_option maxHeartbeats 1000000 in
theorem tfind_any (w : World) (g f own xmin xmax bb N ct bt : Nat) (AT : Option Addr) (T : List (Nat × Ent)) (S R : List Nat) (F : Nat → Prop) (v : Value) (n : ByteArray) (hl : LG w g f S F) (hR : w.ownsRow bb 28 1 v R.length (ucells .u64 R)) (hn : R.length ≤ 9223372036854775807)
    (hN : N = T.length) (hN64 : N ≤ 9223372036854775807) (hT : Rd w 1 AT N (pts T)) (hE : ∀ t ∈ T, En w t.1 t.2) :
    Calls Try.prog 55 #[.pointer (some ⟨g, 0, none⟩), .agg #[.int .u64 (own : Int), .int .u64 (xmin : Int), .int .u64 (xmax : Int), v], .slice AT N ct, .string n] w fun e w' => e = .returned (foundV (findT f S own xmax R n T)) ∧ Below w.heap.size w w' := by
  obtain ⟨A, c, hv, _, _, _⟩ := own_form hR
  subst hv
  have HL := Lib.hid hl
  have HR := Lib.hid hR
  have HT := Lib.hid hT
  have HE := Lib.hid hE
  have HN := Lib.hid hN
  clear hl hR hT hE hN
  go_enter Try.func55, Try.ntmps55
  go_wp2
  go_loopw [15] (fun iv wr => ∃ (i : Nat), i ≤ N ∧ iv = .int .i64 (i : Int) ∧ (∀ k (h : k < T.length), k < i → seenE f S own xmax R n T[k].2 = false) ∧ Below w.heap.size w wr ∧ Bx wr w.heap.size 50 [.int .u64 (own : Int), .int .u64 (xmin : Int), .int .u64 (xmax : Int), .slice A R.length c]) (fun iv _ => N - (intOf iv).toNat)
  case atStart => exact ⟨0, Nat.zero_le _, rfl, fun k h hk => by omega, (Below.refl _ _).al _, Bx.new w 50 _ _ rfl⟩
  case round =>
    obtain ⟨i, hi, rfl, hno, hb, hbx⟩ := hrel
    have HNO := Lib.hid hno
    clear hno
    by_cases hlt : i < N
    · have hiT : i < T.length := by rw [← HN.out]; exact hlt
      have hg : (pts T)[i]? = some (ptr T[i].1) := by unfold pts; rw [List.getElem?_map, List.getElem?_eq_getElem hiT]; rfl
      obtain ⟨ad, rfl, q0⟩ := (HT.out.below hb).2 i _ hg
      replace q0 : wr.cell? (ad.add i) = some (.pointer (some ⟨T[i].1, 0, none⟩)) := q0
      have ix := idx_tb ad N ct i hlt
      have hEn := (HE.out T[i] (List.getElem_mem hiT)).below hb
      obtain ⟨tt, htt⟩ : ∃ tt, T[i] = tt := ⟨_, rfl⟩
      rw [htt] at q0 hEn
      clear hg
      obtain ⟨b, x⟩ := tt
      have hEn : En wr b x := hEn
      have hm1 := m_called b
      have hm2 := m_visible b
      have HTT := Lib.hid htt
      have HCA := Lib.hid (called_any wr b x n hEn)
      have HVA : ∀ W, Below wr.heap.size wr W → Calls Try.prog 84 #[.pointer (some ⟨b, 0, none⟩), .pointer (some ⟨g, 0, none⟩), .agg #[.int .u64 (own : Int), .int .u64 (xmin : Int), .int .u64 (xmax : Int), .slice A R.length c]] W fun e w' => e = .returned (.bool (visB f S own xmax R x.xmin x.xmax)) ∧ Below W.heap.size W w' := fun W hb' => evis_any W b g f own xmin xmax bb x S R F _ (HL.out.below (hb.next hb')) (own_below HR.out (hb.next hb')) hn (hEn.below hb')
      have HSE := Lib.hid (show seenE f S own xmax R n x = ((x.nm.toList == n.toList) && visB f S own xmax R x.xmin x.xmax) from rfl)
      replace HVA := Lib.hid HVA
      go_upto_region 4 with fail
      clear q0 ix htt
      cases hz : (x.nm.toList == n.toList) with
      | false =>
        rw [hz] at HCA HSE
        have HNN := Lib.hid (no_more HNO.out hiT (by rw [HTT.out]; exact HSE.out))
        clear hm2 hz
        go_wp2_with (go_at_call 116; (with_reducible refine (HCA.out).mono ?_); rintro e w1 ⟨rfl, hb1⟩; have hb2 := hb.next hb1; have bx1 := hbx.below hb1)
        go_roundw
        case rel => exact ⟨i + 1, by omega, by go_num, HNN.out, hb2, bx1⟩
        case measure => simp [intOf]; omega
      | true =>
        rw [hz] at HCA HSE
        go_wp2_with fail
        refine (HCA.out).mono ?_
        rintro e w1 ⟨rfl, hb1⟩
        have hb2 := hb.next hb1
        have bx1 := hbx.below hb1
        have k0 := bx1.cell 0
        have k1 := bx1.cell 1
        have k2 := bx1.cell 2
        have k3 := bx1.cell 3
        have HV1 := Lib.hid (HVA.out _ hb1)
        cases hv : visB f S own xmax R x.xmin x.xmax with
        | false =>
          rw [hv] at HV1 HSE
          have HNN := Lib.hid (no_more HNO.out hiT (by rw [HTT.out]; exact HSE.out))
          clear hz hv hm1
          go_wp2_with (go_at_call 84; (with_reducible refine (HV1.out).mono ?_); rintro e w2 ⟨rfl, hb3⟩; have hb4 := hb2.next hb3; have bx2 := bx1.below hb3)
          go_roundw
          case rel => exact ⟨i + 1, by omega, by go_num, HNN.out, hb4, bx2⟩
          case measure => simp [intOf]; omega
        | true =>
          rw [hv] at HV1 HSE
          have HFF := Lib.hid (found_at HNO.out hiT (by rw [HTT.out]; exact HSE.out))
          clear hz hv hm1
          go_wp2_with (go_at_call 84; (with_reducible refine (HV1.out).mono ?_); rintro e w2 ⟨rfl, hb3⟩; have hb4 := hb2.next hb3; have bx2 := bx1.below hb3)
          refine bodyPost_ret (v := .tuple #[.pointer (some ⟨b, 0, none⟩), .bool true]) (by simp [results, Try.results55, go_sem]) rfl ?_
          exact ⟨by unfold findT; rw [HFF.out, HTT.out]; rfl, hb4⟩
    · obtain rfl : i = N := by omega
      have HFF := Lib.hid (found_none HNO.out HN.out)
      go_wp2_with fail
      refine bodyPost_ret (v := .tuple #[.pointer none, .bool false]) (by simp [results, Try.results55, go_sem]) rfl ?_
      exact ⟨by unfold findT; rw [HFF.out]; rfl, hb⟩
end Go.Proofs.Ytbmkhopmhmmibaa
