/-
  The document's SameRow (ref02): are two rows alike?
-/
import Derived.Test.YtdlgobakoomkpaaDoorVrd
import Derived.Test.YtdlgobakoomkpaaDoorCell2A
import Derived.Deep.RegionHeld3
import Derived.Deep.QuietTactic
import Derived.BigQuiet
namespace Go.Proofs.YtdlgobakoomkpaaDoor
open Go.RowKit

theorem dN {B : Nat} {a w : World} (h : Below B a w) (n : Nat) : Below B a (w.drewN n) := ⟨h.os, h.tape, h.output, h.size, h.block⟩
theorem carry8 {W w9 : World} {p0 p1 p2 p3 p4 p5 p6 p7 : Addr} {u0 u1 u2 u3 u4 u5 u6 u7 : Value} (h : W.cell? p0 = some u0 ∧ W.cell? p1 = some u1 ∧ W.cell? p2 = some u2 ∧ W.cell? p3 = some u3 ∧ W.cell? p4 = some u4 ∧ W.cell? p5 = some u5 ∧ W.cell? p6 = some u6 ∧ W.cell? p7 = some u7) (hb : Below W.heap.size W w9) : w9.cell? p0 = some u0 ∧ w9.cell? p1 = some u1 ∧ w9.cell? p2 = some u2 ∧ w9.cell? p3 = some u3 ∧ w9.cell? p4 = some u4 ∧ w9.cell? p5 = some u5 ∧ w9.cell? p6 = some u6 ∧ w9.cell? p7 = some u7 := by
  obtain ⟨c0, c1, c2, c3, c4, c5, c6, c7⟩ := h
  exact ⟨(hb.cell (World.block_lt_of_cell? W _ c0)).trans c0, (hb.cell (World.block_lt_of_cell? W _ c1)).trans c1, (hb.cell (World.block_lt_of_cell? W _ c2)).trans c2, (hb.cell (World.block_lt_of_cell? W _ c3)).trans c3, (hb.cell (World.block_lt_of_cell? W _ c4)).trans c4, (hb.cell (World.block_lt_of_cell? W _ c5)).trans c5, (hb.cell (World.block_lt_of_cell? W _ c6)).trans c6, (hb.cell (World.block_lt_of_cell? W _ c7)).trans c7⟩

/-- Are two rows alike? -/
def srow : List Val → List Val → Bool
  | [], [] => true
  | a :: la, b :: lb => ((a.k == b.k) && rsame a b) && srow la lb
  | _, _ => false
theorem srow_cons (a b : Val) (la lb : List Val) : srow (a :: la) (b :: lb) = (((a.k == b.k) && rsame a b) && srow la lb) := rfl
theorem same_refl' {a : Val} (ra : rightB a = true) : rsame a a = true := by
  have := irrefl ra
  rw [← less_eq ra ra] at this
  unfold rsame
  rw [this]
  rfl
theorem srow_refl : ∀ l : List Val, l.all rightB = true → srow l l = true
  | [], _ => rfl
  | a :: l, h => by
    rw [List.all_cons, Bool.and_eq_true] at h
    unfold srow
    rw [same_refl' h.1, srow_refl l h.2]
    simp
theorem srow_eq : ∀ la lb : List Val, la.all rightB = true → lb.all rightB = true → srow la lb = true → la = lb
  | [], [], _, _, _ => rfl
  | [], _ :: _, _, _, h => by cases h
  | _ :: _, [], _, _, h => by cases h
  | a :: la, b :: lb, ha, hb, h => by
    rw [List.all_cons, Bool.and_eq_true] at ha hb
    unfold srow at h
    rw [Bool.and_eq_true, Bool.and_eq_true] at h
    rw [same_is ha.1 hb.1 (by rw [← same_eq ha.1 hb.1]; exact h.1.2), srow_eq la lb ha.2 hb.2 h.2]
theorem srow_len : ∀ la lb : List Val, la.length ≠ lb.length → srow la lb = false
  | [], [], h => absurd rfl h
  | [], _ :: _, _ => rfl
  | _ :: _, [], _ => rfl
  | a :: la, b :: lb, h => by
    unfold srow
    rw [srow_len la lb (fun e => h (by simp [e])), Bool.and_false]

set_option maxHeartbeats 2000000 in
theorem samerow_any (A0 A1 : Option Addr) (c0 c1 : Nat) (la lb : List Val) (w : World) (r0 : Vrd w A0 la) (r1 : Vrd w A1 lb) (hl : la.length ≤ 9223372036854775807) :
    Calls Tryd.prog 20 #[.slice A0 la.length c0, .slice A1 lb.length c1] w fun e w' => e = .returned (.bool (srow la lb)) ∧ Below w.heap.size w w' := by
  by_cases hlen : la.length = lb.length
  · go_enter Tryd.func20, Tryd.ntmps20
    have HL := Lib.hid hlen
    have hne : ((la.length : Int) != (lb.length : Int)) = false := by rw [hlen]; simp
    clear hlen
    go_wp2
    clear hne
    go_loopw [13] (fun i wr => ∃ k : Nat, k ≤ la.length ∧ i = .int .i64 k ∧ srow la lb = srow (la.drop k) (lb.drop k) ∧ Below w.heap.size w wr) (fun i _ => la.length - (intOf i).toNat)
    case atStart => exact ⟨0, Nat.zero_le _, rfl, rfl, Below.refl _ _⟩
    case round =>
      obtain ⟨k, hk, rfl, hs, hb⟩ := hrel
      by_cases hlt : k < la.length
      · have hlb : k < lb.length := by rw [← HL.out]; exact hlt
        obtain ⟨ad0, rfl, q0, q1, q2, q3, _⟩ := (r0.below hb).at_ hlt
        obtain ⟨ad1, rfl, q4, q5, q6, q7, _⟩ := (r1.below hb).at_ hlb
        rw [List.drop_eq_getElem_cons hlt, List.drop_eq_getElem_cons hlb] at hs
        rw [srow_cons] at hs
        have ix0 := idx_val ad0 la.length c0 k hlt
        have ix1 := idx_val ad1 lb.length c1 k hlb
        generalize la[k] = a at *
        generalize lb[k] = b at *
        have CC : wr.cell? (ad0.add (k * 4)) = some (.int .u8 a.k) ∧ wr.cell? ⟨(ad0.add (k * 4)).block, (ad0.add (k * 4)).off + 1, none⟩ = some (.int .i64 a.i) ∧ wr.cell? ⟨(ad0.add (k * 4)).block, (ad0.add (k * 4)).off + 2, none⟩ = some (.string a.s) ∧ wr.cell? ⟨(ad0.add (k * 4)).block, (ad0.add (k * 4)).off + 3, none⟩ = some (.bool a.b) ∧ wr.cell? (ad1.add (k * 4)) = some (.int .u8 b.k) ∧ wr.cell? ⟨(ad1.add (k * 4)).block, (ad1.add (k * 4)).off + 1, none⟩ = some (.int .i64 b.i) ∧ wr.cell? ⟨(ad1.add (k * 4)).block, (ad1.add (k * 4)).off + 2, none⟩ = some (.string b.s) ∧ wr.cell? ⟨(ad1.add (k * 4)).block, (ad1.add (k * 4)).off + 3, none⟩ = some (.bool b.b) := ⟨q0, q1, q2, q3, q4, q5, q6, q7⟩
        by_cases hkk : a.k = b.k
        · have hk0 : (a.k != b.k) = false := by simpa using hkk
          rw [show (a.k == b.k) = true by simpa using hkk, Bool.true_and] at hs
          have gs := rsame_any a b
          cases hr : rsame a b with
          | true =>
            rw [hr] at gs hs
            rw [Bool.true_and] at hs
            have GS := Lib.hid gs
            have HS := Lib.hid hs
            clear gs hs hkk hr r0 r1
            go_wp2
            go_region_held3 (fun w' => w'.cell? (ad0.add (k * 4)) = some (.int .u8 a.k) ∧ w'.cell? ⟨(ad0.add (k * 4)).block, (ad0.add (k * 4)).off + 1, none⟩ = some (.int .i64 a.i) ∧ w'.cell? ⟨(ad0.add (k * 4)).block, (ad0.add (k * 4)).off + 2, none⟩ = some (.string a.s) ∧ w'.cell? ⟨(ad0.add (k * 4)).block, (ad0.add (k * 4)).off + 3, none⟩ = some (.bool a.b) ∧ w'.cell? (ad1.add (k * 4)) = some (.int .u8 b.k) ∧ w'.cell? ⟨(ad1.add (k * 4)).block, (ad1.add (k * 4)).off + 1, none⟩ = some (.int .i64 b.i) ∧ w'.cell? ⟨(ad1.add (k * 4)).block, (ad1.add (k * 4)).off + 2, none⟩ = some (.string b.s) ∧ w'.cell? ⟨(ad1.add (k * 4)).block, (ad1.add (k * 4)).off + 3, none⟩ = some (.bool b.b)) (first | assumption | simp [*, go_sem]) ((go_at_call 24; (with_reducible refine (GS.out _).mono ?_); rintro e w9 ⟨rfl, hb9⟩; have hS := carry8 (by assumption) hb9))
            go_wp2
            go_roundw
            case rel => exact ⟨k + 1, by omega, by go_num, HS.out, (by repeat (first | exact hb | refine Below.drew ?_ | refine dN ?_ _ | refine Below.al ?_ _ | refine Below.next ?_ (by assumption)))⟩
            case measure => simp [intOf]; omega
          | false =>
            rw [hr] at gs hs
            rw [Bool.false_and] at hs
            have GS := Lib.hid gs
            have HS := Lib.hid hs
            clear gs hs hkk hr r0 r1
            go_wp2
            go_region_held3 (fun w' => w'.cell? (ad0.add (k * 4)) = some (.int .u8 a.k) ∧ w'.cell? ⟨(ad0.add (k * 4)).block, (ad0.add (k * 4)).off + 1, none⟩ = some (.int .i64 a.i) ∧ w'.cell? ⟨(ad0.add (k * 4)).block, (ad0.add (k * 4)).off + 2, none⟩ = some (.string a.s) ∧ w'.cell? ⟨(ad0.add (k * 4)).block, (ad0.add (k * 4)).off + 3, none⟩ = some (.bool a.b) ∧ w'.cell? (ad1.add (k * 4)) = some (.int .u8 b.k) ∧ w'.cell? ⟨(ad1.add (k * 4)).block, (ad1.add (k * 4)).off + 1, none⟩ = some (.int .i64 b.i) ∧ w'.cell? ⟨(ad1.add (k * 4)).block, (ad1.add (k * 4)).off + 2, none⟩ = some (.string b.s) ∧ w'.cell? ⟨(ad1.add (k * 4)).block, (ad1.add (k * 4)).off + 3, none⟩ = some (.bool b.b)) (first | assumption | simp [*, go_sem]) ((go_at_call 24; (with_reducible refine (GS.out _).mono ?_); rintro e w9 ⟨rfl, hb9⟩; have hS := carry8 (by assumption) hb9))
            go_wp2
            go_ret
            exact ⟨by rw [HS.out]; rfl, (by repeat (first | exact hb | refine Below.drew ?_ | refine dN ?_ _ | refine Below.al ?_ _ | refine Below.next ?_ (by assumption)))⟩
        · have hk0 : (a.k != b.k) = true := by simpa using hkk
          rw [show (a.k == b.k) = false by simpa using hkk, Bool.false_and, Bool.false_and] at hs
          have HS := Lib.hid hs
          clear hs hkk r0 r1
          go_wp2
          go_quiet (fail)
          go_wp2
          go_ret
          exact ⟨by rw [HS.out]; rfl, (by repeat (first | exact hb | refine Below.drew ?_ | refine dN ?_ _ | refine Below.al ?_ _ | refine Below.next ?_ (by assumption)))⟩
      · obtain rfl : k = la.length := by omega
        rw [List.drop_length, HL.out, List.drop_length] at hs
        have HS := Lib.hid hs
        clear hs r0 r1
        go_wp2
        go_ret
        exact ⟨by rw [HS.out]; rfl, hb⟩
  · rw [srow_len la lb hlen]
    have hne : ((la.length : Int) != (lb.length : Int)) = true := by simp; omega
    clear hlen r0 r1
    go_enter Tryd.func20, Tryd.ntmps20
    go_wp2
    go_ret
    exact ⟨rfl, Below.refl _ _⟩
end Go.Proofs.YtdlgobakoomkpaaDoor
