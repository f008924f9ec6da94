/-
  lapidarylaw04.awake: the document's examples of row hold: true; of what was there nothing has turned.
-/
import Derived.Test.YtdlgobakoomkpaaDoorRowH
import Derived.OwnWalk
namespace Go.Proofs.YtdlgobakoomkpaaDoor
open Go.RowKit

def exC : List Val := [⟨1, 1, ⟨#[]⟩, false⟩, ⟨2, 0, ⟨#[97]⟩, false⟩]
def exD : List Val := [nulv, nulv]
theorem rb_nulv : rightB nulv = true := rb_nul
theorem exC_all : exC.all rightB = true := by unfold exC; simp [rb_a, rb_int]
theorem exD_all : exD.all rightB = true := by unfold exD; simp [rb_nulv]
theorem exC_ok : ∀ x ∈ exC, ValOk x := by
  intro x hx
  unfold exC at hx
  simp at hx
  rcases hx with rfl | rfl <;> exact ⟨by decide, by decide, by unfold maxLen; decide⟩
theorem exD_ok : ∀ x ∈ exD, ValOk x := by
  intro x hx
  unfold exD nulv at hx
  simp at hx
  subst hx
  exact ⟨by decide, by decide, by unfold maxLen; decide⟩
theorem ex4_a (K A : Option Addr) (w : World) (hk : Brd w K [1, 2]) (hr : Vrd w A exC) (hE : Env w) :
    Calls Tryd.prog 32 #[.slice K 2 2, .slice A 2 2] w fun e w' => ∃ B c, e = .returned (.tuple #[.slice B 11 c, .int .i64 0]) ∧ Brd w' B [0, 1, 0, 0, 0, 0, 0, 0, 0, 1, 97] ∧ Below w.heap.size w w' := by
  refine (rowbytes_any K A 2 2 [1, 2] exC w hk (by decide) (by decide) hr exC_ok hE).mono ?_
  rintro e w1 ⟨v1, rfl, ho, hb⟩
  have e2 : rwE [1, 2] exC = 0 := rwE_ok (mtE_ok (by decide) rfl exC_all (by decide)) (by decide)
  have e1 : rwB [1, 2] exC = [0, 1, 0, 0, 0, 0, 0, 0, 0, 1, 97] := by rw [rwB_yes e2]; decide
  rw [e1] at ho
  rw [e2]
  obtain ⟨B, c, rfl, _, _, hB⟩ := byt_slice ho
  exact ⟨B, c, rfl, hB, hb⟩
theorem ex4_b (K A : Option Addr) (w : World) (hk : Brd w K [1, 2]) (hr : Vrd w A exD) (hE : Env w) :
    Calls Tryd.prog 32 #[.slice K 2 2, .slice A 2 2] w fun e w' => ∃ B c, e = .returned (.tuple #[.slice B 1 c, .int .i64 0]) ∧ Brd w' B [3] ∧ Below w.heap.size w w' := by
  refine (rowbytes_any K A 2 2 [1, 2] exD w hk (by decide) (by decide) hr exD_ok hE).mono ?_
  rintro e w1 ⟨v1, rfl, ho, hb⟩
  have e2 : rwE [1, 2] exD = 0 := rwE_ok (mtE_ok (by decide) rfl exD_all (by decide)) (by decide)
  have e1 : rwB [1, 2] exD = [3] := by rw [rwB_yes e2]; decide
  rw [e1] at ho
  rw [e2]
  obtain ⟨B, c, rfl, _, _, hB⟩ := byt_slice ho
  exact ⟨B, c, rfl, hB, hb⟩
theorem ex4_s (A B : Option Addr) (c d : Nat) (w : World) (ha : Brd w A [0, 1, 0, 0, 0, 0, 0, 0, 0, 1, 97]) (hb : Brd w B [0, 1, 0, 0, 0, 0, 0, 0, 0, 1, 97]) :
    Calls Tryd.prog 18 #[.slice A 11 c, .slice B 11 d] w fun e w' => e = .returned (.bool true) ∧ w' = w := same3_any A B c d _ _ w ha hb
theorem ex4_t (A B : Option Addr) (c d : Nat) (w : World) (ha : Brd w A [3]) (hb : Brd w B [3]) :
    Calls Tryd.prog 18 #[.slice A 1 c, .slice B 1 d] w fun e w' => e = .returned (.bool true) ∧ w' = w := same3_any A B c d _ _ w ha hb

set_option maxHeartbeats 1000000 in
theorem awake4_any (w : World) (hE : Env w) :
    Calls Tryd.prog 31 #[] w fun e w' => e = .returned (.bool true) ∧ Below w.heap.size w w' := by
  obtain ⟨i4, hi4, hv0, hv1, hv2⟩ := info_parts info_val
  have hkk : Brd (w.alloc (.cells #[.int .u8 1, .int .u8 2] 41)) (some ⟨w.heap.size, 0, none⟩) [1, 2] := rd_lit rfl rfl rfl
  have HK := Lib.hid hkk
  clear hkk
  go_enter Tryd.func31, Tryd.ntmps31
  go_wp2_with fail
  refine (ex4_a _ _ _ (Rd.alloc HK.out _) (rd_lit (by first | rfl | simp) rfl rfl) (hE.next (by repeat (first | exact Below.refl _ _ | refine Below.drew ?_ | refine below_dN ?_ _ | refine Below.al ?_ _ | refine Below.next ?_ (by assumption))))).mono ?_
  rintro e w1 ⟨A1, c1, rfl, hB1, hb1⟩
  have hz1 : w.heap.size + 2 ≤ w1.heap.size := by have := hb1.size; simp at this; omega
  have hk1 : Brd w1 (some ⟨w.heap.size, 0, none⟩) [1, 2] := (Rd.alloc HK.out _).below hb1
  have hx1 : Below w.heap.size w w1 := by repeat (first | exact Below.refl _ _ | refine Below.drew ?_ | refine below_dN ?_ _ | refine Below.al ?_ _ | refine Below.next ?_ (by assumption))
  go_wp2_with (at_make; refine wpList_make_full _ rfl _ _ 22 rfl w1.heap.size 43 _ _ 4 Tryd.underlying22 hi4 hv0 hv1 _ _ _ _ 2 rfl rfl rfl rfl (by rw [hv2]; decide) (by unfold maxLen; decide) (Nat.le_refl _) ?_; intro w2 ho2 hg2; have hb2 : Below w1.heap.size w1 w2 := (Below.refl _ _).grown hg2 (Nat.le_refl _) (fun k hk => by cases hk))
  rw [made_nuls _ rfl] at ho2
  have hV2 : Vrd w2 (some ⟨w1.heap.size, 0, none⟩) exD := Rd.of_own ho2
  refine (ex4_b _ _ w2 (hk1.below hb2) hV2 (hE.next (hx1.next hb2))).mono ?_
  rintro e w3 ⟨A3, c3, rfl, hB3, hb3⟩
  have hB1' := (hB1.below hb2).below hb3
  go_wp2_with fail
  refine (ex4_s _ _ _ _ _ (Rd.alloc hB1' _) (rd_lit (by first | rfl | simp) rfl rfl)).mono ?_
  rintro e w4 ⟨rfl, hw4⟩
  subst hw4
  go_wp2_with fail
  refine (ex4_t _ _ _ _ _ (Rd.alloc (Rd.alloc hB3 _) _) (rd_lit (by first | rfl | simp) rfl rfl)).mono ?_
  rintro e w5 ⟨rfl, hw5⟩
  subst hw5
  go_wp2
  go_ret
  exact ⟨rfl, (by repeat (first | exact hx1 | refine Below.drew ?_ | refine below_dN ?_ _ | refine Below.al ?_ _ | refine Below.next ?_ (by assumption)))⟩
end Go.Proofs.YtdlgobakoomkpaaDoor
