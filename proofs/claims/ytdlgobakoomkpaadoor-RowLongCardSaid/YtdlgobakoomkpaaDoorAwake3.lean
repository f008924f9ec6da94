/-
  lapidarylaw03.awake: the document's examples of key hold: true; of what was there nothing has turned.
-/
import Derived.Test.YtdlgobakoomkpaaDoorKeyC
import Derived.Test.YtdlgobakoomkpaaDoorBin
namespace Go.Proofs.YtdlgobakoomkpaaDoor
open Go.RowKit

def exA : List Val := [⟨2, 0, ⟨#[97]⟩, false⟩, ⟨0, 0, ⟨#[]⟩, false⟩]
def exB : List Val := [⟨1, -1, ⟨#[]⟩, false⟩]
theorem rb_nul : rightB ⟨0, 0, ⟨#[]⟩, false⟩ = true := by unfold rightB; rw [if_pos rfl, ByteArray.toList_eq]; rfl
theorem rb_int (i : Int) : rightB ⟨1, i, ⟨#[]⟩, false⟩ = true := by unfold rightB; rw [if_neg (show ¬ (1 : Int) = 0 by decide), if_pos rfl, ByteArray.toList_eq]; rfl
theorem rb_a : rightB ⟨2, 0, ⟨#[97]⟩, false⟩ = true := by
  have h : soundB ⟨#[97]⟩ = true := by
    unfold soundB
    rw [show whole (⟨#[97]⟩ : ByteArray).data.toList = true from whole_ascii 97 [] (by decide) (by decide)]
    rfl
  unfold rightB; rw [if_neg (by decide), if_neg (by decide), if_pos rfl, h]; rfl
theorem exA_all : exA.all rightB = true := by unfold exA; simp [rb_a, rb_nul]
theorem exB_all : exB.all rightB = true := by unfold exB; simp [rb_int]
theorem exA_ok : ∀ x ∈ exA, ValOk x := by
  intro x hx
  unfold exA at hx
  simp at hx
  rcases hx with rfl | rfl <;> exact ⟨by decide, by decide, by unfold maxLen; decide⟩
theorem exB_ok : ∀ x ∈ exB, ValOk x := by
  intro x hx
  unfold exB at hx
  simp at hx
  subst hx
  exact ⟨by decide, by decide, by unfold maxLen; decide⟩
theorem ex3_a (A : Option Addr) (w : World) (hr : Vrd w A exA) (hE : Env w) :
    Calls Tryd.prog 16 #[.slice A 2 2] w fun e w' => ∃ B c, e = .returned (.tuple #[.slice B 4 c, .int .i64 0]) ∧ Brd w' B [4, 97, 0, 1] ∧ Below w.heap.size w w' := by
  refine (kbytes_any A 2 exA w (by decide) hr exA_ok hE).mono ?_
  rintro e w1 ⟨v1, rfl, ho, hb⟩
  have e1 : kbB exA = [4, 97, 0, 1] := by unfold kbB; rw [if_pos exA_all]; rfl
  have e2 : kbE exA = 0 := if_pos exA_all
  rw [e1] at ho
  rw [e2]
  obtain ⟨B, c, rfl, _, _, hB⟩ := byt_slice ho
  exact ⟨B, c, rfl, hB, hb⟩
theorem ex3_b (A : Option Addr) (w : World) (hr : Vrd w A exB) (hE : Env w) :
    Calls Tryd.prog 16 #[.slice A 1 1] w fun e w' => ∃ ad c, e = .returned (.tuple #[.slice (some ad) 9 c, .int .i64 0]) ∧ w'.cell? (ad.add 1) = some (.int .u8 127) ∧ Below w.heap.size w w' := by
  refine (kbytes_any A 1 exB w (by decide) hr exB_ok hE).mono ?_
  rintro e w1 ⟨v1, rfl, ho, hb⟩
  have e1 : kbB exB = [3, 127, 255, 255, 255, 255, 255, 255, 255] := by unfold kbB; rw [if_pos exB_all]; rfl
  have e2 : kbE exB = 0 := if_pos exB_all
  rw [e1] at ho
  rw [e2]
  obtain ⟨B, c, rfl, _, _, hB⟩ := byt_slice ho
  obtain ⟨ad, rfl, hc⟩ := hB.at_ (k := 1) (by decide)
  exact ⟨ad, c, rfl, hc, hb⟩
theorem ex3_s (A B : Option Addr) (c d : Nat) (w : World) (ha : Brd w A [4, 97, 0, 1]) (hb : Brd w B [4, 97, 0, 1]) :
    Calls Tryd.prog 18 #[.slice A 4 c, .slice B 4 d] w fun e w' => e = .returned (.bool true) ∧ w' = w := same3_any A B c d _ _ w ha hb
theorem ex3_t (A B : Option Addr) (c d : Nat) (w : World) (ha : Brd w A [2]) (hb : Brd w B [2]) :
    Calls Tryd.prog 18 #[.slice A 1 c, .slice B 1 d] w fun e w' => e = .returned (.bool true) ∧ w' = w := same3_any A B c d _ _ w ha hb
theorem ex3_d (A : Option Addr) (w : World) (ha : Brd w A [1, 255]) :
    Calls Tryd.prog 27 #[.slice A 2 2] w fun e w' => ∃ B c, e = .returned (.slice B 1 c) ∧ Brd w' B [2] ∧ Below w.heap.size w w' := by
  refine (kbehind_any A 2 [1, 255] w ha (by decide) (by decide)).mono ?_
  rintro e w1 ⟨v1, rfl, ho, hb⟩
  have e1 : behind [1, 255] = [2] := by decide
  rw [e1] at ho
  obtain ⟨B, c, rfl, _, _, hB⟩ := byt_slice ho
  exact ⟨B, c, rfl, hB, hb⟩

set_option maxHeartbeats 1000000 in
theorem awake3_any (w : World) (hE : Env w) :
    Calls Tryd.prog 15 #[] w fun e w' => e = .returned (.bool true) ∧ Below w.heap.size w w' := by
  go_enter Tryd.func15, Tryd.ntmps15
  go_wp2_with fail
  refine (ex3_a _ _ (rd_lit (by first | rfl | simp) rfl rfl) (hE.next (by repeat (first | exact Below.refl _ _ | refine Below.drew ?_ | refine below_drewN ?_ _ | refine Below.al ?_ _ | refine Below.next ?_ (by assumption))))).mono ?_
  rintro e w1 ⟨A1, c1, rfl, hB1, hb1⟩
  go_wp2_with fail
  refine (ex3_b _ _ (rd_lit (by first | rfl | simp) rfl rfl) (hE.next (by repeat (first | exact Below.refl _ _ | refine Below.drew ?_ | refine below_drewN ?_ _ | refine Below.al ?_ _ | refine Below.next ?_ (by assumption))))).mono ?_
  rintro e w2 ⟨ad2, c2, rfl, hc2, hb2⟩
  go_wp2_with fail
  refine (ex3_s _ _ _ _ _ (Rd.alloc (Rd.below (Rd.alloc hB1 _) hb2) _) (rd_lit (by first | rfl | simp) rfl rfl)).mono ?_
  rintro e w3 ⟨rfl, hw3⟩
  subst hw3
  have hl2 := World.block_lt_of_cell? w2 _ hc2
  have hc2' : ∀ o, (w2.alloc o).cell? ⟨ad2.block, ad2.off + 1, none⟩ = some (.int .u8 127) := fun o => (World.cell?_alloc_lt w2 o (ad2.add 1) hl2).trans hc2
  go_wp2_with fail
  refine (ex3_d _ _ (rd_lit (by first | rfl | simp) rfl rfl)).mono ?_
  rintro e w4 ⟨A4, c4, rfl, hB4, hb4⟩
  go_wp2_with fail
  refine (ex3_t _ _ _ _ _ (Rd.alloc hB4 _) (rd_lit (by first | rfl | simp) rfl rfl)).mono ?_
  rintro e w5 ⟨rfl, hw5⟩
  subst hw5
  go_wp2
  go_ret
  exact ⟨rfl, (by repeat (first | exact Below.refl _ _ | refine Below.drew ?_ | refine below_drewN ?_ _ | refine Below.al ?_ _ | refine Below.next ?_ (by assumption)))⟩
end Go.Proofs.YtdlgobakoomkpaaDoor
