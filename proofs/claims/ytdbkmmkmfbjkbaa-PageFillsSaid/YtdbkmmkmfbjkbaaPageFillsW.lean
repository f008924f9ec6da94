/-
  PageFills: the walk: the law answers true; of what was there nothing has turned.
-/
import Derived.Test.YtdbkmmkmfbjkbaaAwake5
import Derived.Test.YtdbkmmkmfbjkbaaDoorL
import Derived.Test.YtdbkmmkmfbjkbaaPageS
import Derived.Deep.OwnRows
import Derived.Deep.RegionHeld3
import Derived.Deep.DeepCutAuto
namespace Go.Proofs.Ytdbkmmkmfbjkbaa.pageFills
open Go.RowKit

def vZ (k : Nat) : Ver := ⟨1, 1, 0, -1, -1, zer k⟩
theorem vZ_sz (k : Nat) : (vZ k).sz = 30 + k := by unfold Ver.sz vZ; rw [zer_length]
theorem vZ_ok {k : Nat} (h : k ≤ 200) : (vZ k).ok := by
  refine decide_eq_true ⟨show 1 ≤ 1099511627776 by decide, show 1 ≤ 1099511627776 by decide, show 0 ≤ 1099511627776 by decide, show vnB (-1) (-1) = true by decide, ?_⟩
  show (zer k).length ≤ 200
  rw [zer_length]; exact h
theorem made_zer (k : Nat) : madeCells #[.int .u8 0] k = (bcells (zer k)).toArray := by
  unfold madeCells bcells zer
  apply Array.toList_inj.1
  simp [Nat.mod_one, List.map_const']
theorem made_row (w : World) (k base : Nat) (h : k ≤ 200) (hb : base ≤ w.heap.size) : (w.alloc (.cells (bcells (zer k)).toArray 5)).ownsRow base 5 1 (.slice (some ⟨w.heap.size, 0, none⟩) k k) k (bcells (zer k)) := by
  refine ⟨by rw [bcells_length, zer_length, Nat.mul_one], .inr ⟨w.heap.size, k, _, rfl, hb, heap_alloc_new w _, Nat.le_refl _, by unfold maxLen; omega, ?_, ?_⟩⟩
  · rw [List.size_toArray, bcells_length, zer_length, Nat.mul_one]
  · show (bcells (zer k)).take (k * 1) = _
    exact List.take_of_length_le (by rw [bcells_length, zer_length]; omega)
/-- What the statement leaves: a version of k noughts, at block b. -/
def Left (w : World) (k : Nat) (s6 : Value) (wx : World) : Prop := ∃ b : Nat, ∃ a : Nat, s6 = .pointer (some ⟨b, 0, none⟩) ∧ Bx wx b 33 [.int .u64 1, .int .u64 1, .int .u64 0, .int .i64 (-1), .int .i64 (-1), .slice (some ⟨a, 0, none⟩) k k] ∧ wx.ownsRow w.heap.size 5 1 (.slice (some ⟨a, 0, none⟩) k k) k (bcells (zer k)) ∧ Below w.heap.size w wx ∧ w.heap.size ≤ b
section
variable {w w1 w4 : World} {k : Nat}
theorem sets_bx {b a : Nat} (h : Bx w4 b 33 [.int .u64 0, .int .u64 0, .int .u64 0, .int .i64 0, .int .i64 0, .slice none 0 0]) : Bx (((((((w4).setCell ⟨b, 0, none⟩ (.int .u64 1)).setCell ⟨b, 1, none⟩ (.int .u64 1)).setCell ⟨b, 2, none⟩ (.int .u64 0)).setCell ⟨b, 3, none⟩ (.int .i64 (-1))).setCell ⟨b, 4, none⟩ (.int .i64 (-1))).setCell ⟨b, 5, none⟩ (.slice (some ⟨a, 0, none⟩) k k)) b 33 [.int .u64 1, .int .u64 1, .int .u64 0, .int .i64 (-1), .int .i64 (-1), .slice (some ⟨a, 0, none⟩) k k] :=
  ((((((h.set 0 (.int .u64 1)).set 1 (.int .u64 1)).set 2 (.int .u64 0)).set 3 (.int .i64 (-1))).set 4 (.int .i64 (-1))).set 5 (.slice (some ⟨a, 0, none⟩) k k))
theorem left1 (hk : k ≤ 200) (h : Below w.heap.size w w4) : Left w k (.pointer (some ⟨w4.heap.size + 1, 0, none⟩)) ((w4.alloc (.cells (bcells (zer k)).toArray 5)).alloc (.cells #[.int .u64 1, .int .u64 1, .int .u64 0, .int .i64 (-1), .int .i64 (-1), .slice (some ⟨w4.heap.size, 0, none⟩) k k] 33)) := by
  have z : (w4.alloc (.cells (bcells (zer k)).toArray 5)).heap.size = w4.heap.size + 1 := by simp
  refine ⟨w4.heap.size + 1, w4.heap.size, rfl, ?_, World.ownsRow.alloc (made_row w4 k _ hk h.size) _, (h.al _).al _, by have := h.size; omega⟩
  have := Bx.new (w4.alloc (.cells (bcells (zer k)).toArray 5)) 33 _ _ (show (#[.int .u64 1, .int .u64 1, .int .u64 0, .int .i64 (-1), .int .i64 (-1), .slice (some ⟨w4.heap.size, 0, none⟩) k k] : Array Value) = List.toArray _ from rfl)
  rwa [z] at this
theorem left2 (hk : k ≤ 200) (h : Below w.heap.size w w4) : Left w k (.pointer (some ⟨w4.heap.size, 0, none⟩)) ((w4.alloc (.cells #[.int .u64 1, .int .u64 1, .int .u64 0, .int .i64 (-1), .int .i64 (-1), .slice (some ⟨w4.heap.size + 1, 0, none⟩) k k] 33)).alloc (.cells (bcells (zer k)).toArray 5)) := by
  have z : (w4.alloc (.cells #[.int .u64 1, .int .u64 1, .int .u64 0, .int .i64 (-1), .int .i64 (-1), .slice (some ⟨w4.heap.size + 1, 0, none⟩) k k] 33)).heap.size = w4.heap.size + 1 := by simp
  refine ⟨w4.heap.size, w4.heap.size + 1, rfl, ?_, ?_, (h.al _).al _, h.size⟩
  · exact Bx.kept (Bx.new w4 33 _ _ rfl) (World.grownBy_alloc _ _ none) (by simp)
  · have := made_row (w4.alloc (.cells #[.int .u64 1, .int .u64 1, .int .u64 0, .int .i64 (-1), .int .i64 (-1), .slice (some ⟨w4.heap.size + 1, 0, none⟩) k k] 33)) k w.heap.size hk (by rw [z]; have := h.size; omega)
    rwa [z] at this
theorem left3 (hk : k ≤ 200) (h1 : Below w.heap.size w w1) (h : Below (w1.heap.size + 1) (w1.drew.alloc (.cells (bcells (zer k)).toArray 5)) w4) : Left w k (.pointer (some ⟨w4.heap.size, 0, none⟩)) (w4.alloc (.cells #[.int .u64 1, .int .u64 1, .int .u64 0, .int .i64 (-1), .int .i64 (-1), .slice (some ⟨w1.heap.size, 0, none⟩) k k] 33)) := by
  have z : (w1.drew.alloc (.cells (bcells (zer k)).toArray 5)).heap.size = w1.heap.size + 1 := by simp
  have hb : Below (w1.drew.alloc (.cells (bcells (zer k)).toArray 5)).heap.size (w1.drew.alloc (.cells (bcells (zer k)).toArray 5)) w4 := by rw [z]; exact h
  have hw : Below w.heap.size w w4 := (h1.drew.al _).next hb
  exact ⟨w4.heap.size, w1.heap.size, rfl, Bx.new w4 33 _ _ rfl, World.ownsRow.alloc (own_below (made_row w1.drew k _ hk h1.size) hb) _, hw.al _, hw.size⟩
theorem left4 (hk : k ≤ 200) (h1 : Below w.heap.size w w1) (h : Below (w1.heap.size + 1 + 1) ((w1.drew.alloc (.cells (bcells (zer k)).toArray 5)).alloc (.cells #[.int .u64 0, .int .u64 0, .int .u64 0, .int .i64 0, .int .i64 0, .slice none 0 0] 33)) w4) : Left w k (.pointer (some ⟨w1.heap.size + 1, 0, none⟩)) (((((((w4).setCell ⟨w1.heap.size + 1, 0, none⟩ (.int .u64 1)).setCell ⟨w1.heap.size + 1, 1, none⟩ (.int .u64 1)).setCell ⟨w1.heap.size + 1, 2, none⟩ (.int .u64 0)).setCell ⟨w1.heap.size + 1, 3, none⟩ (.int .i64 (-1))).setCell ⟨w1.heap.size + 1, 4, none⟩ (.int .i64 (-1))).setCell ⟨w1.heap.size + 1, 5, none⟩ (.slice (some ⟨w1.heap.size, 0, none⟩) k k)) := by
  have z : ((w1.drew.alloc (.cells (bcells (zer k)).toArray 5)).alloc (.cells #[.int .u64 0, .int .u64 0, .int .u64 0, .int .i64 0, .int .i64 0, .slice none 0 0] 33)).heap.size = w1.heap.size + 1 + 1 := by simp
  have z1 : (w1.drew.alloc (.cells (bcells (zer k)).toArray 5)).heap.size = w1.heap.size + 1 := by simp
  have hb : Below ((w1.drew.alloc (.cells (bcells (zer k)).toArray 5)).alloc (.cells #[.int .u64 0, .int .u64 0, .int .u64 0, .int .i64 0, .int .i64 0, .slice none 0 0] 33)).heap.size ((w1.drew.alloc (.cells (bcells (zer k)).toArray 5)).alloc (.cells #[.int .u64 0, .int .u64 0, .int .u64 0, .int .i64 0, .int .i64 0, .slice none 0 0] 33)) w4 := by rw [z]; exact h
  have hw : Below w.heap.size w w4 := ((h1.drew.al _).al _).next hb
  have b0 := Bx.new (w1.drew.alloc (.cells (bcells (zer k)).toArray 5)) 33 _ _ (show (#[.int .u64 0, .int .u64 0, .int .u64 0, .int .i64 0, .int .i64 0, .slice none 0 0] : Array Value) = List.toArray _ from rfl)
  rw [z1] at b0
  have hs := h1.size
  have o0 := own_below (World.ownsRow.alloc (made_row w1.drew k w.heap.size hk h1.size) (.cells #[.int .u64 0, .int .u64 0, .int .u64 0, .int .i64 0, .int .i64 0, .slice none 0 0] 33)) hb
  exact ⟨w1.heap.size + 1, w1.heap.size, rfl, sets_bx (b0.kept (grown_of_below hb none) (by simp)), o0.kept (grown_six (World.grownBy.refl _ _) rfl) (.inr (by show some w1.heap.size ≠ _; simp)), below_six hw (by omega), by omega⟩
theorem left5 (hk : k ≤ 200) (h1 : Below w.heap.size w w1) (h : Below (w1.heap.size + 1) (w1.drew.alloc (.cells #[.int .u64 0, .int .u64 0, .int .u64 0, .int .i64 0, .int .i64 0, .slice none 0 0] 33)) w4) : Left w k (.pointer (some ⟨w1.heap.size, 0, none⟩)) ((((((((w4).setCell ⟨w1.heap.size, 0, none⟩ (.int .u64 1)).setCell ⟨w1.heap.size, 1, none⟩ (.int .u64 1)).setCell ⟨w1.heap.size, 2, none⟩ (.int .u64 0)).setCell ⟨w1.heap.size, 3, none⟩ (.int .i64 (-1))).setCell ⟨w1.heap.size, 4, none⟩ (.int .i64 (-1))).setCell ⟨w1.heap.size, 5, none⟩ (.slice (some ⟨w4.heap.size, 0, none⟩) k k)).alloc (.cells (bcells (zer k)).toArray 5)) := by
  have z : (w1.drew.alloc (.cells #[.int .u64 0, .int .u64 0, .int .u64 0, .int .i64 0, .int .i64 0, .slice none 0 0] 33)).heap.size = w1.heap.size + 1 := by simp
  have hb : Below (w1.drew.alloc (.cells #[.int .u64 0, .int .u64 0, .int .u64 0, .int .i64 0, .int .i64 0, .slice none 0 0] 33)).heap.size (w1.drew.alloc (.cells #[.int .u64 0, .int .u64 0, .int .u64 0, .int .i64 0, .int .i64 0, .slice none 0 0] 33)) w4 := by rw [z]; exact h
  have hw : Below w.heap.size w w4 := (h1.drew.al _).next hb
  have hs := h1.size
  have hs4 := hw.size
  have b0 := Bx.new w1.drew 33 _ _ (show (#[.int .u64 0, .int .u64 0, .int .u64 0, .int .i64 0, .int .i64 0, .slice none 0 0] : Array Value) = List.toArray _ from rfl)
  have zs : (((((((w4).setCell ⟨w1.heap.size, 0, none⟩ (.int .u64 1)).setCell ⟨w1.heap.size, 1, none⟩ (.int .u64 1)).setCell ⟨w1.heap.size, 2, none⟩ (.int .u64 0)).setCell ⟨w1.heap.size, 3, none⟩ (.int .i64 (-1))).setCell ⟨w1.heap.size, 4, none⟩ (.int .i64 (-1))).setCell ⟨w1.heap.size, 5, none⟩ (.slice (some ⟨w4.heap.size, 0, none⟩) k k)).heap.size = w4.heap.size := by simp [World.setCell]
  have m := made_row (((((((w4).setCell ⟨w1.heap.size, 0, none⟩ (.int .u64 1)).setCell ⟨w1.heap.size, 1, none⟩ (.int .u64 1)).setCell ⟨w1.heap.size, 2, none⟩ (.int .u64 0)).setCell ⟨w1.heap.size, 3, none⟩ (.int .i64 (-1))).setCell ⟨w1.heap.size, 4, none⟩ (.int .i64 (-1))).setCell ⟨w1.heap.size, 5, none⟩ (.slice (some ⟨w4.heap.size, 0, none⟩) k k)) k w.heap.size hk (by rw [zs]; exact hs4)
  rw [zs] at m
  exact ⟨w1.heap.size, w4.heap.size, rfl, Bx.kept (sets_bx (b0.kept (grown_of_below hb none) (by simp))) (World.grownBy_alloc _ _ none) (by simp), m, (below_six hw (by omega)).al _, by omega⟩
theorem left6 (hk : k ≤ 200) (h1 : Below w.heap.size w w1) (h : Below (w1.heap.size + 1 + 1) ((w1.drew.alloc (.cells #[.int .u64 0, .int .u64 0, .int .u64 0, .int .i64 0, .int .i64 0, .slice none 0 0] 33)).alloc (.cells (bcells (zer k)).toArray 5)) w4) : Left w k (.pointer (some ⟨w1.heap.size, 0, none⟩)) (((((((w4).setCell ⟨w1.heap.size, 0, none⟩ (.int .u64 1)).setCell ⟨w1.heap.size, 1, none⟩ (.int .u64 1)).setCell ⟨w1.heap.size, 2, none⟩ (.int .u64 0)).setCell ⟨w1.heap.size, 3, none⟩ (.int .i64 (-1))).setCell ⟨w1.heap.size, 4, none⟩ (.int .i64 (-1))).setCell ⟨w1.heap.size, 5, none⟩ (.slice (some ⟨w1.heap.size + 1, 0, none⟩) k k)) := by
  have z : ((w1.drew.alloc (.cells #[.int .u64 0, .int .u64 0, .int .u64 0, .int .i64 0, .int .i64 0, .slice none 0 0] 33)).alloc (.cells (bcells (zer k)).toArray 5)).heap.size = w1.heap.size + 1 + 1 := by simp
  have z1 : (w1.drew.alloc (.cells #[.int .u64 0, .int .u64 0, .int .u64 0, .int .i64 0, .int .i64 0, .slice none 0 0] 33)).heap.size = w1.heap.size + 1 := by simp
  have hb : Below ((w1.drew.alloc (.cells #[.int .u64 0, .int .u64 0, .int .u64 0, .int .i64 0, .int .i64 0, .slice none 0 0] 33)).alloc (.cells (bcells (zer k)).toArray 5)).heap.size ((w1.drew.alloc (.cells #[.int .u64 0, .int .u64 0, .int .u64 0, .int .i64 0, .int .i64 0, .slice none 0 0] 33)).alloc (.cells (bcells (zer k)).toArray 5)) w4 := by rw [z]; exact h
  have hw : Below w.heap.size w w4 := ((h1.drew.al _).al _).next hb
  have hs := h1.size
  have b0 := Bx.kept (Bx.new w1.drew 33 _ _ (show (#[.int .u64 0, .int .u64 0, .int .u64 0, .int .i64 0, .int .i64 0, .slice none 0 0] : Array Value) = List.toArray _ from rfl)) (World.grownBy_alloc _ (.cells (bcells (zer k)).toArray 5) none) (by simp)
  have m := made_row (w1.drew.alloc (.cells #[.int .u64 0, .int .u64 0, .int .u64 0, .int .i64 0, .int .i64 0, .slice none 0 0] 33)) k w.heap.size hk (by rw [z1]; omega)
  rw [z1] at m
  exact ⟨w1.heap.size, w1.heap.size + 1, rfl, sets_bx (b0.kept (grown_of_below hb none) (by simp)), (own_below m hb).kept (grown_six (World.grownBy.refl _ _) rfl) (.inr (by show some (w1.heap.size + 1) ≠ _; simp)), below_six hw (by omega), by omega⟩
end
set_option maxRecDepth 100000 in
set_option maxHeartbeats 1000000 in
theorem walk (u : Int) (A : Option Addr) (c : Nat) (fs : List UInt8) (w : World) (hu : 0 ≤ u ∧ u < 256) (ha : Brd w A fs) :
    Calls Try.prog 5 #[.int .u8 u, .slice A fs.length c] w fun e w' => e = .returned (.bool true) ∧ Below w.heap.size w w' := by
  obtain ⟨k, hk⟩ : ∃ k : Nat, u % 201 = (k : Int) := ⟨(u % 201).toNat, by omega⟩
  have hk2 : k ≤ 200 := by omega
  obtain ⟨hu1, hu2⟩ := hu
  have hmk := fun W => run_make_row' (P := Try.prog) 31 5 (.int .u8 0) 1 Try.underlying31 info_u8 rfl .i64 .i64 k (by omega) (by omega) W
  rw [made_zer] at hmk
  go_enter Try.func5, Try.ntmps5
  go_wp2_with fail
  refine (awake5_any w).mono ?_
  rintro e w1 ⟨rfl, hb1⟩
  go_upto_region 4 with fail
  simp only [hk]
  go_cut [6] (fun s6 wx => Left w k s6 wx)
  case first =>
    have hS1 : Below w1.heap.size w1 w1 := Below.refl _ _
    go_region_held3 (fun w' => Below w1.heap.size w1 w') (((repeat (first | (with_reducible assumption) | (with_reducible refine Below.drew ?_) | (with_reducible refine below_al ?_) | (refine below_six ?_ (by first | omega | (simp; omega))))); done))
      ((go_at_call 32; (with_reducible refine (nowhere_any _).mono ?_); rintro e w4 ⟨rfl, hb4⟩; obtain ⟨hc4, hf4⟩ := bcell hb4; have hS4 : Below w1.heap.size w1 w4 := Below.next (by assumption) hb4; have hz4 := hb4.size; (try simp at hz4); try have hlt4 : w1.heap.size < w4.heap.size := by omega))
    all_goals (go_wp2_with fail; go_meet)
    · exact left1 hk2 (hb1.drew.next hb4)
    · exact left2 hk2 (hb1.drew.next hb4)
    · exact left3 hk2 hb1 (by have h := hb4; simp at h; exact h)
    · exact left4 hk2 hb1 (by have h := hb4; simp at h; exact h)
    · exact left5 hk2 hb1 (by have h := hb4; simp at h; exact h)
    · exact left6 hk2 hb1 (by have h := hb4; simp at h; exact h)
  case rest =>
    obtain ⟨b, a, rfl, hbx, ho, hx, hbb⟩ := hcut
    have hal := (own_lt_addr ho) ⟨a, 0, none⟩ rfl
    go_wp2_with fail
    refine (pnewE_any wc).mono ?_
    rintro e w3 ⟨rfl, hp3, hb3⟩
    have hb' := hbx.kept (grown_of_below hb3 none) (by simp)
    have ho' := own_below ho hb3
    have hx' := Below.next hx hb3
    have hbg : b < wc.heap.size := hbx.lt
    have hag : a ≠ wc.heap.size := by have h2 : a < wc.heap.size := hal.2; omega
    have hwg : w.heap.size ≤ wc.heap.size := hx.size
    have hINS : ∀ (W : World) (PP : Pg), Pge W wc.heap.size PP → W.ownsRow w.heap.size 5 1 (.slice (some ⟨a, 0, none⟩) k k) k (bcells (zer k)) →
        Calls Try.prog 33 #[.pointer (some ⟨wc.heap.size, 0, none⟩), .agg #[.int .u64 1, .int .u64 1, .int .u64 0, .int .i64 (-1), .int .i64 (-1), .slice (some ⟨a, 0, none⟩) k k]] W fun e w' => e = .returned (.tuple #[.int .i64 (insS PP (vZ k)), .int .i64 (insE PP (vZ k))]) ∧ Pge w' wc.heap.size (insN PP (vZ k)) ∧ W.grownBy w' (some wc.heap.size) := fun W PP h1 h2 => by
      have e1 : (vZ k).d.length = k := zer_length k
      have := insE_any W wc.heap.size PP (vZ k) (some ⟨a, 0, none⟩) k h1 (by rw [e1]; exact Rd.of_own h2) (fun ad e => by injection e with e; rw [← e]; exact hag)
      rw [e1] at this
      exact this
    have HINS := Lib.hid hINS
    have hok := vZ_ok hk2
    have hsz := vZ_sz k
    generalize wc.heap.size = g at *
    clear hbx ho hx hb3 hINS hb1 hmk hal
    go_wp2_with fail
    go_loopw [8, 9, 10, 27] (fun n _ _ i wr => ∃ (j : Nat) (P : Pg), j * (34 + k) ≤ 508 ∧ i = .int .i64 (j : Int) ∧ n = .int .i64 (j : Int) ∧ Pge wr g P ∧ Ful P (vZ k) j ∧ Bx wr b 33 [.int .u64 1, .int .u64 1, .int .u64 0, .int .i64 (-1), .int .i64 (-1), .slice (some ⟨a, 0, none⟩) k k] ∧ wr.ownsRow w.heap.size 5 1 (.slice (some ⟨a, 0, none⟩) k k) k (bcells (zer k)) ∧ Below w.heap.size w wr) (fun _ _ _ i _ => 20 - (intOf i).toNat)
    case atStart => exact ⟨0, Pg0, by omega, rfl, rfl, hp3, ful0 _, hb', ho', hx'⟩
    case round =>
      obtain ⟨j, P, hj, rfl, rfl, hp, hful, hbr, hor, hxr⟩ := hrel
      clear hb' ho' hx' hp3
      have hj34 : j * 34 ≤ j * (34 + k) := Nat.mul_le_mul_left _ (by omega)
      have hj508 : j * 34 ≤ 508 := Nat.le_trans hj34 hj
      have hj20 : (j : Int) < 20 := by omega
      clear hj34 hj508
      have hi := HINS.out wr P hp hor
      have k0 := hbr.cell 0
      have k1 := hbr.cell 1
      have k2 := hbr.cell 2
      have k3 := hbr.cell 3
      have k4 := hbr.cell 4
      have k5 := hbr.cell 5
      have e34 : 4 + (vZ k).sz = 34 + k := by rw [hsz]; omega
      by_cases hfit : (j + 1) * (34 + k) ≤ 508
      · have hE := hful.insE_ok hok (by rw [e34]; exact hfit)
        have hN : insN P (vZ k) = insP P (vZ k) := by unfold insN; rw [if_pos hE]
        rw [hE, hN] at hi
        have HI := Lib.hid hi
        have hadd := hful.add
        generalize insP P (vZ k) = P' at *
        generalize insS P (vZ k) = s at *
        clear hi hE hN e34 hp hful hj hsz
        go_wp2_with fail
        refine HI.out.mono ?_
        rintro e w4 ⟨rfl, h4, g4⟩
        have b4 := hbr.kept g4 (fun e => by injection e with e; omega)
        have o4 := hor.kept g4 (.inr (by intro e; injection e with e; exact hag e))
        have x4 := hxr.trans (below_of_grown g4 hwg hxr.size)
        clear k0 k1 k2 k3 k4 k5
        go_wp2
        go_roundw
        case rel => exact ⟨j + 1, P', hfit, by go_num, by go_num, h4, hadd, b4, o4, x4⟩
        case measure => simp [intOf]; omega
      · have hE := hful.insE_full hok (by rw [e34]; omega)
        have hN : insN P (vZ k) = P := by unfold insN; rw [if_neg (by rw [hE]; decide)]
        rw [hE, hN] at hi
        have HI := Lib.hid hi
        have hq : ((j : Int) != 508 / (34 + (k : Int))) = false := by
          have e1 : (508 : Int) / (34 + (k : Int)) = ((508 / (34 + k) : Nat) : Int) := by rw [Int.natCast_ediv]; rfl
          have e2 : 508 / (34 + k) = j := by
            rw [Nat.div_eq_iff (by omega)]
            have e3 : (j + 1) * (34 + k) = j * (34 + k) + (34 + k) := by rw [Nat.add_mul, Nat.one_mul]
            omega
          rw [e1, e2]
          simp
        have hj1 : 1 ≤ j := by
          rcases Nat.eq_zero_or_pos j with h0 | h0
          · subst h0; omega
          · exact h0
        generalize insS P (vZ k) = s at *
        clear hi hE hN hsz hp
        go_wp2_with fail
        refine HI.out.mono ?_
        rintro e w4 ⟨rfl, h4, g4⟩
        have b4 := hbr.kept g4 (fun e => by injection e with e; omega)
        have o4 := hor.kept g4 (.inr (by intro e; injection e with e; exact hag e))
        have x4 := hxr.trans (below_of_grown g4 hwg hxr.size)
        have ha4 := Rd.below ha x4
        have har0 := Lib.hid (fun W (hW : Below w.heap.size w W) => Rd.below ha hW)
        clear k0 k1 k2 k3 k4 k5 hbr hor HI hxr ha
        go_wp2
        go_loopw [47] (fun i wq => ∃ (q : Nat) (P' : Pg), q ≤ fs.length ∧ i = .int .i64 (q : Int) ∧ Pge wq g P' ∧ Ful P' (vZ k) j ∧ Bx wq b 33 [.int .u64 1, .int .u64 1, .int .u64 0, .int .i64 (-1), .int .i64 (-1), .slice (some ⟨a, 0, none⟩) k k] ∧ wq.ownsRow w.heap.size 5 1 (.slice (some ⟨a, 0, none⟩) k k) k (bcells (zer k)) ∧ Below w.heap.size w wq ∧ Brd wq A fs) (fun i _ => fs.length - (intOf i).toNat)
        case atStart => exact ⟨0, P, Nat.zero_le _, rfl, h4, hful, b4, o4, x4, ha4⟩
        case round =>
          obtain ⟨q, P', hq1, rfl, hp, hful', hbr, hor, hxr, har⟩ := hrel
          clear h4 hful b4 o4 x4 ha4 g4
          have husd := usedE_any _ g P' hp
          rw [hful'.used] at husd
          have HUS := Lib.hid husd
          clear husd
          by_cases hlt : q < fs.length
          · obtain ⟨ad, rfl, hcell⟩ := har.at_ (k := q) hlt
            clear har
            have hb8 := (fs[q]'hlt).toNat_lt
            generalize (fs[q]'hlt).toNat = f at *
            by_cases h12 : q < 12
            · skip
              have hfm : f % j < j := Nat.mod_lt _ (by omega)
              have hmod : (f : Int) % (j : Int) = ((f % j : Nat) : Int) := by omega
              generalize f % j = z at *
              have hre := hful'.refill hfm hok (by rw [e34]; exact hj)
              obtain ⟨e1, e2, e3, e4⟩ := hre
              have hfr := freE_any _ g P' (z : Int) hp
              rw [e1] at hfr
              have HFR := Lib.hid hfr
              have hE2 := e4.insE_full hok (by rw [e34]; omega)
              generalize freN P' (z : Int) = Q1 at *
              obtain ⟨Q2, hQ2⟩ : ∃ Q, Q = insN Q1 (vZ k) := ⟨_, rfl⟩
              rw [← hQ2] at e4 hE2
              have HQ2 := Lib.hid hQ2
              clear hQ2
              have hN2 : insN Q2 (vZ k) = Q2 := by unfold insN; rw [if_neg (by rw [hE2]; decide)]
              clear hfr e1 hp hful' HUS
              go_wp2_with fail
              refine HFR.out.mono ?_
              rintro e w5 ⟨rfl, h5, g5⟩
              have b5 := hbr.kept g5 (fun e => by injection e with e; omega)
              have o5 := hor.kept g5 (.inr (by intro e; injection e with e; exact hag e))
              have x5 := hxr.trans (below_of_grown g5 hwg hxr.size)
              have hi5 := HINS.out w5 Q1 h5 o5
              rw [e2, e3] at hi5
              have HI5 := Lib.hid hi5
              clear hi5 e2 e3 h5 g5 hbr hor hxr HFR
              have k0 := b5.cell 0
              have k1 := b5.cell 1
              have k2 := b5.cell 2
              have k3 := b5.cell 3
              have k4 := b5.cell 4
              have k5 := b5.cell 5
              go_wp2_with fail
              refine HI5.out.mono ?_
              rintro e w6 ⟨rfl, h6, g6⟩
              have b6 := b5.kept g6 (fun e => by injection e with e; omega)
              have o6 := o5.kept g6 (.inr (by intro e; injection e with e; exact hag e))
              have x6 := x5.trans (below_of_grown g6 hwg x5.size)
              rw [← HQ2.out] at h6
              have hi6 := HINS.out w6 Q2 h6 o6
              rw [hE2, hN2] at hi6
              have HI6 := Lib.hid hi6
              clear hi6 hE2 hN2 h6 g6 b5 o5 x5 HI5 k0 k1 k2 k3 k4 k5
              have k0 := b6.cell 0
              have k1 := b6.cell 1
              have k2 := b6.cell 2
              have k3 := b6.cell 3
              have k4 := b6.cell 4
              have k5 := b6.cell 5
              generalize insS Q2 (vZ k) = s2 at *
              go_wp2_with fail
              refine HI6.out.mono ?_
              rintro e w7 ⟨rfl, h7, g7⟩
              have b7 := b6.kept g7 (fun e => by injection e with e; omega)
              have o7 := o6.kept g7 (.inr (by intro e; injection e with e; exact hag e))
              have x7 := x6.trans (below_of_grown g7 hwg x6.size)
              have a7 := har0.out w7 x7
              clear k0 k1 k2 k3 k4 k5 b6 o6 x6 g7 hcell
              go_wp2
              go_roundw
              case rel => exact ⟨q + 1, Q2, by omega, by go_num, h7, e4, b7, o7, x7, a7⟩
              case measure => simp [intOf]; omega
            · clear hp
              go_wp2_with (go_at_call 22; (with_reducible refine (HUS.out).mono ?_); rintro e w5 ⟨rfl, hw1⟩; have hw := hw1.symm; subst hw)
              go_ret
              exact ⟨rfl, hxr⟩
          · obtain rfl : q = fs.length := by omega
            clear hp har
            go_wp2_with (go_at_call 22; (with_reducible refine (HUS.out).mono ?_); rintro e w5 ⟨rfl, hw1⟩; have hw := hw1.symm; subst hw)
            go_ret
            exact ⟨rfl, hxr⟩
end Go.Proofs.Ytdbkmmkmfbjkbaa.pageFills
