/-
  lapidarylaw05.awake: the document's example of a page holds: true; of what was there nothing has turned.
-/
import Derived.Test.YtpnkmkenmpbekaaRef5A
import Derived.Lib.SlBytesConst
namespace Go.Proofs.Ytpnkmkenmpbekaa
open Go.RowKit

theorem grown_six {w W : World} {row : Option Nat} {u0 u1 u2 u3 u4 u5 : Value} {b : Nat} (h : w.grownBy W row) (hr : row = some b) : w.grownBy ((((((W.setCell ⟨b, 0, none⟩ u0).setCell ⟨b, 1, none⟩ u1).setCell ⟨b, 2, none⟩ u2).setCell ⟨b, 3, none⟩ u3).setCell ⟨b, 4, none⟩ u4).setCell ⟨b, 5, none⟩ u5) row := by
  subst hr
  exact grown_tr (grown_tr (grown_tr (grown_tr (grown_tr (grown_tr h (grown_set _ _ _ _)) (grown_set _ _ _ _)) (grown_set _ _ _ _)) (grown_set _ _ _ _)) (grown_set _ _ _ _)) (grown_set _ _ _ _)
theorem own_lt_addr {w : World} {base : Nat} {e : TypeId} {size n c : Nat} {A : Option Addr} {xs : List Value} (h : w.ownsRow base e size (.slice A n c) n xs) : ∀ ad : Addr, A = some ad → base ≤ ad.block ∧ ad.block < w.heap.size := fun ad e => by
  subst e; exact h.lt _ rfl
theorem below_al {w W : World} {o : Obj} (h : Below w.heap.size w W) : Below w.heap.size w (W.alloc o) := h.alloc h.size o
def vA : Ver := ⟨1, 1, 0, -1, -1, [97]⟩
theorem aw1 : insE Pg0 vA = 0 := by decide
theorem aw2 : insS Pg0 vA = 0 := by decide
theorem aw3 : (insN Pg0 vA).room = 439 := by decide
theorem aw4 : freE (insN Pg0 vA) 0 = 0 := by decide
theorem aw5 : (freN (insN Pg0 vA) 0).L.length = 0 := by decide
theorem aw6 : (freN (insN Pg0 vA) 0).room = 474 := by decide
theorem aw0 : Pg0.room = 474 := by decide
theorem rd_litF {C : Array Value} {e : TypeId} {fr : Nat × Nat} {n : Nat} {cs : List Value} (w : World) (hc : C = cs.toArray) (hn : cs.length = n * 1 := by rfl) : Rd (w.alloc (.cells C e fr)) 1 (some ⟨w.heap.size, 0, none⟩) n cs := by
  subst hc
  refine ⟨hn, fun j u hu => ⟨_, rfl, ?_⟩⟩
  rw [Addr.add_lit, Nat.zero_add, cell_of_row _ _ j _ e fr (heap_alloc_new w _)]
  simpa using hu
theorem vA_ok : vA.ok := by decide
set_option maxRecDepth 100000 in
set_option maxHeartbeats 1000000 in
theorem awake5_any (w : World) : Calls Try.prog 18 #[] w fun e w' => e = .returned (.bool true) ∧ Below w.heap.size w w' := by
  have kc := fun (w : World) (C : Array Value) (n c : Nat) => Lib.run_convert_bytes_const (P := Try.prog) w 42 5 C n c Try.underlying42 Try.underlying5
  go_enter Try.func18, Try.ntmps18
  go_wp2_with fail
  refine (pnewE_any w).mono ?_
  rintro e w1 ⟨rfl, h1, hb1⟩
  have r0 := roomE_any w1 w.heap.size Pg0 h1
  rw [aw0] at r0
  have R0 := Lib.hid r0
  have H1 := Lib.hid h1
  clear r0 h1
  go_wp2_with (go_at_call 25; (with_reducible refine (R0.out).mono ?_); rintro e w2 ⟨rfl, hw1⟩; have hw := hw1.symm; subst hw)
  refine (nowhere_any w1).mono ?_
  rintro e w2 ⟨rfl, hb2⟩
  have H2 := Lib.hid (H1.out.below hb2)
  have hb02 := Below.next hb1 hb2
  have hgl := H2.out.lt
  go_wp2_with fail
  have hrd : Rd (w2.alloc (.cells #[.int .u8 97] 5 (1, 2))) 1 (some ⟨w2.heap.size, 0, none⟩) 1 (bcells [97]) := rd_litF (fr := (1, 2)) w2 rfl
  have hi : Calls Try.prog 39 #[.pointer (some ⟨w.heap.size, 0, none⟩), .agg #[.int .u64 1, .int .u64 1, .int .u64 0, .int .i64 (-1), .int .i64 (-1), .slice (some ⟨w2.heap.size, 0, none⟩) 1 1]] (w2.alloc (.cells #[.int .u8 97] 5 (1, 2))) _ :=
    insE_any (w2.alloc (.cells #[.int .u8 97] 5 (1, 2))) w.heap.size Pg0 vA (some ⟨w2.heap.size, 0, none⟩) 1 (H2.out.alloc _) hrd (fun ad e => by injection e with e; rw [← e]; exact Nat.ne_of_gt hgl)
  refine hi.mono ?_
  rintro e w3 ⟨he, h3, hg3⟩
  rw [aw1, aw2] at he
  subst he
  have hb3 : Below w.heap.size w w3 := (hb02.al (.cells #[.int .u8 97] 5 (1, 2))).trans (below_of_grown hg3 (Nat.le_refl _) (by simp; omega))
  have r3 := roomE_any w3 w.heap.size _ h3
  rw [aw3] at r3
  have f3 := freE_any w3 w.heap.size _ 0 h3
  rw [aw4] at f3
  have R3 := Lib.hid r3
  have F3 := Lib.hid f3
  clear r3 f3 h3 hi hrd
  go_wp2_with (first
    | (go_at_call 25; (with_reducible refine (R3.out).mono ?_); rintro e w2 ⟨rfl, hw1⟩; have hw := hw1.symm; subst hw))
  refine F3.out.mono ?_
  rintro e w4 ⟨rfl, h4, hg4⟩
  have hb4 := hb3.trans (below_of_grown hg4 (Nat.le_refl _) hb3.size)
  have s4 := slotsE_any w4 w.heap.size _ h4
  rw [aw5] at s4
  have r4 := roomE_any w4 w.heap.size _ h4
  rw [aw6] at r4
  have S4 := Lib.hid s4
  have R4 := Lib.hid r4
  clear s4 r4 h4
  go_wp2_with (first
    | (go_at_call 29; (with_reducible refine (S4.out).mono ?_); rintro e w2 ⟨rfl, hw1⟩; have hw := hw1.symm; subst hw)
    | (go_at_call 25; (with_reducible refine (R4.out).mono ?_); rintro e w2 ⟨rfl, hw1⟩; have hw := hw1.symm; subst hw))
  go_ret
  exact ⟨rfl, hb4⟩
end Go.Proofs.Ytpnkmkenmpbekaa
