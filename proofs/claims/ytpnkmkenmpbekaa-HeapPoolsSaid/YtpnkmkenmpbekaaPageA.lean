/-
  Pages in memory: a page's 512 bytes; number, setNumber.
-/
import Derived.Test.YtpnkmkenmpbekaaPageP
import Derived.Test.YtpnkmkenmpbekaaByt
import Derived.Test.YtpnkmkenmpbekaaNum
import Derived.Test.YtpnkmkenmpbekaaProg
import Derived.Lib.Hide
import Derived.OwnWalk
import Derived.Maps.Range
import Derived.WalkLawsBesides
import Derived.StillTailTactics
import Derived.Outline
namespace Go.Proofs.Ytpnkmkenmpbekaa
open Go.RowKit

def pcells (f : Nat → UInt8) : List Value := (List.range 512).map fun i => .int .u8 ((f i).toNat : Int)
theorem pcells_length (f : Nat → UInt8) : (pcells f).length = 512 := by simp [pcells]
theorem pcells_get (f : Nat → UInt8) {i : Nat} (h : i < 512) : (pcells f)[i]? = some (.int .u8 ((f i).toNat : Int)) := by
  unfold pcells; rw [List.getElem?_map, List.getElem?_range h]; rfl
theorem pcells_eq {l : List Value} {f : Nat → UInt8} (hl : l.length = 512) (h : ∀ i, i < 512 → l[i]? = some (.int .u8 ((f i).toNat : Int))) : l = pcells f := by
  apply List.ext_getElem?
  intro i
  by_cases hi : i < 512
  · rw [h i hi, pcells_get f hi]
  · rw [List.getElem?_eq_none (by omega), List.getElem?_eq_none (by rw [pcells_length]; omega)]
theorem pcells_set (f : Nat → UInt8) (k : Nat) (b : UInt8) : (pcells f).set k (.int .u8 (b.toNat : Int)) = pcells (upd f k b) := by
  refine pcells_eq (by rw [List.length_set, pcells_length]) fun i hi => ?_
  by_cases e : i = k
  · subst e
    rw [List.getElem?_set_self (by rw [pcells_length]; exact hi), upd_same]
  · rw [List.getElem?_set_ne (fun h => e h.symm), pcells_get f hi, upd_other e]
theorem pcells_congr {f g : Nat → UInt8} (h : ∀ i, i < 512 → f i = g i) : pcells f = pcells g :=
  pcells_eq (pcells_length f) fun i hi => by rw [pcells_get f hi, h i hi]
/-- Block g is a page of these bytes. -/
def Pgm (w : World) (g : Nat) (f : Nat → UInt8) : Prop := w.heap[g]? = some (.cells (pcells f).toArray 123 (0, 0))
section
variable {w w' : World} {g : Nat} {f : Nat → UInt8}
theorem Pgm.lt (h : Pgm w g f) : g < w.heap.size := (Array.getElem?_eq_some_iff.1 h).1
theorem Pgm.cell (h : Pgm w g f) {i : Nat} (hi : i < 512) : w.cell? ⟨g, i, none⟩ = some (.int .u8 ((f i).toNat : Int)) := by
  rw [cell_of_row w g i _ _ _ h]; simpa using pcells_get f hi
theorem Pgm.frozen (h : Pgm w g f) (i : Nat) : w.frozen? ⟨g, i, none⟩ = false := frozen_of_row w g i _ _ h
theorem Pgm.drew (h : Pgm w g f) : Pgm w.drew g f := h
theorem Pgm.drewN (h : Pgm w g f) (n : Nat) : Pgm (w.drewN n) g f := h
theorem Pgm.set (h : Pgm w g f) (i : Nat) (b : UInt8) : Pgm (w.setCell ⟨g, i, none⟩ (.int .u8 (b.toNat : Int))) g (upd f i b) := by
  have := heap_setCell_same w g i _ _ (.int .u8 (b.toNat : Int)) h
  unfold Pgm
  rw [← pcells_set]
  simpa using this
theorem Pgm.congr (h : Pgm w g f) {f' : Nat → UInt8} (he : ∀ i, i < 512 → f i = f' i) : Pgm w g f' := by
  unfold Pgm; rw [← pcells_congr he]; exact h
theorem Pgm.kept (h : Pgm w g f) {row : Option Nat} (hg : w.grownBy w' row) (hne : row ≠ some g) : Pgm w' g f :=
  (hg.block g h.lt (fun e => hne e.symm)).trans h
theorem Pgm.below (h : Pgm w g f) (hb : Below w.heap.size w w') : Pgm w' g f := (hb.block g h.lt).trans h
theorem Pgm.alloc (h : Pgm w g f) (o : Obj) : Pgm (w.alloc o) g f := (Below.heap_alloc w o g h.lt).trans h
theorem grown_drew (w : World) (row : Option Nat) : w.grownBy w.drew row := ⟨rfl, rfl, rfl, Nat.le_refl _, fun _ _ _ => rfl⟩
theorem grown_set (w : World) (g i : Nat) (v : Value) : w.grownBy (w.setCell ⟨g, i, none⟩ v) (some g) :=
  ⟨rfl, rfl, rfl, by simp [World.setCell], fun k _ hne => heap_setCell_other w ⟨g, i, none⟩ k v (fun e => hne (by rw [e]))⟩
theorem grown_tr {a b c : World} {row : Option Nat} (h : a.grownBy b row) (k : b.grownBy c row) : a.grownBy c row := h.andThen k fun _ hj => .inr hj
theorem grown_of_below {a b : World} (h : Below a.heap.size a b) (row : Option Nat) : a.grownBy b row := ⟨h.os, h.tape, h.output, h.size, fun k hk _ => h.block k hk⟩
theorem below_of_grown {a b : World} {B g : Nat} (h : a.grownBy b (some g)) (hg : B ≤ g) (hB : B ≤ a.heap.size) : Below B a b :=
  ⟨h.os, h.tape, h.output, h.size, fun k hk => h.block k (by omega) (fun e => by injection e with e; omega)⟩
end
theorem shr_byte {n j : Nat} : IntKind.u8.wrap ((n : Int) / 2 ^ (8 * j)) = ((dg n j).toNat : Int) := by
  have hw : ∀ i : Int, IntKind.u8.wrap i = i % 256 := fun _ => rfl
  rw [dg_toNat]
  have e : (2 : Int) ^ (8 * j) = ((256 ^ j : Nat) : Int) := by
    rw [show (256 : Nat) = 2 ^ 8 by decide, ← Nat.pow_mul, Int.natCast_pow]; rfl
  rw [hw, e]; omega

theorem arr_len : Try.prog.arrayLen 121 = 512 := by kernel_rfl
theorem arr_elem : Try.prog.elem 121 = 5 := by kernel_rfl
theorem arr_under : Try.prog.underlying 121 = some (.array (Try.prog.arrayLen 121) (Try.prog.elem 121)) := by kernel_rfl
theorem size_u8 (W : World) : (sizeOf 5).run Try.prog W = .ok 1 W := by kernel_rfl
/-- A cut of the page's array. -/
theorem sl_at (g a k : Nat) (ha : a + k ≤ 512) (hlt : a < 512) (W : World) : (Instr.sliceAt 121 (.pointer (some ⟨g, 0, none⟩)) (some (.int .i64 (a : Int))) (some (.int .i64 ((a : Int) + (k : Int)))) none).run Try.prog W = .ok (.slice (some ⟨g, a, none⟩) k (512 - a)) W := by
  rw [run_sliceAt_array_lh W _ _ arr_under _ _ _ _ (by omega) (by omega) (by rw [arr_len]; omega), arr_elem, size_u8, arr_len]
  have e1 : ((a : Int) + (k : Int)).toNat = a + k := by omega
  simp only [Result.andThen, slicedAt, Int.toNat_natCast, e1, Nat.mul_one]
  rw [if_neg (by omega), Addr.add_lit, Nat.zero_add, Nat.add_sub_cancel_left]
/-- A byte of the page's array. -/
theorem ix_at (g i : Nat) (hi : i < 512) (x : Int) (hx : x = (i : Int)) (W : World) : (Instr.indexAt 121 (.pointer (some ⟨g, 0, none⟩)) (.int .i64 x)).run Try.prog W = .ok (.pointer (some ⟨g, i, none⟩)) W := by
  subst hx
  rw [run_indexAt_array (h := arr_under), if_pos (by rw [arr_len]; omega), arr_elem, size_u8]
  simp [Result.andThen, Addr.add_lit]
set_option maxRecDepth 100000 in
set_option maxHeartbeats 1000000 in
theorem number_any (w : World) (g : Nat) (f : Nat → UInt8) (a k : Nat) (h : Pgm w g f) (hk : k ≤ 8) (ha : a + k ≤ 512) (hlt : a < 512) :
    Calls Try.prog 76 #[.pointer (some ⟨g, 0, none⟩), .int .i64 (a : Int), .int .i64 (k : Int)] w fun e w' => e = .returned (.int .u64 (le f a k : Int)) ∧ w' = w := by
  have hsl := sl_at g a k ha hlt
  go_enter Try.func76, Try.ntmps76
  go_wp2
  go_loop [7, 19] (fun u i => ∃ j : Nat, j ≤ k ∧ i = .int .i64 j ∧ u = .int .u64 ((le f a j : Nat) : Int)) (fun _ i => k - (intOf i).toNat)
  case atStart => exact ⟨0, by omega, rfl, rfl⟩
  case round =>
    obtain ⟨j, hj, rfl, rfl⟩ := hrel
    by_cases hlt : j < k
    · have hcell := h.cell (i := a + j) (by omega)
      have hF := Lib.hid (show le f a (j + 1) = le f a j + 256 ^ j * (f (a + j)).toNat from rfl)
      have hl := le_lt f a j
      have hb := (f (a + j)).toNat_lt
      have ho := or_high (show j < 8 by omega) hl hb
      have hs := shl_in (show j < 8 by omega) hb
      generalize le f a j = u at *
      generalize (f (a + j)).toNat = b at *
      go_wp2
      go_round
      case rel => exact ⟨j + 1, by omega, by go_num, by rw [hF.out]; simp⟩
      case measure => simp [intOf]; omega
    · obtain rfl : j = k := by omega
      go_wp2
      go_ret
      exact ⟨rfl, rfl⟩
set_option maxRecDepth 100000 in
set_option maxHeartbeats 1000000 in
theorem setNumber_any (w : World) (g : Nat) (f : Nat → UInt8) (a k n : Nat) (h : Pgm w g f) (hk : k ≤ 8) (ha : a + k ≤ 512) :
    Calls Try.prog 98 #[.pointer (some ⟨g, 0, none⟩), .int .i64 (a : Int), .int .i64 (k : Int), .int .u64 (n : Int)] w fun e w' => e = .returned (.tuple #[]) ∧ Pgm w' g (lay f a (leb n k)) ∧ w.grownBy w' (some g) ∧ w'.heap.size = w.heap.size := by
  go_enter Try.func98, Try.ntmps98
  go_wp2
  go_loopw [8, 10] (fun _ i wr => ∃ j : Nat, j ≤ k ∧ i = .int .i64 j ∧ Pgm wr g (lay f a (leb n j)) ∧ w.grownBy wr (some g) ∧ wr.heap.size = w.heap.size) (fun _ i _ => k - (intOf i).toNat)
  case atStart => exact ⟨0, by omega, rfl, by rw [show leb n 0 = [] from rfl, lay_nil]; exact h, World.grownBy.refl _ _, rfl⟩
  case round =>
    obtain ⟨j, hj, rfl, hp, hg, hz⟩ := hrel
    by_cases hlt : j < k
    · have hcell := hp.cell (i := a + j) (by omega)
      have hfr := hp.frozen (a + j)
      have hsb := shr_byte (n := n) (j := j)
      have hset := hp.set (a + j) (dg n j)
      rw [show a + j = a + (leb n j).length by rw [leb_length], lay_snoc, ← leb_succ, leb_length] at hset
      have hgs := grown_set wr g (a + j) (.int .u8 ((dg n j).toNat : Int))
      have hzs : (wr.setCell ⟨g, a + j, none⟩ (.int .u8 ((dg n j).toNat : Int))).heap.size = w.heap.size := by rw [← hz]; simp [World.setCell]
      have HS := Lib.hid hset
      have HG := Lib.hid hgs
      have HZ := Lib.hid hzs
      clear hset hgs hzs h
      generalize dg n j = b at *
      have hw1 : IntKind.i64.wrap ((a : Int) + (j : Int)) = (a : Int) + (j : Int) := IntWalk.i64_in _ (by omega)
      have hw2 : IntKind.i64.wrap (8 * (j : Int)) = 8 * (j : Int) := IntWalk.i64_in _ (by omega)
      have hw3 : (8 * (j : Int)).toNat = 8 * j := by omega
      have hw4 : (0 : Int) ≤ 8 * (j : Int) := by omega
      have hw5 : (0 : Int) ≤ (a : Int) + (j : Int) := by omega
      have hix := ix_at g (a + j) (by omega) ((a : Int) + (j : Int)) (by omega)
      go_wp2
      go_still_tail 12, (by kernel_rfl)
      go_wp2
      go_roundw
      case rel => exact ⟨j + 1, by omega, by go_num, HS.out, grown_tr hg (grown_tr HG.out (grown_drew _ _)), HZ.out⟩
      case measure => simp [intOf]; omega
    · obtain rfl : j = k := by omega
      go_wp2
      go_end0
      exact ⟨rfl, hp, hg, hz⟩
end Go.Proofs.Ytpnkmkenmpbekaa
