/-
  What CalcReads' row gives: the library's table of powers of ten; and digits that are read again.
-/
import Derived.Test.YtcloajmcfacfnaaDoorRows
import Derived.Test.YtcloajmcfacfnaaDoorReadRefP
import Derived.Test.YtcloajmcfacfnaaDoorCellEnv
import Derived.Lib.LaidTab
import Derived.Stop.LaidErr
import Derived.MakeChecks
import Derived.ProofKit
namespace Go.Proofs.YtcloajmcfacfnaaDoor
open Go.ChangeShapes Go.WideShapes Go.ChangeAt Go.RowKit

structure PowEnv (w : World) : Prop where
  pow : Lib.TabIs Tryd.prog w "internal/strconv.uint64pow10" .u64 Lib.pow10Tab
  low : Tryd.prog.globals.size ≤ w.heap.size
theorem PowEnv.next {w w' : World} (h : PowEnv w) (hb : Below w.heap.size w w') : PowEnv w' := by
  have hl := h.low
  rw [gsize] at hl
  exact ⟨var?_below hb (show Tryd.prog.globalNamed "internal/strconv.uint64pow10" = some 2 by kernel_rfl) (by omega) h.pow, Nat.le_trans h.low hb.size⟩
theorem pow_datum3 : Rows.laid_internal_strconv_uint64pow10 (H := Unit) = Lib.tabData .u64 Lib.pow10Tab := by kernel_rfl
theorem env_calc {W : World} (hL : laidMetH Tryd.prog Rows.calcReadsRow.laid W) (hsh : W.ShapedOpen Tryd.prog) : PowEnv W := by
  rw [MakeChecks.laidMetH_plain _ _ _ (by kernel_rfl)] at hL
  have h0 : laidMet Tryd.prog [("math/bits.deBruijn32tab", Rows.laid_math_bits_deBruijn32tab), ("math/bits.deBruijn64tab", Rows.laid_math_bits_deBruijn64tab), ("internal/strconv.uint64pow10", Rows.laid_internal_strconv_uint64pow10)] W := hL
  rw [pow_datum3] at h0
  have hp := laidMet.tail (laidMet.tail h0)
  have hlow : Tryd.prog.globals.size ≤ W.heap.size := by
    rw [gsize]
    obtain ⟨⟨z5, t5⟩, hz⟩ := Option.isSome_iff_exists.1 (show (((begin Tryd.prog (fun _ _ => 0) default).world.heap[5]?).bind Obj.row?).isSome = true by kernel_rfl)
    obtain ⟨cs, hh, _, _⟩ := hsh.1 5 z5 t5 (by rw [gsize]; decide) hz
    have := (Array.getElem?_eq_some_iff.1 hh).1
    omega
  exact ⟨Lib.tabIs_of_head (show Tryd.prog.globalNamed "internal/strconv.uint64pow10" = some 2 by kernel_rfl) (by kernel_rfl) Tryd.underlying98 Tryd.underlying49 (by kernel_rfl) (by kernel_rfl) hp, hlow⟩

theorem dig_of (k : Nat) (h : k < 10) : dig (UInt8.ofNat (48 + k)) = true ∧ ((UInt8.ofNat (48 + k)).toNat : Int) - 48 = k := by
  have e : (UInt8.ofNat (48 + k)).toNat = 48 + k := by
    rw [UInt8.toNat_ofNat']; omega
  exact ⟨decide_eq_true (by omega), by omega⟩
theorem dec_read : ∀ u : Nat, digs (Lib.decDigits u) = true ∧ num (Lib.decDigits u) = u ∧ Lib.decDigits u ≠ []
  | u => by
    by_cases h : u < 10
    · rw [dec_small h]
      obtain ⟨h1, h2⟩ := dig_of u h
      refine ⟨by unfold digs; rw [List.all_cons, h1]; rfl, ?_, by simp⟩
      rw [show [UInt8.ofNat (48 + u)] = [] ++ [UInt8.ofNat (48 + u)] from rfl, num_snoc, h2, show num [] = 0 from rfl]
      omega
    · have hlt : u / 10 < u := by omega
      obtain ⟨h1, h2, h3⟩ := dec_read (u / 10)
      obtain ⟨g1, g2⟩ := dig_of (u % 10) (by omega)
      rw [dec_big h]
      refine ⟨by rw [digs_snoc, h1, g1]; rfl, ?_, by simp⟩
      rw [num_snoc, h2, g2]
      omega
theorem reads_pos {n : Int} (h0 : ¬ n < 0) (h1 : n ≤ 9223372036854775807) : readv (Lib.itoa n) = n ∧ reade (Lib.itoa n) = 0 := by
  rw [show Lib.itoa n = Lib.decDigits n.toNat from if_neg h0]
  obtain ⟨d1, d2, d3⟩ := dec_read n.toNat
  have hg : ¬ (Lib.decDigits n.toNat = [] ∨ digs (Lib.decDigits n.toNat) = false) := by rw [d1]; simpa using d3
  have hin : In64 (num (Lib.decDigits n.toNat)) := in64 (by omega) (by omega)
  rw [readv_good hg, reade_good hg, okv_in hin, oke_in hin, d2]
  exact ⟨by omega, rfl⟩
theorem reads_neg {n : Int} (h0 : n < 0) : readv (Lib.itoa n) = 0 ∧ reade (Lib.itoa n) = 3 := by
  rw [show Lib.itoa n = 45 :: Lib.decDigits n.natAbs from if_pos h0]
  have hb : digs (45 :: Lib.decDigits n.natAbs) = false := by unfold digs; rw [List.all_cons, show dig 45 = false by decide]; rfl
  exact ⟨readv_bad (.inr hb), reade_bad (.inr hb)⟩
end Go.Proofs.YtcloajmcfacfnaaDoor
