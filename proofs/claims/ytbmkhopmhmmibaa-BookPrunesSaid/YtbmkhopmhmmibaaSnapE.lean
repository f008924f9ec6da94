/-
  Package snap: rows of snapshots; Horizon.
-/
import Derived.Test.YtbmkhopmhmmibaaSnapD
import Derived.Test.YtbmkhopmhmmibaaOpen
namespace Go.Proofs.Ytbmkhopmhmmibaa
open Go.RowKit
set_option linter.unusedVariables false

/-- A snapshot: what it says, and where its row lies. -/
structure Sn where
  own : Nat
  xmin : Nat
  xmax : Nat
  R : List Nat
  A : Option Addr
  c : Nat
def Sn.v (s : Sn) : Value := .slice s.A s.R.length s.c
def Sn.e (s : Sn) : List Value := sncells s.own s.xmin s.xmax s.v
theorem sn_at {w : World} {A : Option Addr} {l : List Sn} (h : Rd w 4 A l.length (l.flatMap Sn.e)) {k : Nat} (hk : k < l.length) :
    ∃ ad : Addr, A = some ad ∧ w.cell? (ad.add (k * 4)) = some (.int .u64 (l[k].own : Int)) ∧ w.cell? ⟨(ad.add (k * 4)).block, (ad.add (k * 4)).off + 1, none⟩ = some (.int .u64 (l[k].xmin : Int)) ∧
      w.cell? ⟨(ad.add (k * 4)).block, (ad.add (k * 4)).off + 2, none⟩ = some (.int .u64 (l[k].xmax : Int)) ∧ w.cell? ⟨(ad.add (k * 4)).block, (ad.add (k * 4)).off + 3, none⟩ = some (.slice l[k].A l[k].R.length l[k].c) := by
  obtain ⟨ad, e, hc⟩ := flat_elem Sn.e 4 (fun _ => rfl) h hk (by decide)
  exact ⟨ad, e, hc 0 _ rfl, hc 1 _ rfl, hc 2 _ rfl, hc 3 _ rfl⟩
theorem idx_sn (ad : Addr) (n c k : Nat) (h : k < n) (W : World) : (Instr.indexAt 38 (.slice (some ad) n c) (.int .i64 (k : Int))).run Try.prog W = .ok (.pointer (some (ad.add (k * 4)))) W := by
  rw [run_indexAt_slice (h := by kernel_rfl), if_pos (by omega)]
  rw [show Try.prog.elem 38 = 50 by kernel_rfl, show (sizeOf 50).run Try.prog W = .ok 4 W by kernel_rfl]
  simp [Result.andThen]
theorem cut_sn (A : Option Addr) (m c : Nat) (hn : m + 1 ≤ c) : ∃ A', (∀ W, (Instr.slice 38 (.slice A (m + 1) c) (some (.int .i64 1)) none none).run Try.prog W = .ok (.slice A' m (c - 1)) W) ∧
    ∀ W (s : Sn) (l : List Sn), l.length = m → Rd W 4 A (m + 1) ((s :: l).flatMap Sn.e) → Rd W 4 A' m (l.flatMap Sn.e) := by
  refine ⟨if c = 1 then A else A.map (·.add 4), fun W => ?_, fun W s l hl h => ?_⟩
  · rw [show (Value.int .i64 1) = .int .i64 ((1 : Nat) : Int) from rfl, run_slice_l (ht := by kernel_rfl) (h0 := by omega) (h1 := by omega)]
    rw [show Try.prog.elem 38 = 50 by kernel_rfl, show (sizeOf 50).run Try.prog W = .ok 4 W by kernel_rfl]
    simp only [Result.andThen, sliced, Int.toNat_natCast, Nat.one_mul, Nat.add_sub_cancel]
  · have := Rd.cut h (k := 1) (cap := c) (by omega) (by omega)
    rw [Nat.one_mul, Nat.add_sub_cancel] at this
    exact this
/-- The horizon. -/
def hzn (nx : Nat) : List Sn → Nat
  | [] => nx
  | s :: r => r.foldl (fun m t => min m t.xmin) s.xmin
theorem foldl_take {α : Type} (l : List α) (fn : Nat → α → Nat) (z : Nat) {k : Nat} (hk : k < l.length) : (l.take (k + 1)).foldl fn z = fn ((l.take k).foldl fn z) l[k] := by
  rw [← List.take_append_getElem hk, List.foldl_append]; rfl
theorem fold_lt {l : List Sn} {z B : Nat} (hz : z < B) : l.foldl (fun m t => min m t.xmin) z < B := by
  induction l generalizing z with
  | nil => exact hz
  | cons a l ih => exact ih (Nat.lt_of_le_of_lt (Nat.min_le_left _ _) hz)
set_option maxRecDepth 100000 in
set_option maxHeartbeats 1000000 in
theorem hor_nil (w : World) (g f : Nat) (S : List Nat) (F : Nat → Prop) (A : Option Addr) (c : Nat) (hl : LG w g f S F) :
    Calls Try.prog 30 #[.pointer (some ⟨g, 0, none⟩), .slice A 0 c] w fun e w' => e = .returned (.int .u64 ((f + S.length : Nat) : Int)) ∧ Below w.heap.size w w' := by
  have HN := Lib.hid (lg_next w g f S F hl)
  clear hl
  go_enter Try.func30, Try.ntmps30
  go_wp2_with (go_at_call 40; (with_reducible refine (HN.out).mono ?_); rintro e w1 ⟨rfl, n, rfl⟩)
  go_ret
  exact ⟨rfl, below_n _ _⟩
set_option maxRecDepth 100000 in
set_option maxHeartbeats 1000000 in
theorem hor_cons (w : World) (p : Value) (s : Sn) (r : List Sn) (A : Option Addr) (c : Nat) (h : Rd w 4 A (r.length + 1) ((s :: r).flatMap Sn.e)) (hc : r.length + 1 ≤ c) (hm : c ≤ 9223372036854775807) :
    Calls Try.prog 30 #[p, .slice A (r.length + 1) c] w fun e w' => e = .returned (.int .u64 ((r.foldl (fun m t => min m t.xmin) s.xmin : Nat) : Int)) ∧ Below w.heap.size w w' := by
  obtain ⟨A', hcut, hr⟩ := cut_sn A r.length c hc
  have hR := hr w s r rfl h
  obtain ⟨ad, rfl, _, q1, _, _⟩ := sn_at (l := s :: r) h (k := 0) (by simp)
  replace q1 : w.cell? ⟨ad.block, ad.off + 1, none⟩ = some (.int .u64 (s.xmin : Int)) := q1
  have ix : ∀ W, (Instr.indexAt 38 (.slice (some ad) (r.length + 1) c) (.int .i64 0)).run Try.prog W = .ok (.pointer (some ad)) W := fun W => idx_sn ad (r.length + 1) c 0 (by omega) W
  have HR := Lib.hid hR
  have hne : (((r.length : Int) + 1) == 0) = false := beq_eq_false_iff_ne.2 (by omega)
  clear h hr hR
  go_enter Try.func30, Try.ntmps30
  go_wp2
  go_loopw [5, 20] (fun hv iv wr => ∃ (k m : Nat), k ≤ r.length ∧ iv = .int .i64 (k : Int) ∧ hv = .int .u64 (m : Int) ∧ m = (r.take k).foldl (fun m t => min m t.xmin) s.xmin ∧ Below w.heap.size w wr) (fun _ iv _ => r.length - (intOf iv).toNat)
  case atStart => exact ⟨0, _, Nat.zero_le _, rfl, rfl, rfl, Below.refl _ _⟩
  case round =>
    obtain ⟨k, m, hk, rfl, rfl, hmk, hb⟩ := hrel
    have HMK := Lib.hid hmk
    clear hmk
    by_cases hlt : k < r.length
    · obtain ⟨ad2, rfl, c0, c1, c2, c3⟩ := sn_at (HR.out.below hb) hlt
      have ix2 := idx_sn ad2 r.length (c - 1) k hlt
      have HF := Lib.hid (foldl_take r (fun m t => min m t.xmin) s.xmin hlt)
      generalize r[k] = t at *
      obtain ⟨mm, hmm⟩ : ∃ mm, mm = min m t.xmin := ⟨_, rfl⟩
      have hmin : min (m : Int) (t.xmin : Int) = (mm : Int) := by omega
      have HM := Lib.hid hmm
      have hb2 := hb.al (.cells #[.int .u64 (t.own : Int), .int .u64 (t.xmin : Int), .int .u64 (t.xmax : Int), .slice t.A t.R.length t.c] 50)
      clear hmm
      go_wp2
      go_roundw
      case rel => exact ⟨k + 1, mm, by omega, by go_num, rfl, by rw [HF.out, ← HMK.out]; exact HM.out, hb2⟩
      case measure => simp [intOf]; omega
    · obtain rfl : k = r.length := by omega
      have hmr : m = r.foldl (fun m t => min m t.xmin) s.xmin := by have := HMK.out; rwa [List.take_length] at this
      have HE := Lib.hid hmr
      clear hmr
      go_wp2
      go_ret
      exact ⟨by rw [← HE.out]; rfl, hb⟩
end Go.Proofs.Ytbmkhopmhmmibaa
