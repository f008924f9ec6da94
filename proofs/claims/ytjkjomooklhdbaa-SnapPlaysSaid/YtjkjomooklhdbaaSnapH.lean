/-
  Rows of versions; a map of snapshots; what an append of one of them wants.
-/
import Derived.Test.YtjkjomooklhdbaaSnapG
import Derived.Test.YtjkjomooklhdbaaSnapF
import Derived.Test.YtjkjomooklhdbaaOpen10
namespace Go.Proofs.Ytjkjomooklhdbaa
open Go.RowKit Go.Maps
set_option linter.unusedVariables false

def tpc (t : Nat × Nat) : List Value := tpcells t.1 t.2
theorem tp_at {w : World} {A : Option Addr} {l : List (Nat × Nat)} (h : Rd w 6 A l.length (l.flatMap tpc)) {k : Nat} (hk : k < l.length) :
    ∃ ad : Addr, A = some ad ∧ w.cell? (ad.add (k * 6)) = some (.int .u64 0) ∧ w.cell? ⟨(ad.add (k * 6)).block, (ad.add (k * 6)).off + 1, none⟩ = some (.int .u64 (l[k].1 : Int)) ∧
      w.cell? ⟨(ad.add (k * 6)).block, (ad.add (k * 6)).off + 2, none⟩ = some (.int .u64 (l[k].2 : Int)) ∧ w.cell? ⟨(ad.add (k * 6)).block, (ad.add (k * 6)).off + 3, none⟩ = some (.int .i64 0) ∧
      w.cell? ⟨(ad.add (k * 6)).block, (ad.add (k * 6)).off + 4, none⟩ = some (.int .i64 0) ∧ w.cell? ⟨(ad.add (k * 6)).block, (ad.add (k * 6)).off + 5, none⟩ = some (.slice none 0 0) := by
  obtain ⟨ad, e, hc⟩ := flat_elem tpc 6 (fun _ => rfl) h hk (by decide)
  exact ⟨ad, e, hc 0 _ rfl, hc 1 _ rfl, hc 2 _ rfl, hc 3 _ rfl, hc 4 _ rfl, hc 5 _ rfl⟩
theorem idx_tp (ad : Addr) (n c k : Nat) (h : k < n) (W : World) : (Instr.indexAt 91 (.slice (some ad) n c) (.int .i64 (k : Int))).run Try.prog W = .ok (.pointer (some (ad.add (k * 6)))) W := by
  rw [run_indexAt_slice (h := by kernel_rfl), if_pos (by omega)]
  rw [show Try.prog.elem 91 = 71 by kernel_rfl, show (sizeOf 71).run Try.prog W = .ok 6 W by kernel_rfl]
  simp [Result.andThen]
theorem info_sn : (Try.prog.info? 76).map (fun i => (i.zero, i.size, i.bytes)) = some (some (.agg #[.int .u64 0, .int .u64 0, .int .u64 0, .slice none 0 0]), 4, 48) := by kernel_rfl
theorem info_tp : (Try.prog.info? 71).map (fun i => (i.zero, i.size, i.bytes)) = some (some (.agg #[.int .u64 0, .int .u64 0, .int .u64 0, .int .i64 0, .int .i64 0, .slice none 0 0]), 6, 64) := by kernel_rfl
theorem sn_one (s : Sn) : ∀ u ∈ s.e, u.oneCell' = true := by
  intro u hu
  simp only [Sn.e, sncells, List.mem_cons, List.not_mem_nil, or_false] at hu
  rcases hu with rfl | rfl | rfl | rfl <;> rfl
theorem tp_one (t : Nat × Nat) : ∀ u ∈ tpc t, u.oneCell' = true := by
  intro u hu
  simp only [tpc, tpcells, List.mem_cons, List.not_mem_nil, or_false] at hu
  rcases hu with rfl | rfl | rfl | rfl | rfl | rfl <;> rfl
def Sn.V (s : Sn) : Value := .agg #[.int .u64 (s.own : Int), .int .u64 (s.xmin : Int), .int .u64 (s.xmax : Int), .slice s.A s.R.length s.c]
def sn0 : Value := .agg #[.int .u64 0, .int .u64 0, .int .u64 0, .slice none 0 0]
set_option maxRecDepth 100000 in
def E10 : ElG 76 Value Sn where
  R v := some (.held v, [])
  L s := .held s.V
  V s := s.V
  zl := .held sn0
  zv := sn0
  zero w := Try.zeroValue76 w
  pz := rfl
  pv _ := rfl
  iz v ps h := by
    injection h with h
    injection h with h _
    injection h
  iv a v ps h := by
    injection h with h
    injection h with h _
    injection h
theorem mg_get {w : World} {b c n : Nat} {f : Nat → Option Sn} (h : MG E10 w b f c n) {x : Nat} (hx : x < 18446744073709551616) :
    (Instr.lookup 94 (.map (some b)) (.int .u64 (x : Int)) true).run Try.prog w = .ok (.tuple #[(f x).elim sn0 Sn.V, .bool (f x).isSome]) w := by
  obtain ⟨D, ho, h1, h2, _⟩ := h
  obtain ⟨v, ps, hr, hv⟩ := ho.look_ok lawG Try.underlying94 (E10.zero w) E10.pz (kg_of hx)
  rw [hr, h1]
  cases hf : f x with
  | none =>
    rw [Maps.atKey_of_not_has (by rw [h1, hf]; rfl)] at hv
    rw [E10.iz v ps hv]; rfl
  | some u =>
    rw [h2 x u hf] at hv
    rw [E10.iv u v ps hv]; rfl
end Go.Proofs.Ytjkjomooklhdbaa
