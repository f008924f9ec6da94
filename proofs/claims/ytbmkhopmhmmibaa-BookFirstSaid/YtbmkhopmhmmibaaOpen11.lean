/-
  What comes in to the laws of book: truths.
-/
import Derived.Test.YtbmkhopmhmmibaaOpen
namespace Go.Proofs.Ytbmkhopmhmmibaa
open Go.ChangeShapes Go.WideShapes Go.ChangeAt Go.RowKit Go.Deep
set_option linter.unusedVariables false

def blE (b : Bool) : List Value := [.bool b]
section
variable {H : Type} {enc : TypeId × Value → H} {w : World} {base : Nat} {held : Bool}
set_option maxRecDepth 100000 in
theorem open_bools11 {r : Reach} {b0 : Nat} {v : Value} {d : DataW H} {p : List MemPlace} (hv : Value.okWide Try.prog w r b0 82 v) (h : DataW.Trod enc Try.prog w base (fun _ => true) held 82 v d p) :
    ∃ (A : Option Addr) (c : Nat) (l : List Bool), v = .slice A l.length c ∧ l.length ≤ c ∧ c ≤ 9223372036854775807 ∧ Rd w 1 A l.length (l.flatMap blE) :=
  open_structs blE 1 (fun _ => rfl) Try.underlying82 (by kernel_rfl) (fun {_ _ _ _} ht => by
    obtain ⟨b, e, _⟩ := DataW.trod_bool Try.underlying4 ht
    exact ⟨b, e⟩) hv h
end
theorem bl_at {w : World} {A : Option Addr} {l : List Bool} (h : Rd w 1 A l.length (l.flatMap blE)) {k : Nat} (hk : k < l.length) :
    ∃ ad : Addr, A = some ad ∧ w.cell? (ad.add k) = some (.bool l[k]) := by
  obtain ⟨ad, e, hc⟩ := flat_elem blE 1 (fun _ => rfl) h hk (by decide)
  refine ⟨ad, e, ?_⟩
  have := hc 0 _ rfl
  rw [Nat.mul_one] at this
  exact this
theorem idx_bl (ad : Addr) (n c k : Nat) (h : k < n) (W : World) : (Instr.indexAt 82 (.slice (some ad) n c) (.int .i64 (k : Int))).run Try.prog W = .ok (.pointer (some (ad.add k))) W := by
  rw [run_indexAt_slice (h := by kernel_rfl), if_pos (by omega)]
  rw [show Try.prog.elem 82 = 4 by kernel_rfl, show (sizeOf 4).run Try.prog W = .ok 1 W by kernel_rfl]
  simp [Result.andThen]
end Go.Proofs.Ytbmkhopmhmmibaa
