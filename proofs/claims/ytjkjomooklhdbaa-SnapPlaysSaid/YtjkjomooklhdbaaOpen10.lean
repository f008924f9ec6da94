/-
  What comes in to the laws of snap: scripts, pairs of numbers.
-/
import Derived.Test.YtjkjomooklhdbaaOpen9
namespace Go.Proofs.Ytjkjomooklhdbaa
open Go.ChangeShapes Go.WideShapes Go.ChangeAt Go.RowKit Go.Deep
set_option linter.unusedVariables false

/-- A step of a script. -/
structure Op10 where
  do_ : Nat
  xid : Nat
  h1 : do_ < 256
  h2 : xid < 18446744073709551616
instance : Inhabited Op10 := ⟨⟨0, 0, by decide, by decide⟩⟩
def Op10.e (x : Op10) : List Value := [.int .u8 (x.do_ : Int), .int .u64 (x.xid : Int)]
/-- A pair. -/
structure Pr where
  a : Nat
  b : Nat
  h1 : a < 18446744073709551616
  h2 : b < 18446744073709551616
instance : Inhabited Pr := ⟨⟨0, 0, by decide, by decide⟩⟩
def Pr.e (x : Pr) : List Value := [.int .u64 (x.a : Int), .int .u64 (x.b : Int)]
section
variable {H : Type} {enc : TypeId × Value → H} {w : World} {base : Nat} {held : Bool}
theorem cells_op10 : Try.prog.cellsOf 89 = 2 := by kernel_rfl
theorem cells_pr : Try.prog.cellsOf 67 = 2 := by kernel_rfl
set_option maxRecDepth 100000 in
theorem trod_op10 {spare : Nat → Bool} {n : Nat} {cs : List Value} {y : DataW H × List MemPlace} (h : DataW.trod enc Try.prog w base spare held n 89 cs = some y) : ∃ x : Op10, cs = x.e := by
  obtain ⟨xs, m, _, _, hcl, hlen, hf⟩ := DataW.trod_struct Try.underlying89 h
  rw [cells_op10] at hcl
  match cs, hcl, xs, hlen with
  | [c0, c1], _, [z0, z1], _ =>
    have h0 : _ = some z0 := hf 0 _ rfl
    have h1 : _ = some z1 := hf 1 _ rfl
    obtain ⟨k0, e0, _, w0⟩ := DataW.trod_int Try.underlying5 h0
    obtain ⟨k1, e1, _, w1⟩ := DataW.trod_int Try.underlying22 h1
    have q0 : Try.prog.cellsOf 5 = 1 := by kernel_rfl
    have q1 : Try.prog.cellsOf 22 = 1 := by kernel_rfl
    simp [q0] at e0
    simp [q1] at e1
    obtain ⟨m0, rfl, hm0⟩ := nat_u8 w0
    obtain ⟨m1, rfl, hm1⟩ := nat_u64 w1
    subst e0 e1
    exact ⟨⟨m0, m1, hm0, hm1⟩, rfl⟩
set_option maxRecDepth 100000 in
theorem open_ops10 {r : Reach} {b0 : Nat} {v : Value} {d : DataW H} {p : List MemPlace} (hv : Value.okWide Try.prog w r b0 56 v) (h : DataW.Trod enc Try.prog w base (fun _ => true) held 56 v d p) :
    ∃ (A : Option Addr) (c : Nat) (l : List Op10), v = .slice A l.length c ∧ l.length ≤ c ∧ c ≤ 9223372036854775807 ∧ Rd w 2 A l.length (l.flatMap Op10.e) :=
  open_structs Op10.e 2 (fun _ => rfl) Try.underlying56 cells_op10 (fun {_ _ _ _} ht => trod_op10 ht) hv h
set_option maxRecDepth 100000 in
theorem trod_pr {spare : Nat → Bool} {n : Nat} {cs : List Value} {y : DataW H × List MemPlace} (h : DataW.trod enc Try.prog w base spare held n 67 cs = some y) : ∃ x : Pr, cs = x.e := by
  obtain ⟨xs, m, _, _, hcl, hlen, hf⟩ := DataW.trod_array Try.underlying67 h
  rw [cells_pr] at hcl
  match cs, hcl, xs, hlen with
  | [c0, c1], _, [z0, z1], _ =>
    have q1 : Try.prog.cellsOf 22 = 1 := by kernel_rfl
    have h0 := hf 0 (by decide)
    have h1 := hf 1 (by decide)
    rw [q1] at h0 h1
    obtain ⟨k0, e0, _, w0⟩ := DataW.trod_int Try.underlying22 (h0.trans rfl)
    obtain ⟨k1, e1, _, w1⟩ := DataW.trod_int Try.underlying22 (h1.trans rfl)
    simp at e0
    simp at e1
    obtain ⟨m0, rfl, hm0⟩ := nat_u64 w0
    obtain ⟨m1, rfl, hm1⟩ := nat_u64 w1
    subst e0 e1
    exact ⟨⟨m0, m1, hm0, hm1⟩, rfl⟩
set_option maxRecDepth 100000 in
theorem open_prs {r : Reach} {b0 : Nat} {v : Value} {d : DataW H} {p : List MemPlace} (hv : Value.okWide Try.prog w r b0 57 v) (h : DataW.Trod enc Try.prog w base (fun _ => true) held 57 v d p) :
    ∃ (A : Option Addr) (c : Nat) (l : List Pr), v = .slice A l.length c ∧ l.length ≤ c ∧ c ≤ 9223372036854775807 ∧ Rd w 2 A l.length (l.flatMap Pr.e) :=
  open_structs Pr.e 2 (fun _ => rfl) Try.underlying57 cells_pr (fun {_ _ _ _} ht => trod_pr ht) hv h
end
theorem op10_at {w : World} {A : Option Addr} {l : List Op10} (h : Rd w 2 A l.length (l.flatMap Op10.e)) {k : Nat} (hk : k < l.length) :
    ∃ ad : Addr, A = some ad ∧ w.cell? (ad.add (k * 2)) = some (.int .u8 (l[k].do_ : Int)) ∧ w.cell? ⟨(ad.add (k * 2)).block, (ad.add (k * 2)).off + 1, none⟩ = some (.int .u64 (l[k].xid : Int)) := by
  obtain ⟨ad, e, hc⟩ := flat_elem Op10.e 2 (fun _ => rfl) h hk (by decide)
  exact ⟨ad, e, hc 0 _ rfl, hc 1 _ rfl⟩
theorem pr_at {w : World} {A : Option Addr} {l : List Pr} (h : Rd w 2 A l.length (l.flatMap Pr.e)) {k : Nat} (hk : k < l.length) :
    ∃ ad : Addr, A = some ad ∧ w.cell? (ad.add (k * 2)) = some (.int .u64 (l[k].a : Int)) ∧ w.cell? ⟨(ad.add (k * 2)).block, (ad.add (k * 2)).off + 1, none⟩ = some (.int .u64 (l[k].b : Int)) := by
  obtain ⟨ad, e, hc⟩ := flat_elem Pr.e 2 (fun _ => rfl) h hk (by decide)
  exact ⟨ad, e, hc 0 _ rfl, hc 1 _ rfl⟩
theorem idx_op10 (ad : Addr) (n c k : Nat) (h : k < n) (W : World) : (Instr.indexAt 56 (.slice (some ad) n c) (.int .i64 (k : Int))).run Try.prog W = .ok (.pointer (some (ad.add (k * 2)))) W := by
  rw [run_indexAt_slice (h := by kernel_rfl), if_pos (by omega)]
  rw [show Try.prog.elem 56 = 89 by kernel_rfl, show (sizeOf 89).run Try.prog W = .ok 2 W by kernel_rfl]
  simp [Result.andThen]
theorem idx_pr (ad : Addr) (n c k : Nat) (h : k < n) (W : World) : (Instr.indexAt 57 (.slice (some ad) n c) (.int .i64 (k : Int))).run Try.prog W = .ok (.pointer (some (ad.add (k * 2)))) W := by
  rw [run_indexAt_slice (h := by kernel_rfl), if_pos (by omega)]
  rw [show Try.prog.elem 57 = 67 by kernel_rfl, show (sizeOf 67).run Try.prog W = .ok 2 W by kernel_rfl]
  simp [Result.andThen]
end Go.Proofs.Ytjkjomooklhdbaa
