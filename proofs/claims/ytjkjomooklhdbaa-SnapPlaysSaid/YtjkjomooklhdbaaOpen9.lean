/-
  What comes in to the laws of clog and snap: bytes, scripts, pairs of numbers.
-/
import Derived.Test.YtjkjomooklhdbaaOpen
namespace Go.Proofs.Ytjkjomooklhdbaa
open Go.ChangeShapes Go.WideShapes Go.ChangeAt Go.RowKit Go.Deep
set_option linter.unusedVariables false

/-- A byte. -/
structure By where
  n : Nat
  lt : n < 256
instance : Inhabited By := ⟨⟨0, by decide⟩⟩
def By.e (x : By) : List Value := [.int .u8 (x.n : Int)]
section
variable {H : Type} {enc : TypeId × Value → H} {w : World} {base : Nat} {held : Bool}
set_option maxRecDepth 100000 in
theorem open_u8s {r : Reach} {b0 : Nat} {v : Value} {d : DataW H} {p : List MemPlace} (hv : Value.okWide Try.prog w r b0 49 v) (h : DataW.Trod enc Try.prog w base (fun _ => true) held 49 v d p) :
    ∃ (A : Option Addr) (c : Nat) (l : List By), v = .slice A l.length c ∧ l.length ≤ c ∧ c ≤ 9223372036854775807 ∧ Rd w 1 A l.length (l.flatMap By.e) :=
  open_structs By.e 1 (fun _ => rfl) Try.underlying49 (by kernel_rfl) (fun {_ _ _ _} ht => by
    obtain ⟨n, e, _, hw⟩ := DataW.trod_int Try.underlying5 ht
    obtain ⟨k, rfl, hk⟩ := nat_u8 hw
    exact ⟨⟨k, hk⟩, e⟩) hv h
end
theorem by_at {w : World} {A : Option Addr} {l : List By} (h : Rd w 1 A l.length (l.flatMap By.e)) {k : Nat} (hk : k < l.length) :
    ∃ ad : Addr, A = some ad ∧ w.cell? (ad.add k) = some (.int .u8 (l[k].n : Int)) := by
  obtain ⟨ad, e, hc⟩ := flat_elem By.e 1 (fun _ => rfl) h hk (by decide)
  have := hc 0 _ rfl
  rw [aadd, Nat.mul_one, Nat.add_zero] at this
  exact ⟨ad, e, this⟩
theorem idx_by (ad : Addr) (n c k : Nat) (h : k < n) (W : World) : (Instr.indexAt 49 (.slice (some ad) n c) (.int .i64 (k : Int))).run Try.prog W = .ok (.pointer (some (ad.add k))) W := by
  rw [run_indexAt_slice (h := by kernel_rfl), if_pos (by omega)]
  rw [show Try.prog.elem 49 = 5 by kernel_rfl, show (sizeOf 5).run Try.prog W = .ok 1 W by kernel_rfl]
  simp [Result.andThen]
/-- A step of a script on a log. -/
structure Op9 where
  do_ : Nat
  xid : Nat
  near : Bool
  h1 : do_ < 256
  h2 : xid < 18446744073709551616
instance : Inhabited Op9 := ⟨⟨0, 0, false, by decide, by decide⟩⟩
def Op9.e (x : Op9) : List Value := [.int .u8 (x.do_ : Int), .int .u64 (x.xid : Int), .bool x.near]
section
variable {H : Type} {enc : TypeId × Value → H} {w : World} {base : Nat} {held : Bool}
theorem cells_op9 : Try.prog.cellsOf 33 = 3 := by kernel_rfl
set_option maxRecDepth 100000 in
theorem trod_op9 {spare : Nat → Bool} {n : Nat} {cs : List Value} {y : DataW H × List MemPlace} (h : DataW.trod enc Try.prog w base spare held n 33 cs = some y) : ∃ x : Op9, cs = x.e := by
  obtain ⟨xs, m, _, _, hcl, hlen, hf⟩ := DataW.trod_struct Try.underlying33 h
  rw [cells_op9] at hcl
  match cs, hcl, xs, hlen with
  | [c0, c1, c2], _, [z0, z1, z2], _ =>
    have h0 : _ = some z0 := hf 0 _ rfl
    have h1 : _ = some z1 := hf 1 _ rfl
    have h2 : _ = some z2 := hf 2 _ rfl
    obtain ⟨k0, e0, _, w0⟩ := DataW.trod_int Try.underlying5 h0
    obtain ⟨k1, e1, _, w1⟩ := DataW.trod_int Try.underlying22 h1
    obtain ⟨k2, e2, _⟩ := DataW.trod_bool Try.underlying4 h2
    have q0 : Try.prog.cellsOf 5 = 1 := by kernel_rfl
    have q1 : Try.prog.cellsOf 22 = 1 := by kernel_rfl
    have q2 : Try.prog.cellsOf 4 = 1 := by kernel_rfl
    simp [q0] at e0
    simp [q1] at e1
    simp [q2] at e2
    obtain ⟨m0, rfl, hm0⟩ := nat_u8 w0
    obtain ⟨m1, rfl, hm1⟩ := nat_u64 w1
    subst e0 e1 e2
    exact ⟨⟨m0, m1, k2, hm0, hm1⟩, rfl⟩
set_option maxRecDepth 100000 in
theorem open_ops9 {r : Reach} {b0 : Nat} {v : Value} {d : DataW H} {p : List MemPlace} (hv : Value.okWide Try.prog w r b0 23 v) (h : DataW.Trod enc Try.prog w base (fun _ => true) held 23 v d p) :
    ∃ (A : Option Addr) (c : Nat) (l : List Op9), v = .slice A l.length c ∧ l.length ≤ c ∧ c ≤ 9223372036854775807 ∧ Rd w 3 A l.length (l.flatMap Op9.e) :=
  open_structs Op9.e 3 (fun _ => rfl) Try.underlying23 cells_op9 (fun {_ _ _ _} ht => trod_op9 ht) hv h
end
theorem op9_at {w : World} {A : Option Addr} {l : List Op9} (h : Rd w 3 A l.length (l.flatMap Op9.e)) {k : Nat} (hk : k < l.length) :
    ∃ ad : Addr, A = some ad ∧ w.cell? (ad.add (k * 3)) = some (.int .u8 (l[k].do_ : Int)) ∧ w.cell? ⟨(ad.add (k * 3)).block, (ad.add (k * 3)).off + 1, none⟩ = some (.int .u64 (l[k].xid : Int)) ∧
      w.cell? ⟨(ad.add (k * 3)).block, (ad.add (k * 3)).off + 2, none⟩ = some (.bool l[k].near) := by
  obtain ⟨ad, e, hc⟩ := flat_elem Op9.e 3 (fun _ => rfl) h hk (by decide)
  exact ⟨ad, e, hc 0 _ rfl, hc 1 _ rfl, hc 2 _ rfl⟩
theorem idx_op9 (ad : Addr) (n c k : Nat) (h : k < n) (W : World) : (Instr.indexAt 23 (.slice (some ad) n c) (.int .i64 (k : Int))).run Try.prog W = .ok (.pointer (some (ad.add (k * 3)))) W := by
  rw [run_indexAt_slice (h := by kernel_rfl), if_pos (by omega)]
  rw [show Try.prog.elem 23 = 33 by kernel_rfl, show (sizeOf 33).run Try.prog W = .ok 3 W by kernel_rfl]
  simp [Result.andThen]
end Go.Proofs.Ytjkjomooklhdbaa
