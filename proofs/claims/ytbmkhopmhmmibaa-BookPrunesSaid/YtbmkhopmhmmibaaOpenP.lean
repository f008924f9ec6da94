/-
  What comes in to the laws of book: a script.
-/
import Derived.Test.YtbmkhopmhmmibaaOpen
namespace Go.Proofs.Ytbmkhopmhmmibaa
open Go.ChangeShapes Go.WideShapes Go.ChangeAt Go.RowKit Go.Deep
set_option linter.unusedVariables false

/-- A step of a script. -/
structure Op11 where
  do_ : Nat
  who : Nat
  nm : ByteArray
  tn : ByteArray
  cn : ByteArray
  A : Option Addr
  N : Nat
  c : Nat
  h1 : do_ < 256
  h2 : who < 256
  h3 : nm.size ≤ maxLen
  h4 : tn.size ≤ maxLen
  h5 : cn.size ≤ maxLen
instance : Inhabited Op11 := ⟨⟨0, 0, ⟨#[]⟩, ⟨#[]⟩, ⟨#[]⟩, none, 0, 0, by decide, by decide, by unfold maxLen; decide, by unfold maxLen; decide, by unfold maxLen; decide⟩⟩
def Op11.e (x : Op11) : List Value := [.int .u8 (x.do_ : Int), .int .u8 (x.who : Int), .string x.nm, .string x.tn, .string x.cn, .slice x.A x.N x.c]
section
variable {H : Type} {enc : TypeId × Value → H} {w : World} {base : Nat} {held : Bool}
theorem cells_op11 : Try.prog.cellsOf 42 = 6 := by kernel_rfl
set_option maxRecDepth 100000 in
theorem trod_op11 {spare : Nat → Bool} {n : Nat} {cs : List Value} {y : DataW H × List MemPlace} (h : DataW.trod enc Try.prog w base spare held n 42 cs = some y) : ∃ x : Op11, cs = x.e := by
  obtain ⟨xs, m, _, _, hcl, hlen, hf⟩ := DataW.trod_struct Try.underlying42 h
  rw [cells_op11] at hcl
  match cs, hcl, xs, hlen with
  | [c0, c1, c2, c3, c4, c5], _, [z0, z1, z2, z3, z4, z5], _ =>
    have h0 : _ = some z0 := hf 0 _ rfl
    have h1 : _ = some z1 := hf 1 _ rfl
    have h2 : _ = some z2 := hf 2 _ rfl
    have h3 : _ = some z3 := hf 3 _ rfl
    have h4 : _ = some z4 := hf 4 _ rfl
    have h5 : _ = some z5 := hf 5 _ rfl
    obtain ⟨k0, e0, _, w0⟩ := DataW.trod_int Try.underlying5 h0
    obtain ⟨k1, e1, _, w1⟩ := DataW.trod_int Try.underlying5 h1
    obtain ⟨s2, e2, _, l2⟩ := DataW.trod_string Try.underlying9 h2
    obtain ⟨s3, e3, _, l3⟩ := DataW.trod_string Try.underlying9 h3
    obtain ⟨s4, e4, _, l4⟩ := DataW.trod_string Try.underlying9 h4
    have h5' := DataW.trod_slice Try.underlying40 h5
    have q0 : Try.prog.cellsOf 5 = 1 := by kernel_rfl
    have q2 : Try.prog.cellsOf 9 = 1 := by kernel_rfl
    have q5 : Try.prog.cellsOf 40 = 1 := by kernel_rfl
    simp [q0, q2, q5] at e0 e1 e2 e3 e4 h5'
    obtain ⟨m0, rfl, hm0⟩ := nat_u8 w0
    obtain ⟨m1, rfl, hm1⟩ := nat_u8 w1
    subst e0 e1 e2 e3 e4
    rcases h5' with ⟨h5', _⟩ | ⟨a, N, c, _, _, _, _, h5', _⟩
    · subst h5'
      exact ⟨⟨m0, m1, s2, s3, s4, none, 0, 0, hm0, hm1, l2, l3, l4⟩, rfl⟩
    · subst h5'
      exact ⟨⟨m0, m1, s2, s3, s4, some a, N, c, hm0, hm1, l2, l3, l4⟩, rfl⟩
set_option maxRecDepth 100000 in
theorem open_ops11 {r : Reach} {b0 : Nat} {v : Value} {d : DataW H} {p : List MemPlace} (hv : Value.okWide Try.prog w r b0 22 v) (h : DataW.Trod enc Try.prog w base (fun _ => true) held 22 v d p) :
    ∃ (A : Option Addr) (c : Nat) (l : List Op11), v = .slice A l.length c ∧ l.length ≤ c ∧ c ≤ 9223372036854775807 ∧ Rd w 6 A l.length (l.flatMap Op11.e) :=
  open_structs Op11.e 6 (fun _ => rfl) Try.underlying22 cells_op11 (fun {_ _ _ _} ht => trod_op11 ht) hv h
end
theorem op11_at {w : World} {A : Option Addr} {l : List Op11} (h : Rd w 6 A l.length (l.flatMap Op11.e)) {k : Nat} (hk : k < l.length) :
    ∃ ad : Addr, A = some ad ∧ w.cell? (ad.add (k * 6)) = some (.int .u8 (l[k].do_ : Int)) ∧ w.cell? ⟨(ad.add (k * 6)).block, (ad.add (k * 6)).off + 1, none⟩ = some (.int .u8 (l[k].who : Int)) ∧
      w.cell? ⟨(ad.add (k * 6)).block, (ad.add (k * 6)).off + 2, none⟩ = some (.string l[k].nm) ∧ w.cell? ⟨(ad.add (k * 6)).block, (ad.add (k * 6)).off + 3, none⟩ = some (.string l[k].tn) ∧
      w.cell? ⟨(ad.add (k * 6)).block, (ad.add (k * 6)).off + 4, none⟩ = some (.string l[k].cn) ∧ w.cell? ⟨(ad.add (k * 6)).block, (ad.add (k * 6)).off + 5, none⟩ = some (.slice l[k].A l[k].N l[k].c) := by
  obtain ⟨ad, e, hc⟩ := flat_elem Op11.e 6 (fun _ => rfl) h hk (by decide)
  exact ⟨ad, e, hc 0 _ rfl, hc 1 _ rfl, hc 2 _ rfl, hc 3 _ rfl, hc 4 _ rfl, hc 5 _ rfl⟩
theorem idx_op11 (ad : Addr) (n c k : Nat) (h : k < n) (W : World) : (Instr.indexAt 22 (.slice (some ad) n c) (.int .i64 (k : Int))).run Try.prog W = .ok (.pointer (some (ad.add (k * 6)))) W := by
  rw [run_indexAt_slice (h := by kernel_rfl), if_pos (by omega)]
  rw [show Try.prog.elem 22 = 42 by kernel_rfl, show (sizeOf 42).run Try.prog W = .ok 6 W by kernel_rfl]
  simp [Result.andThen]
end Go.Proofs.Ytbmkhopmhmmibaa
