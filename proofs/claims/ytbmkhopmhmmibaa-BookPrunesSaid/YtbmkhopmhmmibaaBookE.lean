/-
  book.New; enter.
-/
import Derived.Test.YtbmkhopmhmmibaaBookV
namespace Go.Proofs.Ytbmkhopmhmmibaa
open Go.RowKit
set_option linter.unusedVariables false

theorem bnew_any (w : World) :
    Calls Try.prog 11 #[] w fun e w' => e = .returned (.pointer (some ⟨w.heap.size, 0, none⟩)) ∧ Bx w' w.heap.size 103 [.int .u64 0, .slice none 0 0, .slice none 0 0] ∧ Below w.heap.size w w' := by
  go_enter Try.func11, Try.ntmps11
  go_wp2
  go_ret
  exact ⟨rfl, Bx.new w 103 _ _ rfl, (Below.refl _ _).al _⟩
set_option maxRecDepth 100000 in
theorem enter_any (w : World) (k last own : Nat) (n : ByteArray) (v1 v2 : Value) (h : Bx w k 103 [.int .u64 (last : Int), v1, v2]) (hl : last < 1000000000) :
    Calls Try.prog 50 #[.pointer (some ⟨k, 0, none⟩), .string n, .int .u64 (own : Int)] w fun e w' => e = .returned (.agg #[.int .u64 ((last + 1 : Nat) : Int), .string n, .int .u64 (own : Int), .int .u64 0]) ∧ Bx w' k 103 [.int .u64 ((last + 1 : Nat) : Int), v1, v2] ∧ Fr (fun i => i = k) w w' := by
  have hlt := h.lt
  have hne : k ≠ w.heap.size := by omega
  have hw : IntKind.u64.wrap ((last : Int) + 1) = (last : Int) + 1 := IntWalk.u64_in _ (by omega)
  have h1 := h.alloc (.cells #[.int .u64 0, .string ⟨#[]⟩, .int .u64 0, .int .u64 0] 116)
  have k0 := h1.cell 0
  have z0 := h1.frozen 0
  have hs := h.set 0 (.int .u64 ((last : Int) + 1))
  have hsz : (w.setCell ⟨k, 0, none⟩ (.int .u64 ((last : Int) + 1))).heap.size = w.heap.size := by simp [World.setCell]
  have y0 : ((w.setCell ⟨k, 0, none⟩ (.int .u64 ((last : Int) + 1))).alloc (.cells #[.int .u64 0, .string ⟨#[]⟩, .int .u64 0, .int .u64 0] 116)).cell? ⟨k, 0, none⟩ = some (.int .u64 ((last : Int) + 1)) := (hs.alloc _).cell 0
  have bf := Bx.new (w.setCell ⟨k, 0, none⟩ (.int .u64 ((last : Int) + 1))) 116 #[.int .u64 ((last : Int) + 1), .string n, .int .u64 (own : Int), .int .u64 0] [.int .u64 ((last : Int) + 1), .string n, .int .u64 (own : Int), .int .u64 0] rfl
  rw [hsz] at bf
  have j0 : ((w.setCell ⟨k, 0, none⟩ (.int .u64 ((last : Int) + 1))).alloc (.cells #[.int .u64 ((last : Int) + 1), .string n, .int .u64 (own : Int), .int .u64 0] 116)).cell? ⟨w.heap.size, 0, none⟩ = some (.int .u64 ((last : Int) + 1)) := bf.cell 0
  have j1 : ((w.setCell ⟨k, 0, none⟩ (.int .u64 ((last : Int) + 1))).alloc (.cells #[.int .u64 ((last : Int) + 1), .string n, .int .u64 (own : Int), .int .u64 0] 116)).cell? ⟨w.heap.size, 1, none⟩ = some (.string n) := bf.cell 1
  have j2 : ((w.setCell ⟨k, 0, none⟩ (.int .u64 ((last : Int) + 1))).alloc (.cells #[.int .u64 ((last : Int) + 1), .string n, .int .u64 (own : Int), .int .u64 0] 116)).cell? ⟨w.heap.size, 2, none⟩ = some (.int .u64 (own : Int)) := bf.cell 2
  have j3 : ((w.setCell ⟨k, 0, none⟩ (.int .u64 ((last : Int) + 1))).alloc (.cells #[.int .u64 ((last : Int) + 1), .string n, .int .u64 (own : Int), .int .u64 0] 116)).cell? ⟨w.heap.size, 3, none⟩ = some (.int .u64 0) := bf.cell 3
  have hfr : Fr (fun i => i = k) w ((w.setCell ⟨k, 0, none⟩ (.int .u64 ((last : Int) + 1))).alloc (.cells #[.int .u64 ((last : Int) + 1), .string n, .int .u64 (own : Int), .int .u64 0] 116)) := ((Fr.refl (fun i => i = k) w).set (b := k) (.inl rfl) 0 _).alloc _
  have hbx := hs.alloc (.cells #[.int .u64 ((last : Int) + 1), .string n, .int .u64 (own : Int), .int .u64 0] 116)
  have HFR := Lib.hid hfr
  have HBX := Lib.hid hbx
  clear hs hsz bf hfr hbx h
  go_enter Try.func50, Try.ntmps50
  go_upto_region 2 with fail
  go_wp2_with fail
  generalize (w.setCell ⟨k, 0, none⟩ (.int .u64 ((last : Int) + 1))).alloc (.cells #[.int .u64 ((last : Int) + 1), .string n, .int .u64 (own : Int), .int .u64 0] 116) = V at *
  refine bodyPost_ret (v := .agg #[.int .u64 ((last : Int) + 1), .string n, .int .u64 (own : Int), .int .u64 0]) (by simp [results, Try.results50, go_sem, j0, j1, j2, j3]) rfl ?_
  exact ⟨rfl, HBX.out, HFR.out⟩
end Go.Proofs.Ytbmkhopmhmmibaa
