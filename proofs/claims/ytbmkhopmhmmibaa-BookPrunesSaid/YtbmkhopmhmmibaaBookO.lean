/-
  (*index).shown.
-/
import Derived.Test.YtbmkhopmhmmibaaBookM
namespace Go.Proofs.Ytbmkhopmhmmibaa
open Go.RowKit
set_option linter.unusedVariables false

def ixV (x : Ix) : Value := .agg #[.int .u64 (x.e.id : Int), .string x.e.nm, .int .u64 (x.te.id : Int), .int .i64 (x.col : Int), .int .u64 (x.e.xmin : Int), .int .u64 (x.e.xmax : Int)]
theorem ix_cells {w : World} {b : Nat} {x : Ix} (h : Im w b x) (h5 : w.cell? ⟨b, 5, none⟩ = some (.int .i64 (x.col : Int))) : w.cell? ⟨b, 0, none⟩ = some (.int .u64 (x.e.id : Int)) ∧ w.cell? ⟨b, 1, none⟩ = some (.string x.e.nm) ∧ w.cell? ⟨b, 2, none⟩ = some (.int .u64 (x.e.xmin : Int)) ∧ w.cell? ⟨b, 3, none⟩ = some (.int .u64 (x.e.xmax : Int)) ∧ w.cell? ⟨b, 4, none⟩ = some (.pointer (some ⟨x.tb, 0, none⟩)) ∧ w.cell? ⟨b, 5, none⟩ = some (.int .i64 (x.col : Int)) ∧ w.cell? ⟨x.tb, 0, none⟩ = some (.int .u64 (x.te.id : Int)) :=
  ⟨h.en.c0, h.en.c1, h.en.c2, h.en.c3, h.tp, h5, h.ten.c0⟩
set_option maxRecDepth 100000 in
set_option maxHeartbeats 1000000 in
theorem ishown_any (w : World) (b : Nat) (x : Ix) (h : Im w b x) (h5 : w.cell? ⟨b, 5, none⟩ = some (.int .i64 (x.col : Int))) :
    Calls Try.prog 58 #[.pointer (some ⟨b, 0, none⟩)] w fun e w' => e = .returned (ixV x) ∧ Below w.heap.size w w' := by
  have hlt := World.block_lt_of_cell? _ _ h.en.c0
  have hlt5 := World.block_lt_of_cell? _ _ h5
  have hne : b ≠ w.heap.size := by have : b < w.heap.size := hlt; omega
  have xz : Below w.heap.size w (w.alloc (.cells #[.int .u64 0, .string ⟨#[]⟩, .int .u64 0, .int .i64 0, .int .u64 0, .int .u64 0] 60)) := (Below.refl _ _).al _
  have xd : Below w.heap.size w (w.alloc (.cells #[.int .u64 0, .string ⟨#[]⟩, .int .u64 0, .int .i64 0, .int .u64 0, .int .u64 0] 60)).drew := xz.next (below_n _ 1)
  have xf : Below w.heap.size w (w.alloc (.cells #[.int .u64 (x.e.id : Int), .string x.e.nm, .int .u64 (x.te.id : Int), .int .i64 (x.col : Int), .int .u64 (x.e.xmin : Int), .int .u64 (x.e.xmax : Int)] 60)).drew := ((Below.refl _ _).al _).next (below_n _ 1)
  have hZ := ix_cells (h.below xd) ((xd.cell (p := ⟨b, 5, none⟩) hlt5).trans h5)
  have hF := ix_cells (h.below xf) ((xf.cell (p := ⟨b, 5, none⟩) hlt5).trans h5)
  have bf : Bx (w.alloc (.cells #[.int .u64 (x.e.id : Int), .string x.e.nm, .int .u64 (x.te.id : Int), .int .i64 (x.col : Int), .int .u64 (x.e.xmin : Int), .int .u64 (x.e.xmax : Int)] 60)).drew w.heap.size 60 [.int .u64 (x.e.id : Int), .string x.e.nm, .int .u64 (x.te.id : Int), .int .i64 (x.col : Int), .int .u64 (x.e.xmin : Int), .int .u64 (x.e.xmax : Int)] := (Bx.new w 60 _ _ rfl).below (below_n _ 1)
  have bz : Bx (w.alloc (.cells #[.int .u64 0, .string ⟨#[]⟩, .int .u64 0, .int .i64 0, .int .u64 0, .int .u64 0] 60)).drew w.heap.size 60 [.int .u64 0, .string ⟨#[]⟩, .int .u64 0, .int .i64 0, .int .u64 0, .int .u64 0] := (Bx.new w 60 _ _ rfl).below (below_n _ 1)
  have k0 := bz.cell 0
  have f0 := bz.frozen 0
  have k1 := bz.cell 1
  have f1 := bz.frozen 1
  have k2 := bz.cell 2
  have f2 := bz.frozen 2
  have k3 := bz.cell 3
  have f3 := bz.frozen 3
  have k4 := bz.cell 4
  have f4 := bz.frozen 4
  have k5 := bz.cell 5
  have f5 := bz.frozen 5
  unfold ixV
  generalize (x.e.id : Int) = y0 at *
  generalize x.e.nm = y1 at *
  generalize (x.te.id : Int) = y2 at *
  generalize (x.col : Int) = y3 at *
  generalize (x.e.xmin : Int) = y4 at *
  generalize (x.e.xmax : Int) = y5 at *
  generalize x.tb = tb at *
  clear h h5 hlt hlt5
  go_enter Try.func58, Try.ntmps58
  go_upto_region 1 with fail
  go_region_held3 (fun w' => w'.cell? ⟨b, 0, none⟩ = some (.int .u64 y0) ∧ w'.cell? ⟨b, 1, none⟩ = some (.string y1) ∧ w'.cell? ⟨b, 2, none⟩ = some (.int .u64 y4) ∧ w'.cell? ⟨b, 3, none⟩ = some (.int .u64 y5) ∧ w'.cell? ⟨b, 4, none⟩ = some (.pointer (some ⟨tb, 0, none⟩)) ∧ w'.cell? ⟨b, 5, none⟩ = some (.int .i64 y3) ∧ w'.cell? ⟨tb, 0, none⟩ = some (.int .u64 y2)) (first | (with_reducible assumption) | (with_reducible exact hZ) | (with_reducible exact hF))
    (fail)
  clear k0 k1 k2 k3 k4 k5 f0 f1 f2 f3 f4 f5 bz hZ hF
  have j0 := bf.cell 0
  have j1 := bf.cell 1
  have j2 := bf.cell 2
  have j3 := bf.cell 3
  have j4 := bf.cell 4
  have j5 := bf.cell 5
  generalize (w.alloc (.cells #[.int .u64 y0, .string y1, .int .u64 y2, .int .i64 y3, .int .u64 y4, .int .u64 y5] 60)).drew = W at *
  go_wp2_with fail
  refine bodyPost_ret (v := .agg #[.int .u64 y0, .string y1, .int .u64 y2, .int .i64 y3, .int .u64 y4, .int .u64 y5]) (by simp [results, Try.results58, go_sem, j0, j1, j2, j3, j4, j5]) rfl ?_
  exact ⟨rfl, xf⟩
end Go.Proofs.Ytbmkhopmhmmibaa
