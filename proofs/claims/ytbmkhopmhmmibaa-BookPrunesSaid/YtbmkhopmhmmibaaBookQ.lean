/-
  (*Book).Table.
-/
import Derived.Test.YtbmkhopmhmmibaaBookP
namespace Go.Proofs.Ytbmkhopmhmmibaa
open Go.RowKit
set_option linter.unusedVariables false

def findTb (S : List Nat) (own xmax : Nat) (R : List Nat) (n : ByteArray) (T : List Tb) : Option Tb := T.find? fun t => seenE 1 S own xmax R n t.e
theorem findT_tb (S : List Nat) (own xmax : Nat) (R : List Nat) (n : ByteArray) (T : List Tb) : findT 1 S own xmax R n (T.map Tb.p) = (findTb S own xmax R n T).map Tb.p := by
  unfold findT findTb
  rw [List.find?_map]
  rfl
theorem findTb_mem {S : List Nat} {own xmax : Nat} {R : List Nat} {n : ByteArray} {T : List Tb} {t : Tb} (h : findTb S own xmax R n T = some t) : t ∈ T := List.mem_of_find?_eq_some h
def tbV (t : Tb) (v : Value) : Value := .agg #[.int .u64 (t.e.id : Int), .string t.e.nm, v, .int .u64 (t.e.xmin : Int), .int .u64 (t.e.xmax : Int)]
/-- What Table answers. -/
def TabR (o : Option Tb) (w w' : World) (e : Ending) : Prop := match o with
  | none => e = .returned (.tuple #[.agg #[.int .u64 0, .string ⟨#[]⟩, .slice none 0 0, .int .u64 0, .int .u64 0], .bool false])
  | some t => ∃ v', e = .returned (.tuple #[tbV t v', .bool true]) ∧ w'.ownsRow w.heap.size 121 2 v' t.cs.length (t.cs.flatMap Co.e)
set_option maxRecDepth 100000 in
set_option maxHeartbeats 2000000 in
theorem table_any (w : World) (B k g own xmin xmax bb last : Nat) (T : List Tb) (I : List (Nat × Ix)) (S R : List Nat) (F : Nat → Prop) (v vT vI : Value) (n : ByteArray) (hl : LG w g 1 S F) (hR : w.ownsRow bb 28 1 v R.length (ucells .u64 R)) (hn : R.length ≤ 9223372036854775807)
    (hB : Bk B w k last T I vT vI) (hBw : B ≤ w.heap.size) (h8 : ∀ t ∈ T, t.cs.length ≤ 8) :
    Calls Try.prog 38 #[.pointer (some ⟨k, 0, none⟩), .pointer (some ⟨g, 0, none⟩), .agg #[.int .u64 (own : Int), .int .u64 (xmin : Int), .int .u64 (xmax : Int), v], .string n] w fun e w' => TabR (findTb S own xmax R n T) w w' e ∧ Below w.heap.size w w' := by
  obtain ⟨A, c, hv, _, _, _⟩ := own_form hR
  subst hv
  obtain ⟨AT, ct, AI, ci, rfl, rfl, hT64, hI64, hM⟩ := hB.m
  have x0 : Below w.heap.size w ((w.alloc (.cells #[.int .u64 (own : Int), .int .u64 (xmin : Int), .int .u64 (xmax : Int), .slice A R.length c] 50)).alloc (.cells #[.int .u64 0, .string ⟨#[]⟩, .slice none 0 0, .int .u64 0, .int .u64 0] 85)) := ((Below.refl _ _).al _).al _
  have x0d : Below w.heap.size w ((w.alloc (.cells #[.int .u64 (own : Int), .int .u64 (xmin : Int), .int .u64 (xmax : Int), .slice A R.length c] 50)).alloc (.cells #[.int .u64 0, .string ⟨#[]⟩, .slice none 0 0, .int .u64 0, .int .u64 0] 85)).drew := x0.next (below_n _ 1)
  have b0 : Bx ((w.alloc (.cells #[.int .u64 (own : Int), .int .u64 (xmin : Int), .int .u64 (xmax : Int), .slice A R.length c] 50)).alloc (.cells #[.int .u64 0, .string ⟨#[]⟩, .slice none 0 0, .int .u64 0, .int .u64 0] 85)).drew w.heap.size 50 [.int .u64 (own : Int), .int .u64 (xmin : Int), .int .u64 (xmax : Int), .slice A R.length c] := ((Bx.new w 50 _ _ rfl).alloc _).below (below_n _ 1)
  have bz : Bx ((w.alloc (.cells #[.int .u64 (own : Int), .int .u64 (xmin : Int), .int .u64 (xmax : Int), .slice A R.length c] 50)).alloc (.cells #[.int .u64 0, .string ⟨#[]⟩, .slice none 0 0, .int .u64 0, .int .u64 0] 85)).drew (w.heap.size + 1) 85 [.int .u64 0, .string ⟨#[]⟩, .slice none 0 0, .int .u64 0, .int .u64 0] := by
    have := (Bx.new (w.alloc (.cells #[.int .u64 (own : Int), .int .u64 (xmin : Int), .int .u64 (xmax : Int), .slice A R.length c] 50)) 85 #[.int .u64 0, .string ⟨#[]⟩, .slice none 0 0, .int .u64 0, .int .u64 0] _ rfl).below (below_n _ 1)
    rw [alloc_size] at this
    exact this
  have bk := (hB.below x0d).box
  have hSd : ((w.alloc (.cells #[.int .u64 (own : Int), .int .u64 (xmin : Int), .int .u64 (xmax : Int), .slice A R.length c] 50)).alloc (.cells #[.int .u64 0, .string ⟨#[]⟩, .slice none 0 0, .int .u64 0, .int .u64 0] 85)).drew.cell? ⟨w.heap.size, 0, none⟩ = some (.int .u64 (own : Int)) ∧ ((w.alloc (.cells #[.int .u64 (own : Int), .int .u64 (xmin : Int), .int .u64 (xmax : Int), .slice A R.length c] 50)).alloc (.cells #[.int .u64 0, .string ⟨#[]⟩, .slice none 0 0, .int .u64 0, .int .u64 0] 85)).drew.cell? ⟨w.heap.size, 1, none⟩ = some (.int .u64 (xmin : Int)) ∧ ((w.alloc (.cells #[.int .u64 (own : Int), .int .u64 (xmin : Int), .int .u64 (xmax : Int), .slice A R.length c] 50)).alloc (.cells #[.int .u64 0, .string ⟨#[]⟩, .slice none 0 0, .int .u64 0, .int .u64 0] 85)).drew.cell? ⟨w.heap.size, 2, none⟩ = some (.int .u64 (xmax : Int)) ∧ ((w.alloc (.cells #[.int .u64 (own : Int), .int .u64 (xmin : Int), .int .u64 (xmax : Int), .slice A R.length c] 50)).alloc (.cells #[.int .u64 0, .string ⟨#[]⟩, .slice none 0 0, .int .u64 0, .int .u64 0] 85)).drew.cell? ⟨w.heap.size, 3, none⟩ = some (.slice A R.length c) ∧ ((w.alloc (.cells #[.int .u64 (own : Int), .int .u64 (xmin : Int), .int .u64 (xmax : Int), .slice A R.length c] 50)).alloc (.cells #[.int .u64 0, .string ⟨#[]⟩, .slice none 0 0, .int .u64 0, .int .u64 0] 85)).drew.cell? ⟨k, 1, none⟩ = some (.slice AT T.length ct) := ⟨b0.cell 0, b0.cell 1, b0.cell 2, b0.cell 3, bk.cell 1⟩
  have HFT := tfind_any _ g 1 own xmin xmax bb T.length ct 0 AT (T.map Tb.p) S R F _ n (hl.below x0d) (own_below hR x0d) hn (by simp) hT64 (hM.below x0d).rT (fun t ht => ((hM.below x0d).eT t ht))
  rw [findT_tb] at HFT
  have HB := Lib.hid hB
  have H8 := Lib.hid h8
  have HX := Lib.hid x0d
  obtain ⟨o, ho⟩ : ∃ o, findTb S own xmax R n T = o := ⟨_, rfl⟩
  rw [ho] at HFT ⊢
  have HO := Lib.hid ho
  clear hl hR hB hM h8 x0 ho b0 bk
  cases o with
  | none =>
    have HFT := Lib.hid (show Calls _ _ _ _ fun e w' => e = .returned (.tuple #[.pointer none, .bool false]) ∧ _ from HFT)
    clear HO H8
    go_enter Try.func38, Try.ntmps38
    go_upto_region 3 with fail
    go_region_held3 (fun w' => w'.cell? ⟨w.heap.size, 0, none⟩ = some (.int .u64 (own : Int)) ∧ w'.cell? ⟨w.heap.size, 1, none⟩ = some (.int .u64 (xmin : Int)) ∧ w'.cell? ⟨w.heap.size, 2, none⟩ = some (.int .u64 (xmax : Int)) ∧ w'.cell? ⟨w.heap.size, 3, none⟩ = some (.slice A R.length c) ∧ w'.cell? ⟨k, 1, none⟩ = some (.slice AT T.length ct)) (first | (with_reducible assumption))
      (first | (go_at_call 55; (with_reducible refine (HFT.out).mono ?_); rintro e w1 ⟨rfl, hb1⟩; have x1 := HX.out.next hb1; have b1 := bz.below hb1; have hS1 : w1.cell? ⟨w.heap.size, 0, none⟩ = some (.int .u64 (own : Int)) ∧ w1.cell? ⟨w.heap.size, 1, none⟩ = some (.int .u64 (xmin : Int)) ∧ w1.cell? ⟨w.heap.size, 2, none⟩ = some (.int .u64 (xmax : Int)) ∧ w1.cell? ⟨w.heap.size, 3, none⟩ = some (.slice A R.length c) ∧ w1.cell? ⟨k, 1, none⟩ = some (.slice AT T.length ct) := ⟨(hb1.cell (p := ⟨w.heap.size, 0, none⟩) (World.block_lt_of_cell? _ _ hSd.1)).trans hSd.1, (hb1.cell (p := ⟨w.heap.size, 1, none⟩) (World.block_lt_of_cell? _ _ hSd.2.1)).trans hSd.2.1, (hb1.cell (p := ⟨w.heap.size, 2, none⟩) (World.block_lt_of_cell? _ _ hSd.2.2.1)).trans hSd.2.2.1, (hb1.cell (p := ⟨w.heap.size, 3, none⟩) (World.block_lt_of_cell? _ _ hSd.2.2.2.1)).trans hSd.2.2.2.1, (hb1.cell (p := ⟨k, 1, none⟩) (World.block_lt_of_cell? _ _ hSd.2.2.2.2)).trans hSd.2.2.2.2⟩))
    have k0 := b1.cell 0
    have k1 := b1.cell 1
    have k2 := b1.cell 2
    have k3 := b1.cell 3
    have k4 := b1.cell 4
    have f0 := b1.frozen 0
    have f1 := b1.frozen 1
    have f2 := b1.frozen 2
    have f3 := b1.frozen 3
    have f4 := b1.frozen 4
    have bf := bx_set5 (u0 := (.int .u64 0)) (u1 := (.string ⟨#[]⟩)) (u2 := (.slice none 0 0)) (u3 := (.int .u64 0)) (u4 := (.int .u64 0)) b1
    have xf := below_set5 (u0 := (.int .u64 0)) (u1 := (.string ⟨#[]⟩)) (u2 := (.slice none 0 0)) (u3 := (.int .u64 0)) (u4 := (.int .u64 0)) x1 (Nat.le_succ _)
    go_wp2_with fail
    clear k0 k1 k2 k3 k4 f0 f1 f2 f3 f4
    have j0 := bf.cell 0
    have j1 := bf.cell 1
    have j2 := bf.cell 2
    have j3 := bf.cell 3
    have j4 := bf.cell 4
    generalize (((((w1.setCell ⟨w.heap.size + 1, 0, none⟩ (.int .u64 0)).setCell ⟨w.heap.size + 1, 1, none⟩ (.string ⟨#[]⟩)).setCell ⟨w.heap.size + 1, 2, none⟩ (.slice none 0 0)).setCell ⟨w.heap.size + 1, 3, none⟩ (.int .u64 0)).setCell ⟨w.heap.size + 1, 4, none⟩ (.int .u64 0)) = W at *
    refine bodyPost_ret (v := .tuple #[.agg #[.int .u64 0, .string ⟨#[]⟩, .slice none 0 0, .int .u64 0, .int .u64 0], .bool false]) (by simp [results, Try.results38, go_sem, j0, j1, j2, j3, j4]) rfl ?_
    exact ⟨rfl, xf⟩
  | some t =>
    have HFT := Lib.hid (show Calls _ _ _ _ fun e w' => e = .returned (.tuple #[.pointer (some ⟨t.b, 0, none⟩), .bool true]) ∧ _ from HFT)
    have ht := findTb_mem HO.out
    have HTM := Lib.hid ht
    clear ht
    go_enter Try.func38, Try.ntmps38
    go_upto_region 3 with fail
    go_region_held3 (fun w' => w'.cell? ⟨w.heap.size, 0, none⟩ = some (.int .u64 (own : Int)) ∧ w'.cell? ⟨w.heap.size, 1, none⟩ = some (.int .u64 (xmin : Int)) ∧ w'.cell? ⟨w.heap.size, 2, none⟩ = some (.int .u64 (xmax : Int)) ∧ w'.cell? ⟨w.heap.size, 3, none⟩ = some (.slice A R.length c) ∧ w'.cell? ⟨k, 1, none⟩ = some (.slice AT T.length ct)) (first | (with_reducible assumption))
      (first | (go_at_call 55; (with_reducible refine (HFT.out).mono ?_); rintro e w1 ⟨rfl, hb1⟩; have x1 := HX.out.next hb1; have b1 := bz.below hb1; have hS1 : w1.cell? ⟨w.heap.size, 0, none⟩ = some (.int .u64 (own : Int)) ∧ w1.cell? ⟨w.heap.size, 1, none⟩ = some (.int .u64 (xmin : Int)) ∧ w1.cell? ⟨w.heap.size, 2, none⟩ = some (.int .u64 (xmax : Int)) ∧ w1.cell? ⟨w.heap.size, 3, none⟩ = some (.slice A R.length c) ∧ w1.cell? ⟨k, 1, none⟩ = some (.slice AT T.length ct) := ⟨(hb1.cell (p := ⟨w.heap.size, 0, none⟩) (World.block_lt_of_cell? _ _ hSd.1)).trans hSd.1, (hb1.cell (p := ⟨w.heap.size, 1, none⟩) (World.block_lt_of_cell? _ _ hSd.2.1)).trans hSd.2.1, (hb1.cell (p := ⟨w.heap.size, 2, none⟩) (World.block_lt_of_cell? _ _ hSd.2.2.1)).trans hSd.2.2.1, (hb1.cell (p := ⟨w.heap.size, 3, none⟩) (World.block_lt_of_cell? _ _ hSd.2.2.2.1)).trans hSd.2.2.2.1, (hb1.cell (p := ⟨k, 1, none⟩) (World.block_lt_of_cell? _ _ hSd.2.2.2.2)).trans hSd.2.2.2.2⟩))
    have B1 := HB.out.below x1
    have ht := B1.tB t HTM.out
    have HSH := Lib.hid (tshown_any w1 t.b B t ht.2.1 ht.2.2 (Nat.le_trans (by exact hBw) x1.size) (H8.out t HTM.out))
    clear B1 ht
    go_wp2_with fail
    refine (HSH.out).mono ?_
    rintro e w2 ⟨v2, rfl, o2, hb2⟩
    have x2 := x1.next hb2
    have b2 := b1.below hb2
    obtain ⟨A2, c2, rfl, _, _, _⟩ := own_form o2
    have O2 := Lib.hid (own_le o2 x1.size)
    clear b1 x1 o2 hS1 hSd HSH
    have k0 := b2.cell 0
    have k1 := b2.cell 1
    have k2 := b2.cell 2
    have k3 := b2.cell 3
    have k4 := b2.cell 4
    have f0 := b2.frozen 0
    have f1 := b2.frozen 1
    have f2 := b2.frozen 2
    have f3 := b2.frozen 3
    have f4 := b2.frozen 4
    have bf := bx_set5 (u0 := (.int .u64 (t.e.id : Int))) (u1 := (.string t.e.nm)) (u2 := (.slice A2 t.cs.length c2)) (u3 := (.int .u64 (t.e.xmin : Int))) (u4 := (.int .u64 (t.e.xmax : Int))) b2
    have xf := below_set5 (u0 := (.int .u64 (t.e.id : Int))) (u1 := (.string t.e.nm)) (u2 := (.slice A2 t.cs.length c2)) (u3 := (.int .u64 (t.e.xmin : Int))) (u4 := (.int .u64 (t.e.xmax : Int))) x2 (Nat.le_succ _)
    have OF := Lib.hid (own_set5 (u0 := (.int .u64 (t.e.id : Int))) (u1 := (.string t.e.nm)) (u2 := (.slice A2 t.cs.length c2)) (u3 := (.int .u64 (t.e.xmin : Int))) (u4 := (.int .u64 (t.e.xmax : Int))) O2.out b2 (by decide))
    go_wp2_with fail
    clear k0 k1 k2 k3 k4 f0 f1 f2 f3 f4
    have j0 := bf.cell 0
    have j1 := bf.cell 1
    have j2 := bf.cell 2
    have j3 := bf.cell 3
    have j4 := bf.cell 4
    generalize (((((w2.setCell ⟨w.heap.size + 1, 0, none⟩ (.int .u64 (t.e.id : Int))).setCell ⟨w.heap.size + 1, 1, none⟩ (.string t.e.nm)).setCell ⟨w.heap.size + 1, 2, none⟩ (.slice A2 t.cs.length c2)).setCell ⟨w.heap.size + 1, 3, none⟩ (.int .u64 (t.e.xmin : Int))).setCell ⟨w.heap.size + 1, 4, none⟩ (.int .u64 (t.e.xmax : Int))) = W at *
    refine bodyPost_ret (v := .tuple #[tbV t (.slice A2 t.cs.length c2), .bool true]) (by simp [tbV, results, Try.results38, go_sem, j0, j1, j2, j3, j4]) rfl ?_
    exact ⟨⟨_, rfl, OF.out⟩, xf⟩
end Go.Proofs.Ytbmkhopmhmmibaa
