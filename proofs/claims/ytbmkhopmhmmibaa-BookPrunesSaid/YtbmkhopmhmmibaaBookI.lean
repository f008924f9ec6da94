/-
  An index in memory: it asks its table, too.
-/
import Derived.Test.YtbmkhopmhmmibaaBookC
namespace Go.Proofs.Ytbmkhopmhmmibaa
open Go.RowKit
set_option linter.unusedVariables false

/-- An index: its entry; its table's block and entry. -/
structure Ix where
  e : Ent
  tb : Nat
  te : Ent
  col : Nat
structure Im (w : World) (b : Nat) (x : Ix) : Prop where
  en : En w b x.e
  tp : w.cell? ⟨b, 4, none⟩ = some (.pointer (some ⟨x.tb, 0, none⟩))
  ten : En w x.tb x.te
theorem Im.below {w w' : World} {b : Nat} {x : Ix} (h : Im w b x) (hb : Below w.heap.size w w') : Im w' b x :=
  ⟨h.en.below hb, (hb.cell (p := ⟨b, 4, none⟩) (World.block_lt_of_cell? _ _ h.en.c0 : (⟨b, 0, none⟩ : Addr).block < w.heap.size)).trans h.tp, h.ten.below hb⟩
def visI (f : Nat) (S : List Nat) (own xmax : Nat) (R : List Nat) (x : Ix) : Bool := visB f S own xmax R x.e.xmin x.e.xmax && visB f S own xmax R x.te.xmin x.te.xmax
def aliveI (f : Nat) (S : List Nat) (x : Ix) : Bool := aliveE f S x.e && aliveE f S x.te
set_option maxRecDepth 100000 in
set_option maxHeartbeats 1000000 in
theorem ialive_any (w : World) (b g f : Nat) (x : Ix) (S : List Nat) (F : Nat → Prop) (hl : LG w g f S F) (h : Im w b x) :
    Calls Try.prog 121 #[.pointer (some ⟨b, 0, none⟩), .pointer (some ⟨g, 0, none⟩)] w fun e w' => e = .returned (.bool (aliveI f S x)) ∧ Below w.heap.size w w' := by
  have H1 := Lib.hid (alive_any w b g f x.e S F hl h.en)
  have H2 := Lib.hid (fun W (hb : Below w.heap.size w W) => alive_any W x.tb g f x.te S F (hl.below hb) (h.ten.below hb))
  have HI := Lib.hid h
  unfold aliveI
  generalize aliveE f S x.e = z at *
  generalize aliveE f S x.te = y at *
  clear hl h
  go_enter Try.func121, Try.ntmps121
  go_wp2_with fail
  refine (H1.out).mono ?_
  rintro e w1 ⟨rfl, hb1⟩
  have c4 := (HI.out.below hb1).tp
  cases z with
  | false =>
    go_wp2
    go_ret
    exact ⟨rfl, hb1⟩
  | true =>
    go_wp2_with (go_at_call 115; (with_reducible refine (H2.out _ hb1).mono ?_); rintro e w2 ⟨rfl, hb2⟩; have hb3 := hb1.next hb2)
    go_ret
    exact ⟨by simp, hb3⟩
set_option maxRecDepth 100000 in
set_option maxHeartbeats 1000000 in
theorem ivis_any (w : World) (b g f own xmin xmax bb : Nat) (x : Ix) (S R : List Nat) (F : Nat → Prop) (v : Value) (hl : LG w g f S F) (hR : w.ownsRow bb 28 1 v R.length (ucells .u64 R)) (hn : R.length ≤ 9223372036854775807) (h : Im w b x) :
    Calls Try.prog 60 #[.pointer (some ⟨b, 0, none⟩), .pointer (some ⟨g, 0, none⟩), .agg #[.int .u64 (own : Int), .int .u64 (xmin : Int), .int .u64 (xmax : Int), v]] w fun e w' => e = .returned (.bool (visI f S own xmax R x)) ∧ Below w.heap.size w w' := by
  obtain ⟨A, c, hv, _, _, _⟩ := own_form hR
  subst hv
  have x0 : Below w.heap.size w (w.alloc (.cells #[.int .u64 (own : Int), .int .u64 (xmin : Int), .int .u64 (xmax : Int), .slice A R.length c] 50)).drew := ((Below.refl _ _).al _).next (below_n _ 1)
  have b0 : Bx (w.alloc (.cells #[.int .u64 (own : Int), .int .u64 (xmin : Int), .int .u64 (xmax : Int), .slice A R.length c] 50)).drew w.heap.size 50 [.int .u64 (own : Int), .int .u64 (xmin : Int), .int .u64 (xmax : Int), .slice A R.length c] := Bx.new w 50 _ _ rfl
  have HV1 := Lib.hid (evis_any _ b g f own xmin xmax bb x.e S R F _ (hl.below x0) (own_below hR x0) hn (h.en.below x0))
  have HV2 := Lib.hid (fun W (hb : Below w.heap.size w W) => evis_any W x.tb g f own xmin xmax bb x.te S R F _ (hl.below hb) (own_below hR hb) hn (h.ten.below hb))
  have hlb : b < w.heap.size := World.block_lt_of_cell? _ _ h.en.c0
  have hx1 : Below w.heap.size w (w.alloc (.cells #[.int .u64 (own : Int), .int .u64 (xmin : Int), .int .u64 (xmax : Int), .slice A R.length c] 50)) := (Below.refl _ _).al _
  have HS : ∀ w', Below (w.alloc (.cells #[.int .u64 (own : Int), .int .u64 (xmin : Int), .int .u64 (xmax : Int), .slice A R.length c] 50)).drew.heap.size (w.alloc (.cells #[.int .u64 (own : Int), .int .u64 (xmin : Int), .int .u64 (xmax : Int), .slice A R.length c] 50)).drew w' → w'.cell? ⟨w.heap.size, 0, none⟩ = some (.int .u64 (own : Int)) ∧ w'.cell? ⟨w.heap.size, 1, none⟩ = some (.int .u64 (xmin : Int)) ∧ w'.cell? ⟨w.heap.size, 2, none⟩ = some (.int .u64 (xmax : Int)) ∧ w'.cell? ⟨w.heap.size, 3, none⟩ = some (.slice A R.length c) ∧ w'.cell? ⟨b, 4, none⟩ = some (.pointer (some ⟨x.tb, 0, none⟩)) := fun w' hb => ⟨(b0.below hb).cell 0, (b0.below hb).cell 1, (b0.below hb).cell 2, (b0.below hb).cell 3, (h.below (x0.next hb)).tp⟩
  have hS0 := HS _ (Below.refl _ _)
  replace HS := Lib.hid HS
  unfold visI
  generalize visB f S own xmax R x.e.xmin x.e.xmax = z at *
  generalize visB f S own xmax R x.te.xmin x.te.xmax = y at *
  have xr : Below (w.alloc (.cells #[.int .u64 (own : Int), .int .u64 (xmin : Int), .int .u64 (xmax : Int), .slice A R.length c] 50)).drew.heap.size (w.alloc (.cells #[.int .u64 (own : Int), .int .u64 (xmin : Int), .int .u64 (xmax : Int), .slice A R.length c] 50)).drew (w.alloc (.cells #[.int .u64 (own : Int), .int .u64 (xmin : Int), .int .u64 (xmax : Int), .slice A R.length c] 50)).drew := Below.refl _ _
  clear hl hR h b0
  cases z with
  | false =>
    go_enter Try.func60, Try.ntmps60
    go_upto_region 1 with fail
    refine wp_region_held_drew (S := (fun w' => w'.cell? ⟨w.heap.size, 0, none⟩ = some (.int .u64 (own : Int)) ∧ w'.cell? ⟨w.heap.size, 1, none⟩ = some (.int .u64 (xmin : Int)) ∧ w'.cell? ⟨w.heap.size, 2, none⟩ = some (.int .u64 (xmax : Int)) ∧ w'.cell? ⟨w.heap.size, 3, none⟩ = some (.slice A R.length c) ∧ w'.cell? ⟨b, 4, none⟩ = some (.pointer (some ⟨x.tb, 0, none⟩)))) (by kernel_rfl) ?_ (fun hHeld => ?_)
    · assumption
    refine wpAnyH_take (i := 0) (oi := { dst := some 7, op := Go.Op.move (Go.Operand.tmp 0), type := 130, pos := "entry.go:89", after := #[], guard := none }) (v := ?v1) rfl (by kernel_rfl) (by kernel_rfl) (by kernel_rfl) (fun _ _ _ h => h) (Or.inl ⟨by rfl, ?hy1⟩) (by assumption) ?rest1
    case hy1 => (intro w' hSw; (try dsimp only at hSw); go_simp <;> with_reducible rfl)
    (try simp only [Act.put, List.setIfInBounds_toArray, List.set_cons_zero, List.set_cons_succ])
    refine wpAnyH_take (i := 1) (oi := { dst := some 8, op := Go.Op.nilCheck (Go.Operand.tmp 7), type := 0, pos := "entry.go:89", after := #[{ on := 0, ground := Go.Ground.data }], guard := none }) (v := ?v2) rfl (by kernel_rfl) (by kernel_rfl) (by kernel_rfl) (fun _ _ _ h => h) (Or.inl ⟨by rfl, ?hy2⟩) (by assumption) ?rest2
    case hy2 => (intro w' hSw; (try dsimp only at hSw); go_simp <;> with_reducible rfl)
    (try simp only [Act.put, List.setIfInBounds_toArray, List.set_cons_zero, List.set_cons_succ])
    refine wpAnyH_take (i := 2) (oi := { dst := some 9, op := Go.Op.fieldAddr 132 (Go.Operand.tmp 8) 0, type := 0, pos := "entry.go:89", after := #[{ on := 1, ground := Go.Ground.data }], guard := none }) (v := ?v3) rfl (by kernel_rfl) (by kernel_rfl) (by kernel_rfl) (fun _ _ _ h => h) (Or.inl ⟨by rfl, ?hy3⟩) (by assumption) ?rest3
    case hy3 => (intro w' hSw; (try dsimp only at hSw); go_simp <;> with_reducible rfl)
    (try simp only [Act.put, List.setIfInBounds_toArray, List.set_cons_zero, List.set_cons_succ])
    refine wpAnyH_take (i := 3) (oi := { dst := some 10, op := Go.Op.move (Go.Operand.tmp 1), type := 24, pos := "entry.go:89", after := #[], guard := none }) (v := ?v4) rfl (by kernel_rfl) (by kernel_rfl) (by kernel_rfl) (fun _ _ _ h => h) (Or.inl ⟨by rfl, ?hy4⟩) (by assumption) ?rest4
    case hy4 => (intro w' hSw; (try dsimp only at hSw); go_simp <;> with_reducible rfl)
    (try simp only [Act.put, List.setIfInBounds_toArray, List.set_cons_zero, List.set_cons_succ])
    refine wpAnyH_take (i := 4) (oi := { dst := some 11, op := Go.Op.load 50 (Go.Operand.tmp 5), type := 50, pos := "entry.go:89", after := #[], guard := none }) (v := ?v5) rfl (by kernel_rfl) (by kernel_rfl) (by kernel_rfl) (fun _ _ _ h => h) (Or.inl ⟨by rfl, ?hy5⟩) (by assumption) ?rest5
    case hy5 => (intro w' hSw; (try dsimp only at hSw); go_simp <;> with_reducible rfl)
    (try simp only [Act.put, List.setIfInBounds_toArray, List.set_cons_zero, List.set_cons_succ])
    refine wpAnyH_ready (rs := [5]) (by kernel_rfl) (by simp) ?_
    refine AllReadyH.cons (o := { dst := some 12, op := Go.Op.call { callee := Go.Callee.value (Go.Operand.func 84), args := #[Go.Operand.tmp 9, Go.Operand.tmp 10, Go.Operand.tmp 11], argTypes := #[116, 24, 50] }, type := 4, pos := "entry.go:89", after := #[{ on := 2, ground := Go.Ground.data }, { on := 3, ground := Go.Ground.data }, { on := 4, ground := Go.Ground.data }], guard := none }) rfl (fun K hK => ?_) AllReadyH.nil
    go_simp
    (go_at_call 84; (with_reducible refine (HV1.out).mono ?_); rintro e w1 ⟨rfl, hb1⟩; have x1 := xr.next hb1; have hS1 := HS.out _ x1)
    refine hK.out _ _ ?_ (fun hHeld => ?_)
    · first | assumption | exact HS.out _ x1
    clear hK K
    (try simp only [Act.put, List.setIfInBounds_toArray, List.set_cons_zero, List.set_cons_succ])
    refine wpAnyH_take (i := 6) (oi := { dst := some 13, op := Go.Op.move (Go.Operand.tmp 12), type := 4, pos := "entry.go:89", after := #[{ on := 5, ground := Go.Ground.data }, { on := 5, ground := Go.Ground.chain }], guard := none }) (v := ?v6) rfl (by kernel_rfl) (by kernel_rfl) (by kernel_rfl) (fun _ _ _ h => h) (Or.inl ⟨by rfl, ?hy6⟩) (by assumption) ?rest6
    case hy6 => (intro w' hSw; (try dsimp only at hSw); go_simp <;> with_reducible rfl)
    (try simp only [Act.put, List.setIfInBounds_toArray, List.set_cons_zero, List.set_cons_succ])
    refine wpAnyH_take (i := 7) (oi := { dst := some 14, op := Go.Op.move (Go.Operand.tmp 0), type := 130, pos := "entry.go:89", after := #[{ on := 6, ground := Go.Ground.guard }], guard := some (6, true) }) (v := undef) rfl (by kernel_rfl) (by kernel_rfl) (by kernel_rfl) (fun _ _ _ h => h) (Or.inr ⟨by rfl, rfl⟩) (by assumption) ?_
    (try simp only [Act.put, List.setIfInBounds_toArray, List.set_cons_zero, List.set_cons_succ])
    refine wpAnyH_take (i := 8) (oi := { dst := some 15, op := Go.Op.nilCheck (Go.Operand.tmp 14), type := 0, pos := "entry.go:89", after := #[{ on := 7, ground := Go.Ground.data }, { on := 6, ground := Go.Ground.guard }], guard := some (6, true) }) (v := undef) rfl (by kernel_rfl) (by kernel_rfl) (by kernel_rfl) (fun _ _ _ h => h) (Or.inr ⟨by rfl, rfl⟩) (by assumption) ?_
    (try simp only [Act.put, List.setIfInBounds_toArray, List.set_cons_zero, List.set_cons_succ])
    refine wpAnyH_take (i := 9) (oi := { dst := some 16, op := Go.Op.fieldAddr 132 (Go.Operand.tmp 15) 1, type := 0, pos := "entry.go:89", after := #[{ on := 8, ground := Go.Ground.data }, { on := 6, ground := Go.Ground.guard }], guard := some (6, true) }) (v := undef) rfl (by kernel_rfl) (by kernel_rfl) (by kernel_rfl) (fun _ _ _ h => h) (Or.inr ⟨by rfl, rfl⟩) (by assumption) ?_
    (try simp only [Act.put, List.setIfInBounds_toArray, List.set_cons_zero, List.set_cons_succ])
    refine wpAnyH_take (i := 10) (oi := { dst := some 17, op := Go.Op.load 114 (Go.Operand.tmp 16), type := 114, pos := "entry.go:89", after := #[{ on := 9, ground := Go.Ground.data }, { on := 6, ground := Go.Ground.guard }], guard := some (6, true) }) (v := undef) rfl (by kernel_rfl) (by kernel_rfl) (by kernel_rfl) (fun _ _ _ h => h) (Or.inr ⟨by rfl, rfl⟩) (by assumption) ?_
    (try simp only [Act.put, List.setIfInBounds_toArray, List.set_cons_zero, List.set_cons_succ])
    refine wpAnyH_take (i := 11) (oi := { dst := some 18, op := Go.Op.nilCheck (Go.Operand.tmp 17), type := 0, pos := "entry.go:89", after := #[{ on := 10, ground := Go.Ground.data }, { on := 6, ground := Go.Ground.guard }], guard := some (6, true) }) (v := undef) rfl (by kernel_rfl) (by kernel_rfl) (by kernel_rfl) (fun _ _ _ h => h) (Or.inr ⟨by rfl, rfl⟩) (by assumption) ?_
    (try simp only [Act.put, List.setIfInBounds_toArray, List.set_cons_zero, List.set_cons_succ])
    refine wpAnyH_take (i := 12) (oi := { dst := some 19, op := Go.Op.fieldAddr 123 (Go.Operand.tmp 18) 0, type := 0, pos := "entry.go:89", after := #[{ on := 11, ground := Go.Ground.data }, { on := 6, ground := Go.Ground.guard }], guard := some (6, true) }) (v := undef) rfl (by kernel_rfl) (by kernel_rfl) (by kernel_rfl) (fun _ _ _ h => h) (Or.inr ⟨by rfl, rfl⟩) (by assumption) ?_
    (try simp only [Act.put, List.setIfInBounds_toArray, List.set_cons_zero, List.set_cons_succ])
    refine wpAnyH_take (i := 13) (oi := { dst := some 20, op := Go.Op.move (Go.Operand.tmp 1), type := 24, pos := "entry.go:89", after := #[{ on := 6, ground := Go.Ground.guard }], guard := some (6, true) }) (v := undef) rfl (by kernel_rfl) (by kernel_rfl) (by kernel_rfl) (fun _ _ _ h => h) (Or.inr ⟨by rfl, rfl⟩) (by assumption) ?_
    (try simp only [Act.put, List.setIfInBounds_toArray, List.set_cons_zero, List.set_cons_succ])
    refine wpAnyH_take (i := 14) (oi := { dst := some 21, op := Go.Op.load 50 (Go.Operand.tmp 5), type := 50, pos := "entry.go:89", after := #[{ on := 6, ground := Go.Ground.guard }], guard := some (6, true) }) (v := undef) rfl (by kernel_rfl) (by kernel_rfl) (by kernel_rfl) (fun _ _ _ h => h) (Or.inr ⟨by rfl, rfl⟩) (by assumption) ?_
    (try simp only [Act.put, List.setIfInBounds_toArray, List.set_cons_zero, List.set_cons_succ])
    refine wpAnyH_take (i := 15) (oi := { dst := some 22, op := Go.Op.call { callee := Go.Callee.value (Go.Operand.func 84), args := #[Go.Operand.tmp 19, Go.Operand.tmp 20, Go.Operand.tmp 21], argTypes := #[116, 24, 50] }, type := 4, pos := "entry.go:89", after := #[{ on := 12, ground := Go.Ground.data }, { on := 13, ground := Go.Ground.data }, { on := 14, ground := Go.Ground.data }, { on := 6, ground := Go.Ground.chain }, { on := 6, ground := Go.Ground.guard }], guard := some (6, true) }) (v := undef) rfl (by kernel_rfl) (by kernel_rfl) (by kernel_rfl) (fun _ _ _ h => h) (Or.inr ⟨by rfl, rfl⟩) (by assumption) ?_
    (try simp only [Act.put, List.setIfInBounds_toArray, List.set_cons_zero, List.set_cons_succ])
    refine wpAnyH_take (i := 16) (oi := { dst := some 23, op := Go.Op.pick (Go.Operand.tmp 13) (Go.Operand.tmp 22) (Go.Operand.const (Go.Value.bool false)), type := 4, pos := "entry.go:89", after := #[{ on := 6, ground := Go.Ground.data }, { on := 15, ground := Go.Ground.data }], guard := none }) (v := ?v7) rfl (by kernel_rfl) (by kernel_rfl) (by kernel_rfl) (fun _ _ _ h => h) (Or.inl ⟨by rfl, ?hy7⟩) (by assumption) ?rest7
    case hy7 => (intro w' hSw; (try dsimp only at hSw); go_simp <;> with_reducible rfl)
    (try simp only [Act.put, List.setIfInBounds_toArray, List.set_cons_zero, List.set_cons_succ])
    refine wpAnyH_take (i := 17) (oi := { dst := some 6, op := Go.Op.assign (Go.Operand.tmp 23), type := 4, pos := "entry.go:89", after := #[{ on := 16, ground := Go.Ground.data }, { on := 15, ground := Go.Ground.chain }, { on := 0, ground := Go.Ground.phase }, { on := 1, ground := Go.Ground.phase }, { on := 2, ground := Go.Ground.phase }, { on := 3, ground := Go.Ground.phase }, { on := 4, ground := Go.Ground.phase }, { on := 5, ground := Go.Ground.phase }, { on := 6, ground := Go.Ground.phase }, { on := 7, ground := Go.Ground.phase }, { on := 8, ground := Go.Ground.phase }, { on := 9, ground := Go.Ground.phase }, { on := 10, ground := Go.Ground.phase }, { on := 11, ground := Go.Ground.phase }, { on := 12, ground := Go.Ground.phase }, { on := 13, ground := Go.Ground.phase }, { on := 14, ground := Go.Ground.phase }, { on := 15, ground := Go.Ground.phase }, { on := 16, ground := Go.Ground.phase }], guard := none }) (v := ?v8) rfl (by kernel_rfl) (by kernel_rfl) (by kernel_rfl) (fun _ _ _ h => h) (Or.inl ⟨by rfl, ?hy8⟩) (by assumption) ?rest8
    case hy8 => (intro w' hSw; (try dsimp only at hSw); go_simp <;> with_reducible rfl)
    (try simp only [Act.put, List.setIfInBounds_toArray, List.set_cons_zero, List.set_cons_succ])
    refine wpAnyH_done (by kernel_rfl) ?_ _
    go_wp2_with fail
    go_ret
    exact ⟨by simp, x0.next hb1⟩
  | true =>
    go_enter Try.func60, Try.ntmps60
    go_upto_region 1 with fail
    go_region_held3 (fun w' => w'.cell? ⟨w.heap.size, 0, none⟩ = some (.int .u64 (own : Int)) ∧ w'.cell? ⟨w.heap.size, 1, none⟩ = some (.int .u64 (xmin : Int)) ∧ w'.cell? ⟨w.heap.size, 2, none⟩ = some (.int .u64 (xmax : Int)) ∧ w'.cell? ⟨w.heap.size, 3, none⟩ = some (.slice A R.length c) ∧ w'.cell? ⟨b, 4, none⟩ = some (.pointer (some ⟨x.tb, 0, none⟩))) (first | (with_reducible assumption))
      (first
      | (go_at_call 84; (with_reducible refine (HV1.out).mono ?_); rintro e w1 ⟨rfl, hb1⟩; have x1 := x0.next hb1; have hS1 := HS.out _ (xr.next hb1))
      | (go_at_call 84; (with_reducible refine (HV2.out _ x1).mono ?_); rintro e w2 ⟨rfl, hb2⟩; have x2 := x1.next hb2; have hS2 := HS.out _ ((xr.next hb1).next hb2)))
    go_wp2_with fail
    go_ret
    exact ⟨by simp, x2⟩
end Go.Proofs.Ytbmkhopmhmmibaa
