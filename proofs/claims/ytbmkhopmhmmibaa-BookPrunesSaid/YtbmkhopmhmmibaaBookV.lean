/-
  A book in memory; vacant.
-/
import Derived.Test.YtbmkhopmhmmibaaBookJ
namespace Go.Proofs.Ytbmkhopmhmmibaa
open Go.RowKit
set_option linter.unusedVariables false

/-- A book: its block k; its tables; its indexes. -/
structure BkM (w : World) (k last : Nat) (AT : Option Addr) (N ct : Nat) (T : List (Nat × Ent)) (AI : Option Addr) (M ci : Nat) (I : List (Nat × Ix)) : Prop where
  box : Bx w k 103 [.int .u64 (last : Int), .slice AT N ct, .slice AI M ci]
  nT : N = T.length
  rT : Rd w 1 AT N (pts T)
  eT : ∀ t ∈ T, En w t.1 t.2
  nI : M = I.length
  rI : Rd w 1 AI M (pts I)
  eI : ∀ t ∈ I, Im w t.1 t.2
theorem BkM.below {w w' : World} {k last N ct M ci : Nat} {AT AI : Option Addr} {T : List (Nat × Ent)} {I : List (Nat × Ix)} (h : BkM w k last AT N ct T AI M ci I) (hb : Below w.heap.size w w') : BkM w' k last AT N ct T AI M ci I :=
  ⟨h.box.below hb, h.nT, h.rT.below hb, fun t ht => (h.eT t ht).below hb, h.nI, h.rI.below hb, fun t ht => (h.eI t ht).below hb⟩
/-- May a name be given? -/
def vacV (S : List Nat) (own xmax : Nat) (R : List Nat) (n : ByteArray) (T : List (Nat × Ent)) (I : List (Nat × Ix)) : Int :=
  if (findT 1 S own xmax R n T).isSome || (findI 1 S own xmax R n I).isSome then 7 else if contT 1 S own xmax R n T || contJ 1 S own xmax R n I then 11 else 0
set_option maxRecDepth 100000 in
set_option maxHeartbeats 2000000 in
theorem vacant_any (w : World) (k g own xmin xmax bb last N ct M ci : Nat) (AT AI : Option Addr) (T : List (Nat × Ent)) (I : List (Nat × Ix)) (S R : List Nat) (F : Nat → Prop) (v : Value) (n : ByteArray) (hl : LG w g 1 S F) (hR : w.ownsRow bb 28 1 v R.length (ucells .u64 R)) (hn : R.length ≤ 9223372036854775807)
    (hB : BkM w k last AT N ct T AI M ci I) (hN : N ≤ 9223372036854775807) (hM : M ≤ 9223372036854775807) :
    Calls Try.prog 49 #[.pointer (some ⟨k, 0, none⟩), .pointer (some ⟨g, 0, none⟩), .agg #[.int .u64 (own : Int), .int .u64 (xmin : Int), .int .u64 (xmax : Int), v], .string n] w fun e w' => e = .returned (.int .i64 (vacV S own xmax R n T I)) ∧ Below w.heap.size w w' := by
  obtain ⟨A, c, hv, _, _, _⟩ := own_form hR
  subst hv
  have xV : Below w.heap.size w (w.alloc (.cells #[.int .u64 (own : Int), .int .u64 (xmin : Int), .int .u64 (xmax : Int), .slice A R.length c] 50)) := (Below.refl _ _).al _
  have b0 := Bx.new w 50 #[.int .u64 (own : Int), .int .u64 (xmin : Int), .int .u64 (xmax : Int), .slice A R.length c] [.int .u64 (own : Int), .int .u64 (xmin : Int), .int .u64 (xmax : Int), .slice A R.length c] rfl
  have hl := hl.below xV
  have hR := own_below hR xV
  have hB := hB.below xV
  have xVN := fun W' (hb : Below (w.alloc (.cells #[.int .u64 (own : Int), .int .u64 (xmin : Int), .int .u64 (xmax : Int), .slice A R.length c] 50)).heap.size (w.alloc (.cells #[.int .u64 (own : Int), .int .u64 (xmin : Int), .int .u64 (xmax : Int), .slice A R.length c] 50)) W') => xV.next hb
  go_enter Try.func49, Try.ntmps49
  go_upto_region 1 with fail
  generalize w.alloc (.cells #[.int .u64 (own : Int), .int .u64 (xmin : Int), .int .u64 (xmax : Int), .slice A R.length c] 50) = V at *
  generalize hq0 : w.heap.size = q0 at *
  have HQ0 := Lib.hid hq0
  clear hq0
  have HS : ∀ w', Below V.heap.size V w' → w'.cell? ⟨q0, 0, none⟩ = some (.int .u64 (own : Int)) ∧ w'.cell? ⟨q0, 1, none⟩ = some (.int .u64 (xmin : Int)) ∧ w'.cell? ⟨q0, 2, none⟩ = some (.int .u64 (xmax : Int)) ∧ w'.cell? ⟨q0, 3, none⟩ = some (.slice A R.length c) ∧ w'.cell? ⟨k, 1, none⟩ = some (.slice AT N ct) ∧ w'.cell? ⟨k, 2, none⟩ = some (.slice AI M ci) := fun w' hb => ⟨(b0.below hb).cell 0, (b0.below hb).cell 1, (b0.below hb).cell 2, (b0.below hb).cell 3, (hB.box.below hb).cell 1, (hB.box.below hb).cell 2⟩
  have HFT := Lib.hid (fun W (hb : Below V.heap.size V W) => tfind_any W g 1 own xmin xmax bb N ct 0 AT T S R F _ n (hl.below hb) (own_below hR hb) hn hB.nT hN (hB.rT.below hb) (fun t ht => (hB.eT t ht).below hb))
  have HFI := Lib.hid (fun W (hb : Below V.heap.size V W) => ifind_any W g 1 own xmin xmax bb M ci 0 AI I S R F _ n (hl.below hb) (own_below hR hb) hn hB.nI hM (hB.rI.below hb) (fun t ht => (hB.eI t ht).below hb))
  have HCT := Lib.hid (fun W (hb : Below V.heap.size V W) => tcont_any W g 1 own xmin xmax bb N ct AT T S R F _ n (hl.below hb) (own_below hR hb) hn hB.nT hN (hB.rT.below hb) (fun t ht => (hB.eT t ht).below hb))
  have HCJ := Lib.hid (fun W (hb : Below V.heap.size V W) => icont_any W g 1 own xmin xmax bb M ci AI I S R F _ n (hl.below hb) (own_below hR hb) hn hB.nI hM (hB.rI.below hb) (fun t ht => (hB.eI t ht).below hb))
  replace HS := Lib.hid HS
  clear hl hR hB b0
  have x0d : Below V.heap.size V V.drew := below_n V 1
  have hS0 := HS.out _ x0d
  have HF1c := HFT.out V.drew x0d
  cases hf1 : findT 1 S own xmax R n T with
  | some t1 =>
    rw [hf1] at HF1c
    have HF1d := Lib.hid (show Calls Try.prog 55 #[.pointer (some ⟨g, 0, none⟩), .agg #[.int .u64 (own : Int), .int .u64 (xmin : Int), .int .u64 (xmax : Int), .slice A R.length c], .slice AT N ct, .string n] V.drew fun e w' => e = .returned (.tuple #[.pointer (some ⟨t1.1, 0, none⟩), .bool true]) ∧ Below V.drew.heap.size V.drew w' from HF1c)
    have HF1 := Lib.hid hf1
    clear hf1 HF1c
    go_upto_region 1 with fail
    go_region_held3 (fun w' => w'.cell? ⟨q0, 0, none⟩ = some (.int .u64 (own : Int)) ∧ w'.cell? ⟨q0, 1, none⟩ = some (.int .u64 (xmin : Int)) ∧ w'.cell? ⟨q0, 2, none⟩ = some (.int .u64 (xmax : Int)) ∧ w'.cell? ⟨q0, 3, none⟩ = some (.slice A R.length c) ∧ w'.cell? ⟨k, 1, none⟩ = some (.slice AT N ct) ∧ w'.cell? ⟨k, 2, none⟩ = some (.slice AI M ci)) (first | (with_reducible assumption) | (with_reducible exact HS.out _ x0d) | (with_reducible exact HS.out _ x1))
      (first
      | (go_at_call 55; (with_reducible refine (HF1d.out).mono ?_); rintro e w1 ⟨rfl, hbw1⟩; have x1 := x0d.next hbw1))
    have x1d : Below V.heap.size V w1.drew := x1.next (below_n w1 1)
    have hS2 := HS.out _ x1d
    have HF2c := HFI.out w1.drew x1d
    cases hf2 : findI 1 S own xmax R n I with
    | some t2 =>
      rw [hf2] at HF2c
      have HF2d := Lib.hid (show Calls Try.prog 63 #[.pointer (some ⟨g, 0, none⟩), .agg #[.int .u64 (own : Int), .int .u64 (xmin : Int), .int .u64 (xmax : Int), .slice A R.length c], .slice AI M ci, .string n] w1.drew fun e w' => e = .returned (.tuple #[.pointer (some ⟨t2.1, 0, none⟩), .bool true]) ∧ Below w1.drew.heap.size w1.drew w' from HF2c)
      have HF2 := Lib.hid hf2
      clear hf2 HF2c
      go_upto_region 2 with fail
      go_region_held3 (fun w' => w'.cell? ⟨q0, 0, none⟩ = some (.int .u64 (own : Int)) ∧ w'.cell? ⟨q0, 1, none⟩ = some (.int .u64 (xmin : Int)) ∧ w'.cell? ⟨q0, 2, none⟩ = some (.int .u64 (xmax : Int)) ∧ w'.cell? ⟨q0, 3, none⟩ = some (.slice A R.length c) ∧ w'.cell? ⟨k, 1, none⟩ = some (.slice AT N ct) ∧ w'.cell? ⟨k, 2, none⟩ = some (.slice AI M ci)) (first | (with_reducible assumption) | (with_reducible exact HS.out _ x1d) | (with_reducible exact HS.out _ x2))
        (first
        | (go_at_call 63; (with_reducible refine (HF2d.out).mono ?_); rintro e w2 ⟨rfl, hbw2⟩; have x2 := x1d.next hbw2))
      go_wp2_with fail
      go_ret
      exact ⟨by unfold vacV; rw [HF1.out, HF2.out]; rfl, (by rw [HQ0.out]; exact xVN _ x2)⟩
    | none =>
      rw [hf2] at HF2c
      have HF2d := Lib.hid (show Calls Try.prog 63 #[.pointer (some ⟨g, 0, none⟩), .agg #[.int .u64 (own : Int), .int .u64 (xmin : Int), .int .u64 (xmax : Int), .slice A R.length c], .slice AI M ci, .string n] w1.drew fun e w' => e = .returned (.tuple #[.pointer none, .bool false]) ∧ Below w1.drew.heap.size w1.drew w' from HF2c)
      have HF2 := Lib.hid hf2
      clear hf2 HF2c
      go_upto_region 2 with fail
      go_region_held3 (fun w' => w'.cell? ⟨q0, 0, none⟩ = some (.int .u64 (own : Int)) ∧ w'.cell? ⟨q0, 1, none⟩ = some (.int .u64 (xmin : Int)) ∧ w'.cell? ⟨q0, 2, none⟩ = some (.int .u64 (xmax : Int)) ∧ w'.cell? ⟨q0, 3, none⟩ = some (.slice A R.length c) ∧ w'.cell? ⟨k, 1, none⟩ = some (.slice AT N ct) ∧ w'.cell? ⟨k, 2, none⟩ = some (.slice AI M ci)) (first | (with_reducible assumption) | (with_reducible exact HS.out _ x1d) | (with_reducible exact HS.out _ x2))
        (first
        | (go_at_call 63; (with_reducible refine (HF2d.out).mono ?_); rintro e w2 ⟨rfl, hbw2⟩; have x2 := x1d.next hbw2))
      go_wp2_with fail
      go_ret
      exact ⟨by unfold vacV; rw [HF1.out, HF2.out]; rfl, (by rw [HQ0.out]; exact xVN _ x2)⟩
  | none =>
    rw [hf1] at HF1c
    have HF1d := Lib.hid (show Calls Try.prog 55 #[.pointer (some ⟨g, 0, none⟩), .agg #[.int .u64 (own : Int), .int .u64 (xmin : Int), .int .u64 (xmax : Int), .slice A R.length c], .slice AT N ct, .string n] V.drew fun e w' => e = .returned (.tuple #[.pointer none, .bool false]) ∧ Below V.drew.heap.size V.drew w' from HF1c)
    have HF1 := Lib.hid hf1
    clear hf1 HF1c
    go_upto_region 1 with fail
    go_region_held3 (fun w' => w'.cell? ⟨q0, 0, none⟩ = some (.int .u64 (own : Int)) ∧ w'.cell? ⟨q0, 1, none⟩ = some (.int .u64 (xmin : Int)) ∧ w'.cell? ⟨q0, 2, none⟩ = some (.int .u64 (xmax : Int)) ∧ w'.cell? ⟨q0, 3, none⟩ = some (.slice A R.length c) ∧ w'.cell? ⟨k, 1, none⟩ = some (.slice AT N ct) ∧ w'.cell? ⟨k, 2, none⟩ = some (.slice AI M ci)) (first | (with_reducible assumption) | (with_reducible exact HS.out _ x0d) | (with_reducible exact HS.out _ x1))
      (first
      | (go_at_call 55; (with_reducible refine (HF1d.out).mono ?_); rintro e w1 ⟨rfl, hbw1⟩; have x1 := x0d.next hbw1))
    have x1d : Below V.heap.size V w1.drew := x1.next (below_n w1 1)
    have hS2 := HS.out _ x1d
    have HF2c := HFI.out w1.drew x1d
    cases hf2 : findI 1 S own xmax R n I with
    | some t2 =>
      rw [hf2] at HF2c
      have HF2d := Lib.hid (show Calls Try.prog 63 #[.pointer (some ⟨g, 0, none⟩), .agg #[.int .u64 (own : Int), .int .u64 (xmin : Int), .int .u64 (xmax : Int), .slice A R.length c], .slice AI M ci, .string n] w1.drew fun e w' => e = .returned (.tuple #[.pointer (some ⟨t2.1, 0, none⟩), .bool true]) ∧ Below w1.drew.heap.size w1.drew w' from HF2c)
      have HF2 := Lib.hid hf2
      clear hf2 HF2c
      go_upto_region 2 with fail
      go_region_held3 (fun w' => w'.cell? ⟨q0, 0, none⟩ = some (.int .u64 (own : Int)) ∧ w'.cell? ⟨q0, 1, none⟩ = some (.int .u64 (xmin : Int)) ∧ w'.cell? ⟨q0, 2, none⟩ = some (.int .u64 (xmax : Int)) ∧ w'.cell? ⟨q0, 3, none⟩ = some (.slice A R.length c) ∧ w'.cell? ⟨k, 1, none⟩ = some (.slice AT N ct) ∧ w'.cell? ⟨k, 2, none⟩ = some (.slice AI M ci)) (first | (with_reducible assumption) | (with_reducible exact HS.out _ x1d) | (with_reducible exact HS.out _ x2))
        (first
        | (go_at_call 63; (with_reducible refine (HF2d.out).mono ?_); rintro e w2 ⟨rfl, hbw2⟩; have x2 := x1d.next hbw2))
      go_wp2_with fail
      go_ret
      exact ⟨by unfold vacV; rw [HF1.out, HF2.out]; rfl, (by rw [HQ0.out]; exact xVN _ x2)⟩
    | none =>
      rw [hf2] at HF2c
      have HF2d := Lib.hid (show Calls Try.prog 63 #[.pointer (some ⟨g, 0, none⟩), .agg #[.int .u64 (own : Int), .int .u64 (xmin : Int), .int .u64 (xmax : Int), .slice A R.length c], .slice AI M ci, .string n] w1.drew fun e w' => e = .returned (.tuple #[.pointer none, .bool false]) ∧ Below w1.drew.heap.size w1.drew w' from HF2c)
      have HF2 := Lib.hid hf2
      clear hf2 HF2c
      go_upto_region 2 with fail
      go_region_held3 (fun w' => w'.cell? ⟨q0, 0, none⟩ = some (.int .u64 (own : Int)) ∧ w'.cell? ⟨q0, 1, none⟩ = some (.int .u64 (xmin : Int)) ∧ w'.cell? ⟨q0, 2, none⟩ = some (.int .u64 (xmax : Int)) ∧ w'.cell? ⟨q0, 3, none⟩ = some (.slice A R.length c) ∧ w'.cell? ⟨k, 1, none⟩ = some (.slice AT N ct) ∧ w'.cell? ⟨k, 2, none⟩ = some (.slice AI M ci)) (first | (with_reducible assumption) | (with_reducible exact HS.out _ x1d) | (with_reducible exact HS.out _ x2))
        (first
        | (go_at_call 63; (with_reducible refine (HF2d.out).mono ?_); rintro e w2 ⟨rfl, hbw2⟩; have x2 := x1d.next hbw2))
      have x3d : Below V.heap.size V w2.drew := x2.next (below_n w2 1)
      have hS3 := HS.out _ x3d
      have HC1 := Lib.hid (HCT.out w2.drew x3d)
      cases hc1 : contT 1 S own xmax R n T with
      | true =>
        rw [hc1] at HC1
        go_upto_region 5 with fail
        refine wp_region_held_drew (S := (fun w' => w'.cell? ⟨q0, 0, none⟩ = some (.int .u64 (own : Int)) ∧ w'.cell? ⟨q0, 1, none⟩ = some (.int .u64 (xmin : Int)) ∧ w'.cell? ⟨q0, 2, none⟩ = some (.int .u64 (xmax : Int)) ∧ w'.cell? ⟨q0, 3, none⟩ = some (.slice A R.length c) ∧ w'.cell? ⟨k, 1, none⟩ = some (.slice AT N ct) ∧ w'.cell? ⟨k, 2, none⟩ = some (.slice AI M ci))) (by kernel_rfl) ?_ (fun hHeld => ?_)
        · assumption
        refine wpAnyH_take (i := 0) (oi := { dst := some 39, op := Go.Op.move (Go.Operand.tmp 1), type := 24, pos := "book.go:198", after := #[], guard := none }) (v := ?v1) rfl (by kernel_rfl) (by kernel_rfl) (by kernel_rfl) (fun _ _ _ h => h) (Or.inl ⟨by rfl, ?hy1⟩) (by assumption) ?rest1
        case hy1 => (intro w' hSw; (try dsimp only at hSw); go_simp <;> with_reducible rfl)
        (try simp only [Act.put, List.setIfInBounds_toArray, List.set_cons_zero, List.set_cons_succ])
        refine wpAnyH_take (i := 1) (oi := { dst := some 40, op := Go.Op.load 50 (Go.Operand.tmp 6), type := 50, pos := "book.go:198", after := #[], guard := none }) (v := ?v2) rfl (by kernel_rfl) (by kernel_rfl) (by kernel_rfl) (fun _ _ _ h => h) (Or.inl ⟨by rfl, ?hy2⟩) (by assumption) ?rest2
        case hy2 => (intro w' hSw; (try dsimp only at hSw); go_simp <;> with_reducible rfl)
        (try simp only [Act.put, List.setIfInBounds_toArray, List.set_cons_zero, List.set_cons_succ])
        refine wpAnyH_take (i := 2) (oi := { dst := some 41, op := Go.Op.move (Go.Operand.tmp 0), type := 32, pos := "book.go:198", after := #[], guard := none }) (v := ?v3) rfl (by kernel_rfl) (by kernel_rfl) (by kernel_rfl) (fun _ _ _ h => h) (Or.inl ⟨by rfl, ?hy3⟩) (by assumption) ?rest3
        case hy3 => (intro w' hSw; (try dsimp only at hSw); go_simp <;> with_reducible rfl)
        (try simp only [Act.put, List.setIfInBounds_toArray, List.set_cons_zero, List.set_cons_succ])
        refine wpAnyH_take (i := 3) (oi := { dst := some 42, op := Go.Op.nilCheck (Go.Operand.tmp 41), type := 0, pos := "book.go:198", after := #[{ on := 2, ground := Go.Ground.data }], guard := none }) (v := ?v4) rfl (by kernel_rfl) (by kernel_rfl) (by kernel_rfl) (fun _ _ _ h => h) (Or.inl ⟨by rfl, ?hy4⟩) (by assumption) ?rest4
        case hy4 => (intro w' hSw; (try dsimp only at hSw); go_simp <;> with_reducible rfl)
        (try simp only [Act.put, List.setIfInBounds_toArray, List.set_cons_zero, List.set_cons_succ])
        refine wpAnyH_take (i := 4) (oi := { dst := some 43, op := Go.Op.fieldAddr 103 (Go.Operand.tmp 42) 1, type := 0, pos := "book.go:198", after := #[{ on := 3, ground := Go.Ground.data }], guard := none }) (v := ?v5) rfl (by kernel_rfl) (by kernel_rfl) (by kernel_rfl) (fun _ _ _ h => h) (Or.inl ⟨by rfl, ?hy5⟩) (by assumption) ?rest5
        case hy5 => (intro w' hSw; (try dsimp only at hSw); go_simp <;> with_reducible rfl)
        (try simp only [Act.put, List.setIfInBounds_toArray, List.set_cons_zero, List.set_cons_succ])
        refine wpAnyH_take (i := 5) (oi := { dst := some 44, op := Go.Op.load 100 (Go.Operand.tmp 43), type := 100, pos := "book.go:198", after := #[{ on := 4, ground := Go.Ground.data }], guard := none }) (v := ?v6) rfl (by kernel_rfl) (by kernel_rfl) (by kernel_rfl) (fun _ _ _ h => h) (Or.inl ⟨by rfl, ?hy6⟩) (by assumption) ?rest6
        case hy6 => (intro w' hSw; (try dsimp only at hSw); go_simp <;> with_reducible rfl)
        (try simp only [Act.put, List.setIfInBounds_toArray, List.set_cons_zero, List.set_cons_succ])
        refine wpAnyH_take (i := 6) (oi := { dst := some 45, op := Go.Op.move (Go.Operand.tmp 3), type := 9, pos := "book.go:198", after := #[], guard := none }) (v := ?v7) rfl (by kernel_rfl) (by kernel_rfl) (by kernel_rfl) (fun _ _ _ h => h) (Or.inl ⟨by rfl, ?hy7⟩) (by assumption) ?rest7
        case hy7 => (intro w' hSw; (try dsimp only at hSw); go_simp <;> with_reducible rfl)
        (try simp only [Act.put, List.setIfInBounds_toArray, List.set_cons_zero, List.set_cons_succ])
        refine wpAnyH_ready (rs := [7]) (by kernel_rfl) (by simp) ?_
        refine AllReadyH.cons (o := { dst := some 46, op := Go.Op.call { callee := Go.Callee.value (Go.Operand.func 81), args := #[Go.Operand.tmp 39, Go.Operand.tmp 40, Go.Operand.tmp 44, Go.Operand.tmp 45], argTypes := #[24, 50, 100, 9] }, type := 4, pos := "book.go:198", after := #[{ on := 0, ground := Go.Ground.data }, { on := 1, ground := Go.Ground.data }, { on := 5, ground := Go.Ground.data }, { on := 6, ground := Go.Ground.data }], guard := none }) rfl (fun K hK => ?_) AllReadyH.nil
        go_simp
        (go_at_call 81; (with_reducible refine (HC1.out).mono ?_); rintro e w4 ⟨rfl, hb4⟩; have x4 := x3d.next hb4)
        refine hK.out _ _ ?_ (fun hHeld => ?_)
        · first | assumption | exact HS.out _ x4
        clear hK K
        (try simp only [Act.put, List.setIfInBounds_toArray, List.set_cons_zero, List.set_cons_succ])
        refine wpAnyH_take (i := 8) (oi := { dst := some 47, op := Go.Op.move (Go.Operand.tmp 46), type := 4, pos := "book.go:198", after := #[{ on := 7, ground := Go.Ground.data }, { on := 7, ground := Go.Ground.chain }], guard := none }) (v := ?v8) rfl (by kernel_rfl) (by kernel_rfl) (by kernel_rfl) (fun _ _ _ h => h) (Or.inl ⟨by rfl, ?hy8⟩) (by assumption) ?rest8
        case hy8 => (intro w' hSw; (try dsimp only at hSw); go_simp <;> with_reducible rfl)
        (try simp only [Act.put, List.setIfInBounds_toArray, List.set_cons_zero, List.set_cons_succ])
        refine wpAnyH_take (i := 9) (oi := { dst := some 48, op := Go.Op.move (Go.Operand.tmp 1), type := 24, pos := "book.go:198", after := #[{ on := 8, ground := Go.Ground.guard }], guard := some (8, false) }) (v := undef) rfl (by kernel_rfl) (by kernel_rfl) (by kernel_rfl) (fun _ _ _ h => h) (Or.inr ⟨by rfl, rfl⟩) (by assumption) ?_
        (try simp only [Act.put, List.setIfInBounds_toArray, List.set_cons_zero, List.set_cons_succ])
        refine wpAnyH_take (i := 10) (oi := { dst := some 49, op := Go.Op.load 50 (Go.Operand.tmp 6), type := 50, pos := "book.go:198", after := #[{ on := 8, ground := Go.Ground.guard }], guard := some (8, false) }) (v := undef) rfl (by kernel_rfl) (by kernel_rfl) (by kernel_rfl) (fun _ _ _ h => h) (Or.inr ⟨by rfl, rfl⟩) (by assumption) ?_
        (try simp only [Act.put, List.setIfInBounds_toArray, List.set_cons_zero, List.set_cons_succ])
        refine wpAnyH_take (i := 11) (oi := { dst := some 50, op := Go.Op.move (Go.Operand.tmp 0), type := 32, pos := "book.go:198", after := #[{ on := 8, ground := Go.Ground.guard }], guard := some (8, false) }) (v := undef) rfl (by kernel_rfl) (by kernel_rfl) (by kernel_rfl) (fun _ _ _ h => h) (Or.inr ⟨by rfl, rfl⟩) (by assumption) ?_
        (try simp only [Act.put, List.setIfInBounds_toArray, List.set_cons_zero, List.set_cons_succ])
        refine wpAnyH_take (i := 12) (oi := { dst := some 51, op := Go.Op.nilCheck (Go.Operand.tmp 50), type := 0, pos := "book.go:198", after := #[{ on := 11, ground := Go.Ground.data }, { on := 8, ground := Go.Ground.guard }], guard := some (8, false) }) (v := undef) rfl (by kernel_rfl) (by kernel_rfl) (by kernel_rfl) (fun _ _ _ h => h) (Or.inr ⟨by rfl, rfl⟩) (by assumption) ?_
        (try simp only [Act.put, List.setIfInBounds_toArray, List.set_cons_zero, List.set_cons_succ])
        refine wpAnyH_take (i := 13) (oi := { dst := some 52, op := Go.Op.fieldAddr 103 (Go.Operand.tmp 51) 2, type := 0, pos := "book.go:198", after := #[{ on := 12, ground := Go.Ground.data }, { on := 8, ground := Go.Ground.guard }], guard := some (8, false) }) (v := undef) rfl (by kernel_rfl) (by kernel_rfl) (by kernel_rfl) (fun _ _ _ h => h) (Or.inr ⟨by rfl, rfl⟩) (by assumption) ?_
        (try simp only [Act.put, List.setIfInBounds_toArray, List.set_cons_zero, List.set_cons_succ])
        refine wpAnyH_take (i := 14) (oi := { dst := some 53, op := Go.Op.load 101 (Go.Operand.tmp 52), type := 101, pos := "book.go:198", after := #[{ on := 13, ground := Go.Ground.data }, { on := 8, ground := Go.Ground.guard }], guard := some (8, false) }) (v := undef) rfl (by kernel_rfl) (by kernel_rfl) (by kernel_rfl) (fun _ _ _ h => h) (Or.inr ⟨by rfl, rfl⟩) (by assumption) ?_
        (try simp only [Act.put, List.setIfInBounds_toArray, List.set_cons_zero, List.set_cons_succ])
        refine wpAnyH_take (i := 15) (oi := { dst := some 54, op := Go.Op.move (Go.Operand.tmp 3), type := 9, pos := "book.go:198", after := #[{ on := 8, ground := Go.Ground.guard }], guard := some (8, false) }) (v := undef) rfl (by kernel_rfl) (by kernel_rfl) (by kernel_rfl) (fun _ _ _ h => h) (Or.inr ⟨by rfl, rfl⟩) (by assumption) ?_
        (try simp only [Act.put, List.setIfInBounds_toArray, List.set_cons_zero, List.set_cons_succ])
        refine wpAnyH_take (i := 16) (oi := { dst := some 55, op := Go.Op.call { callee := Go.Callee.value (Go.Operand.func 82), args := #[Go.Operand.tmp 48, Go.Operand.tmp 49, Go.Operand.tmp 53, Go.Operand.tmp 54], argTypes := #[24, 50, 101, 9] }, type := 4, pos := "book.go:198", after := #[{ on := 9, ground := Go.Ground.data }, { on := 10, ground := Go.Ground.data }, { on := 14, ground := Go.Ground.data }, { on := 15, ground := Go.Ground.data }, { on := 8, ground := Go.Ground.chain }, { on := 8, ground := Go.Ground.guard }], guard := some (8, false) }) (v := undef) rfl (by kernel_rfl) (by kernel_rfl) (by kernel_rfl) (fun _ _ _ h => h) (Or.inr ⟨by rfl, rfl⟩) (by assumption) ?_
        (try simp only [Act.put, List.setIfInBounds_toArray, List.set_cons_zero, List.set_cons_succ])
        refine wpAnyH_take (i := 17) (oi := { dst := some 56, op := Go.Op.pick (Go.Operand.tmp 47) (Go.Operand.const (Go.Value.bool true)) (Go.Operand.tmp 55), type := 4, pos := "book.go:198", after := #[{ on := 8, ground := Go.Ground.data }, { on := 16, ground := Go.Ground.data }], guard := none }) (v := ?v9) rfl (by kernel_rfl) (by kernel_rfl) (by kernel_rfl) (fun _ _ _ h => h) (Or.inl ⟨by rfl, ?hy9⟩) (by assumption) ?rest9
        case hy9 => (intro w' hSw; (try dsimp only at hSw); go_simp <;> with_reducible rfl)
        (try simp only [Act.put, List.setIfInBounds_toArray, List.set_cons_zero, List.set_cons_succ])
        refine wpAnyH_done (by kernel_rfl) ?_ _
        go_wp2_with fail
        go_ret
        exact ⟨by unfold vacV; rw [HF1.out, HF2.out, hc1]; rfl, (by rw [HQ0.out]; exact xVN _ x4)⟩
      | false =>
        rw [hc1] at HC1
        cases hc2 : contJ 1 S own xmax R n I with
        | true =>
          go_upto_region 5 with fail
          go_region_held3 (fun w' => w'.cell? ⟨q0, 0, none⟩ = some (.int .u64 (own : Int)) ∧ w'.cell? ⟨q0, 1, none⟩ = some (.int .u64 (xmin : Int)) ∧ w'.cell? ⟨q0, 2, none⟩ = some (.int .u64 (xmax : Int)) ∧ w'.cell? ⟨q0, 3, none⟩ = some (.slice A R.length c) ∧ w'.cell? ⟨k, 1, none⟩ = some (.slice AT N ct) ∧ w'.cell? ⟨k, 2, none⟩ = some (.slice AI M ci)) (first | (with_reducible assumption) | (with_reducible exact HS.out _ x3d) | (with_reducible exact HS.out _ x4) | (with_reducible exact HS.out _ x5))
            (first
            | (go_at_call 81; (with_reducible refine (HC1.out).mono ?_); rintro e w4 ⟨rfl, hb4⟩; have x4 := x3d.next hb4; have HC2 := HCJ.out w4 x4; rw [hc2] at HC2; replace HC2 := Lib.hid HC2)
            | (go_at_call 82; (with_reducible refine (HC2.out).mono ?_); rintro e w5 ⟨rfl, hb5⟩; have x5 := x4.next hb5))
          go_wp2_with fail
          go_ret
          exact ⟨by unfold vacV; rw [HF1.out, HF2.out, hc1, hc2]; rfl, (by rw [HQ0.out]; exact xVN _ x5)⟩
        | false =>
          go_upto_region 5 with fail
          go_region_held3 (fun w' => w'.cell? ⟨q0, 0, none⟩ = some (.int .u64 (own : Int)) ∧ w'.cell? ⟨q0, 1, none⟩ = some (.int .u64 (xmin : Int)) ∧ w'.cell? ⟨q0, 2, none⟩ = some (.int .u64 (xmax : Int)) ∧ w'.cell? ⟨q0, 3, none⟩ = some (.slice A R.length c) ∧ w'.cell? ⟨k, 1, none⟩ = some (.slice AT N ct) ∧ w'.cell? ⟨k, 2, none⟩ = some (.slice AI M ci)) (first | (with_reducible assumption) | (with_reducible exact HS.out _ x3d) | (with_reducible exact HS.out _ x4) | (with_reducible exact HS.out _ x5))
            (first
            | (go_at_call 81; (with_reducible refine (HC1.out).mono ?_); rintro e w4 ⟨rfl, hb4⟩; have x4 := x3d.next hb4; have HC2 := HCJ.out w4 x4; rw [hc2] at HC2; replace HC2 := Lib.hid HC2)
            | (go_at_call 82; (with_reducible refine (HC2.out).mono ?_); rintro e w5 ⟨rfl, hb5⟩; have x5 := x4.next hb5))
          go_wp2_with fail
          go_ret
          exact ⟨by unfold vacV; rw [HF1.out, HF2.out, hc1, hc2]; rfl, (by rw [HQ0.out]; exact xVN _ x5)⟩
end Go.Proofs.Ytbmkhopmhmmibaa
