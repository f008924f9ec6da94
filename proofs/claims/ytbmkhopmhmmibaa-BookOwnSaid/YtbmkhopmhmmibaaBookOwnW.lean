/-
  BookOwn: the walk.
-/
import Derived.Test.YtbmkhopmhmmibaaBookW
namespace Go.Proofs.Ytbmkhopmhmmibaa.bookOwn
open Go.RowKit
set_option linter.unusedVariables false

theorem seen1 : seenE 1 [1, 1] 1 3 [2] ⟨#[116]⟩ ⟨1, ⟨#[116]⟩, 1, 0⟩ = true := by decide +kernel
theorem seen2 : seenE 1 [1, 1] 2 3 [1] ⟨#[116]⟩ ⟨1, ⟨#[116]⟩, 1, 0⟩ = false := by decide +kernel
theorem seen3c : seenE 1 [2, 1, 1] 2 3 [1] ⟨#[116]⟩ ⟨1, ⟨#[116]⟩, 1, 0⟩ = false := by decide +kernel
theorem seen3a : seenE 1 [3, 1, 1] 2 3 [1] ⟨#[116]⟩ ⟨1, ⟨#[116]⟩, 1, 0⟩ = false := by decide +kernel
theorem seen4c : seenE 1 [2, 1, 1] 3 4 [2] ⟨#[116]⟩ ⟨1, ⟨#[116]⟩, 1, 0⟩ = true := by decide +kernel
theorem seen4a : seenE 1 [3, 1, 1] 3 4 [2] ⟨#[116]⟩ ⟨1, ⟨#[116]⟩, 1, 0⟩ = false := by decide +kernel
theorem ci_ok (b : Nat) (cv : Value) : ciE [1, 1] 1 3 [2] ⟨#[105]⟩ ⟨#[116]⟩ ⟨#[97]⟩ [⟨b, ⟨1, ⟨#[116]⟩, 1, 0⟩, [coA], cv⟩] [] = 0 := by
  unfold ciE
  rw [name_i, find_hit seen1, if_pos rfl]
  have h1 : colIx ⟨#[97]⟩ [coA] = 0 := by decide +kernel
  have h2 : vacV [1, 1] 1 3 [2] ⟨#[105]⟩ [(b, ⟨1, ⟨#[116]⟩, 1, 0⟩)] [] = 0 := by
    have h3 : seenE 1 [1, 1] 1 3 [2] ⟨#[105]⟩ ⟨1, ⟨#[116]⟩, 1, 0⟩ = false := by decide +kernel
    have h4 : contE 1 [1, 1] 1 3 [2] ⟨#[105]⟩ ⟨1, ⟨#[116]⟩, 1, 0⟩ = false := by decide +kernel
    unfold vacV findT contT
    rw [List.find?_cons, h3, List.any_cons, h4]
    rfl
  show (if colIx ⟨#[97]⟩ [coA] < 0 then (6 : Int) else if vacV [1, 1] 1 3 [2] ⟨#[105]⟩ [(b, ⟨1, ⟨#[116]⟩, 1, 0⟩)] [] = 0 then _ else _) = 0
  rw [h1, h2]
  rfl
theorem col0 : (colIx ⟨#[97]⟩ [coA]).toNat = 0 := by decide +kernel
theorem h8 (b : Nat) (cv : Value) : ∀ t ∈ [(⟨b, ⟨1, ⟨#[116]⟩, 1, 0⟩, [coA], cv⟩ : Tb)], t.cs.length ≤ 8 := fun t ht => by
  rw [List.mem_singleton] at ht
  subst ht
  show [coA].length ≤ 8
  decide
set_option maxRecDepth 100000 in
set_option maxHeartbeats 4000000 in
theorem walk (commit index : Bool) (w : World) :
    Calls Try.prog 6 #[.bool commit, .bool index] w fun e w' => e = .returned (.bool true) ∧ Below w.heap.size w w' := by
  go_enter Try.func6, Try.ntmps6
  go_wp2_with fail
  refine (awake11_any w).mono ?_
  rintro e wa ⟨rfl, xa⟩
  go_wp2_with fail
  refine (lg_new wa 1 (by decide) (by decide)).mono ?_
  rintro e w1 ⟨rfl, h1, hb1⟩
  have hsza := xa.size
  have m1 : Mine w.heap.size w w1 (fun k => k = wa.heap.size) := ⟨fun k hk => by omega, xa.next hb1, Nat.le_trans xa.size hb1.size⟩
  clear hb1
  generalize hg : wa.heap.size = g at *
  clear xa hg hsza wa
  go_wp2_with fail
  refine (bnew_any w1).mono ?_
  rintro e w2 ⟨rfl, hb2, x2⟩
  have W2 := wd_new (h1.below x2) (m1.next x2) hb2 m1.size
  clear h1 m1 x2 hb2
  generalize hk : w1.heap.size = k at *
  clear hk w1
  go_wp2_with fail
  refine (wd_begin W2).mono ?_
  rintro e w3 ⟨rfl, W3, _⟩
  rw [show begR 1 [] = .tuple #[.int .u64 1, .int .i64 0] from rfl]
  rw [show begL 1 [] = [1] from rfl] at W3
  clear W2
  go_wp2_with fail
  refine (wd_begin W3).mono ?_
  rintro e w4 ⟨rfl, W4, _⟩
  rw [show begR 1 [1] = .tuple #[.int .u64 2, .int .i64 0] from rfl]
  rw [show begL 1 [1] = [1, 1] from rfl] at W4
  clear W3
  have HT := wd_take W4 1
  rw [show runs 1 [1, 1] = [1, 2] from rfl, show others [1, 2] 1 = [2] by decide, show least [2] (1 + [1, 1].length) = 2 from rfl, show 1 + [1, 1].length = 3 from rfl] at HT
  go_wp2_with fail
  refine (HT).mono ?_
  rintro e w5 ⟨v5, rfl, W5, _⟩
  have HT := wd_take W5 2
  rw [show runs 1 [1, 1] = [1, 2] from rfl, show others [1, 2] 2 = [1] by decide, show least [1] (1 + [1, 1].length) = 1 from rfl, show 1 + [1, 1].length = 3 from rfl] at HT
  clear W4
  go_wp2_with fail
  refine (HT).mono ?_
  rintro e w6 ⟨v6, rfl, W6, _⟩
  clear HT W5
  obtain ⟨A5, c5, rfl⟩ := W6.form (v := v5) (n := 1) (List.mem_cons_of_mem _ List.mem_cons_self) rfl
  obtain ⟨A6, c6, rfl⟩ := W6.form (v := v6) (n := 1) List.mem_cons_self rfl
  have y1 : Below w6.heap.size w6 (w6.alloc (.cells #[.int .u64 1, .int .u64 2, .int .u64 3, .slice A5 1 c5] 50)) := (Below.refl _ _).al _
  have b5 := Bx.new w6 50 #[.int .u64 1, .int .u64 2, .int .u64 3, .slice A5 1 c5] [.int .u64 1, .int .u64 2, .int .u64 3, .slice A5 1 c5] rfl
  have W7 := W6.next y1
  have b5 := b5.alloc (.cells #[.int .u64 2, .int .u64 1, .int .u64 3, .slice A6 1 c6] 50)
  have b6 := Bx.new (w6.alloc (.cells #[.int .u64 1, .int .u64 2, .int .u64 3, .slice A5 1 c5] 50)) 50 #[.int .u64 2, .int .u64 1, .int .u64 3, .slice A6 1 c6] [.int .u64 2, .int .u64 1, .int .u64 3, .slice A6 1 c6] rfl
  have W8 := W7.next ((Below.refl _ _).al (.cells #[.int .u64 2, .int .u64 1, .int .u64 3, .slice A6 1 c6] 50))
  have hsz : (w6.alloc (.cells #[.int .u64 1, .int .u64 2, .int .u64 3, .slice A5 1 c5] 50)).heap.size = w6.heap.size + 1 := alloc_size _ _
  rw [hsz] at b6
  clear W6 W7 y1 hsz
  go_upto_region 8 with fail
  generalize (w6.alloc (.cells #[.int .u64 1, .int .u64 2, .int .u64 3, .slice A5 1 c5] 50)).alloc (.cells #[.int .u64 2, .int .u64 1, .int .u64 3, .slice A6 1 c6] 50) = V at *
  generalize w6.heap.size = sb at *
  have W8d : Wd w.heap.size w V.drew g [1, 1] k 0 [] [] [(.slice A6 1 c6, [1]), (.slice A5 1 c5, [2])] := W8.next (below_n V 1)
  have b5d : Bx V.drew sb 50 [.int .u64 1, .int .u64 2, .int .u64 3, .slice A5 1 c5] := b5.below (below_n V 1)
  have b6d : Bx V.drew (sb + 1) 50 [.int .u64 2, .int .u64 1, .int .u64 3, .slice A6 1 c6] := b6.below (below_n V 1)
  have hSd : V.drew.cell? ⟨sb, 0, none⟩ = some (.int .u64 1) ∧ V.drew.cell? ⟨sb, 1, none⟩ = some (.int .u64 2) ∧ V.drew.cell? ⟨sb, 2, none⟩ = some (.int .u64 3) ∧ V.drew.cell? ⟨sb, 3, none⟩ = some (.slice A5 1 c5) := ⟨b5d.cell 0, b5d.cell 1, b5d.cell 2, b5d.cell 3⟩
  have HONE := Lib.hid (one_ex V.drew)
  have hcr1 := crE_all [1, 1] 1 3 [2] ⟨#[116]⟩ name_t [] (fun t h => absurd h List.not_mem_nil)
  have HC1 := Lib.hid (fun W q (hW : Wd w.heap.size w W g [1, 1] k 0 [] [] [(.slice A6 1 c6, [1]), (.slice A5 1 c5, [2])]) hL => wd_crOK hW 1 2 3 V.drew.heap.size q (.slice A5 1 c5) [2] ⟨#[116]⟩ (by simp) (by decide) (by decide) hL hcr1 1 2 3 rfl rfl rfl 1 rfl)
  clear hcr1 W8 b5 b6
  go_region_held3 (fun w' => w'.cell? ⟨sb, 0, none⟩ = some (.int .u64 1) ∧ w'.cell? ⟨sb, 1, none⟩ = some (.int .u64 2) ∧ w'.cell? ⟨sb, 2, none⟩ = some (.int .u64 3) ∧ w'.cell? ⟨sb, 3, none⟩ = some (.slice A5 1 c5)) (first | (with_reducible assumption) | simp [*, go_sem])
    (first
    | (go_at_call 35; (with_reducible refine (HONE.out).mono ?_); rintro e w9 ⟨q9, rfl, o9, x9⟩; have W9 := W8d.next x9; have b59 := b5d.below x9; have b69 := b6d.below x9; have hS9 : w9.cell? ⟨sb, 0, none⟩ = some (.int .u64 1) ∧ w9.cell? ⟨sb, 1, none⟩ = some (.int .u64 2) ∧ w9.cell? ⟨sb, 2, none⟩ = some (.int .u64 3) ∧ w9.cell? ⟨sb, 3, none⟩ = some (.slice A5 1 c5) := ⟨b59.cell 0, b59.cell 1, b59.cell 2, b59.cell 3⟩)
    | (go_at_call 20; (with_reducible refine (HC1.out w9 q9 W9 o9).mono ?_); rintro e w10 ⟨rfl, ⟨t10, cv10, W10⟩, f10⟩; have b5_10 := f10.bx b59 (by decide); have b6_10 := f10.bx b69 (by decide); have hS10 : w10.cell? ⟨sb, 0, none⟩ = some (.int .u64 1) ∧ w10.cell? ⟨sb, 1, none⟩ = some (.int .u64 2) ∧ w10.cell? ⟨sb, 2, none⟩ = some (.int .u64 3) ∧ w10.cell? ⟨sb, 3, none⟩ = some (.slice A5 1 c5) := ⟨b5_10.cell 0, b5_10.cell 1, b5_10.cell 2, b5_10.cell 3⟩))
  clear HONE HC1 hSd hS9 hS10 W8d b5d b6d b59 b69 o9 f10 x9 W9
  have W10 : Wd w.heap.size w w10 g [1, 1] k 1 [⟨t10, ⟨1, ⟨#[116]⟩, 1, 0⟩, [coA], cv10⟩] [] [(.slice A6 1 c6, [1]), (.slice A5 1 c5, [2])] := W10
  cases index with
  | false =>
    cases commit with
    | false =>
      have l0 := b5_10.cell 0
      have l1 := b5_10.cell 1
      have l2 := b5_10.cell 2
      have l3 := b5_10.cell 3
      have HT := wd_tabS W10 1 2 3 (.slice A5 1 c5) [2] ⟨#[116]⟩ ⟨t10, ⟨1, ⟨#[116]⟩, 1, 0⟩, [coA], cv10⟩ (by simp) (h8 _ _) (find_hit seen1) 1 2 3 rfl rfl rfl 1 1 0 rfl rfl rfl ⟨#[116]⟩ rfl 1 rfl
      go_wp2_with fail
      refine (HT).mono ?_
      rintro e wq15 ⟨Aq15, cq15, rfl, _, Wq15, xq15⟩
      clear l0 l1 l2 l3
      clear HT
      have b5_10_15 := (b5_10.below xq15).alloc (.cells #[.int .u64 1, .string ⟨#[116]⟩, .slice Aq15 1 cq15, .int .u64 1, .int .u64 0] 85)
      have b6_10_15 := (b6_10.below xq15).alloc (.cells #[.int .u64 1, .string ⟨#[116]⟩, .slice Aq15 1 cq15, .int .u64 1, .int .u64 0] 85)
      have W_15 := Wq15.next ((Below.refl _ _).al (.cells #[.int .u64 1, .string ⟨#[116]⟩, .slice Aq15 1 cq15, .int .u64 1, .int .u64 0] 85))
      clear b5_10 b6_10 Wq15 xq15 W10
      go_upto_region 16 with fail
      generalize wq15.alloc (.cells #[.int .u64 1, .string ⟨#[116]⟩, .slice Aq15 1 cq15, .int .u64 1, .int .u64 0] 85) = V15 at *
      have l0 := b6_10_15.cell 0
      have l1 := b6_10_15.cell 1
      have l2 := b6_10_15.cell 2
      have l3 := b6_10_15.cell 3
      have HT := wd_tabN W_15 2 1 3 (.slice A6 1 c6) [1] ⟨#[116]⟩ (by simp) (h8 _ _) (find_miss seen2) 2 1 3 rfl rfl rfl
      go_wp2_with fail
      refine (HT).mono ?_
      rintro e wq16 ⟨rfl, Wq16, xq16⟩
      clear l0 l1 l2 l3
      clear HT
      have b5_10_16 := (b5_10_15.below xq16).alloc (.cells #[.int .u64 0, .string ⟨#[]⟩, .slice none 0 0, .int .u64 0, .int .u64 0] 85)
      have b6_10_16 := (b6_10_15.below xq16).alloc (.cells #[.int .u64 0, .string ⟨#[]⟩, .slice none 0 0, .int .u64 0, .int .u64 0] 85)
      have W_16 := Wq16.next ((Below.refl _ _).al (.cells #[.int .u64 0, .string ⟨#[]⟩, .slice none 0 0, .int .u64 0, .int .u64 0] 85))
      clear b5_10_15 b6_10_15 Wq16 xq16 W_15
      go_upto_region 17 with fail
      generalize wq16.alloc (.cells #[.int .u64 0, .string ⟨#[]⟩, .slice none 0 0, .int .u64 0, .int .u64 0] 85) = V16 at *
      have HM := wd_abort W_16 1 (by decide)
      rw [show endE 1 [1, 1] 1 = 0 from rfl, show endL 1 [1, 1] 1 3 = [3, 1] from rfl] at HM
      go_wp2_with fail
      refine (HM).mono ?_
      rintro e w18 ⟨rfl, W18, f18⟩
      clear HM W_16
      have b5_10_18 := f18.bx b5_10_16 (by decide)
      have b6_10_18 := f18.bx b6_10_16 (by decide)
      clear f18 b5_10_16 b6_10_16
      have HM := wd_begin W18
      rw [show begR 1 [3, 1] = .tuple #[.int .u64 3, .int .i64 0] from rfl, show begL 1 [3, 1] = [3, 1, 1] from rfl] at HM
      go_wp2_with fail
      refine (HM).mono ?_
      rintro e w20 ⟨rfl, W20, f20⟩
      clear HM W18
      have b5_10_20 := f20.bx b5_10_18 (by decide)
      have b6_10_20 := f20.bx b6_10_18 (by decide)
      clear f20 b5_10_18 b6_10_18
      have HT := wd_take W20 3
      rw [show runs 1 [3, 1, 1] = [2, 3] from rfl, show others [2, 3] 3 = [2] by decide, show least [2] (1 + [3, 1, 1].length) = 2 from rfl, show 1 + [3, 1, 1].length = 4 from rfl] at HT
      go_wp2_with fail
      refine (HT).mono ?_
      rintro e w21 ⟨v21, rfl, W21, x21⟩
      obtain ⟨A21, c21, rfl⟩ := W21.form (v := v21) (n := 1) List.mem_cons_self rfl
      clear HT W20
      have b5_10_21 := (b5_10_20.below x21).alloc (.cells #[.int .u64 3, .int .u64 2, .int .u64 4, .slice A21 1 c21] 50)
      have b6_10_21 := (b6_10_20.below x21).alloc (.cells #[.int .u64 3, .int .u64 2, .int .u64 4, .slice A21 1 c21] 50)
      have b7_21 := Bx.new w21 50 #[.int .u64 3, .int .u64 2, .int .u64 4, .slice A21 1 c21] [.int .u64 3, .int .u64 2, .int .u64 4, .slice A21 1 c21] rfl
      have W22 := W21.next ((Below.refl _ _).al (.cells #[.int .u64 3, .int .u64 2, .int .u64 4, .slice A21 1 c21] 50))
      clear x21 W21 b5_10_20 b6_10_20
      go_upto_region 22 with fail
      generalize w21.alloc (.cells #[.int .u64 3, .int .u64 2, .int .u64 4, .slice A21 1 c21] 50) = V21 at *
      generalize w21.heap.size = sc at *
      have l0 := b6_10_21.cell 0
      have l1 := b6_10_21.cell 1
      have l2 := b6_10_21.cell 2
      have l3 := b6_10_21.cell 3
      have HT := wd_tabN W22 2 1 3 (.slice A6 1 c6) [1] ⟨#[116]⟩ (by simp) (h8 _ _) (find_miss seen3a) 2 1 3 rfl rfl rfl
      go_wp2_with fail
      refine (HT).mono ?_
      rintro e wq22 ⟨rfl, Wq22, xq22⟩
      clear l0 l1 l2 l3
      clear HT
      have b5_10_22 := (b5_10_21.below xq22).alloc (.cells #[.int .u64 0, .string ⟨#[]⟩, .slice none 0 0, .int .u64 0, .int .u64 0] 85)
      have b6_10_22 := (b6_10_21.below xq22).alloc (.cells #[.int .u64 0, .string ⟨#[]⟩, .slice none 0 0, .int .u64 0, .int .u64 0] 85)
      have b7_22 := (b7_21.below xq22).alloc (.cells #[.int .u64 0, .string ⟨#[]⟩, .slice none 0 0, .int .u64 0, .int .u64 0] 85)
      have W_22 := Wq22.next ((Below.refl _ _).al (.cells #[.int .u64 0, .string ⟨#[]⟩, .slice none 0 0, .int .u64 0, .int .u64 0] 85))
      clear b5_10_21 b6_10_21 b7_21 Wq22 xq22 W22
      go_upto_region 23 with fail
      generalize wq22.alloc (.cells #[.int .u64 0, .string ⟨#[]⟩, .slice none 0 0, .int .u64 0, .int .u64 0] 85) = V22 at *
      have l0 := b7_22.cell 0
      have l1 := b7_22.cell 1
      have l2 := b7_22.cell 2
      have l3 := b7_22.cell 3
      have HT := wd_tabN W_22 3 2 4 (.slice A21 1 c21) [2] ⟨#[116]⟩ (by simp) (h8 _ _) (find_miss seen4a) 3 2 4 rfl rfl rfl
      go_wp2_with fail
      refine (HT).mono ?_
      rintro e wq23 ⟨rfl, Wq23, xq23⟩
      clear l0 l1 l2 l3
      clear HT
      have b5_10_23 := (b5_10_22.below xq23).alloc (.cells #[.int .u64 0, .string ⟨#[]⟩, .slice none 0 0, .int .u64 0, .int .u64 0] 85)
      have b6_10_23 := (b6_10_22.below xq23).alloc (.cells #[.int .u64 0, .string ⟨#[]⟩, .slice none 0 0, .int .u64 0, .int .u64 0] 85)
      have b7_23 := (b7_22.below xq23).alloc (.cells #[.int .u64 0, .string ⟨#[]⟩, .slice none 0 0, .int .u64 0, .int .u64 0] 85)
      have W_23 := Wq23.next ((Below.refl _ _).al (.cells #[.int .u64 0, .string ⟨#[]⟩, .slice none 0 0, .int .u64 0, .int .u64 0] 85))
      clear b5_10_22 b6_10_22 b7_22 Wq23 xq23 W_22
      go_upto_region 24 with fail
      generalize wq23.alloc (.cells #[.int .u64 0, .string ⟨#[]⟩, .slice none 0 0, .int .u64 0, .int .u64 0] 85) = V23 at *
      have HX := Lib.hid (wd_ixs W_23 3 2 4 1 (.slice A21 1 c21) [2] (by simp) (by simp) 3 2 4 1 rfl rfl rfl rfl 0 (by first | rfl | decide +kernel | simp))
      have HZ := Lib.hid (fun V (hV : Wd w.heap.size w V g [3, 1, 1] k 1 [⟨t10, ⟨1, ⟨#[116]⟩, 1, 0⟩, [coA], cv10⟩] [] [(.slice A21 1 c21, [2]), (.slice A6 1 c6, [1]), (.slice A5 1 c5, [2])]) => wd_ixs hV 2 1 3 1 (.slice A6 1 c6) [1] (by simp) (by simp) 2 1 3 1 rfl rfl rfl rfl 0 (by first | rfl | decide +kernel | simp))
      have l0 := b7_23.cell 0
      have l1 := b7_23.cell 1
      have l2 := b7_23.cell 2
      have l3 := b7_23.cell 3
      go_wp2_with (first
        | (go_at_call 39; (with_reducible refine (HX.out).mono ?_); rintro e wi ⟨Ai, ci, rfl, _, Wi, xi⟩; have bi1 := b6_10_23.below xi; have n0 := bi1.cell 0; have n1 := bi1.cell 1; have n2 := bi1.cell 2; have n3 := bi1.cell 3)
        | (go_at_call 39; (with_reducible refine (HZ.out _ Wi).mono ?_); rintro e wj ⟨Aj, cj, rfl, _, Wj, xj⟩))
      go_ret
      exact ⟨rfl, Wj.below'⟩
    | true =>
      have l0 := b5_10.cell 0
      have l1 := b5_10.cell 1
      have l2 := b5_10.cell 2
      have l3 := b5_10.cell 3
      have HT := wd_tabS W10 1 2 3 (.slice A5 1 c5) [2] ⟨#[116]⟩ ⟨t10, ⟨1, ⟨#[116]⟩, 1, 0⟩, [coA], cv10⟩ (by simp) (h8 _ _) (find_hit seen1) 1 2 3 rfl rfl rfl 1 1 0 rfl rfl rfl ⟨#[116]⟩ rfl 1 rfl
      go_wp2_with fail
      refine (HT).mono ?_
      rintro e wq15 ⟨Aq15, cq15, rfl, _, Wq15, xq15⟩
      clear l0 l1 l2 l3
      clear HT
      have b5_10_15 := (b5_10.below xq15).alloc (.cells #[.int .u64 1, .string ⟨#[116]⟩, .slice Aq15 1 cq15, .int .u64 1, .int .u64 0] 85)
      have b6_10_15 := (b6_10.below xq15).alloc (.cells #[.int .u64 1, .string ⟨#[116]⟩, .slice Aq15 1 cq15, .int .u64 1, .int .u64 0] 85)
      have W_15 := Wq15.next ((Below.refl _ _).al (.cells #[.int .u64 1, .string ⟨#[116]⟩, .slice Aq15 1 cq15, .int .u64 1, .int .u64 0] 85))
      clear b5_10 b6_10 Wq15 xq15 W10
      go_upto_region 16 with fail
      generalize wq15.alloc (.cells #[.int .u64 1, .string ⟨#[116]⟩, .slice Aq15 1 cq15, .int .u64 1, .int .u64 0] 85) = V15 at *
      have l0 := b6_10_15.cell 0
      have l1 := b6_10_15.cell 1
      have l2 := b6_10_15.cell 2
      have l3 := b6_10_15.cell 3
      have HT := wd_tabN W_15 2 1 3 (.slice A6 1 c6) [1] ⟨#[116]⟩ (by simp) (h8 _ _) (find_miss seen2) 2 1 3 rfl rfl rfl
      go_wp2_with fail
      refine (HT).mono ?_
      rintro e wq16 ⟨rfl, Wq16, xq16⟩
      clear l0 l1 l2 l3
      clear HT
      have b5_10_16 := (b5_10_15.below xq16).alloc (.cells #[.int .u64 0, .string ⟨#[]⟩, .slice none 0 0, .int .u64 0, .int .u64 0] 85)
      have b6_10_16 := (b6_10_15.below xq16).alloc (.cells #[.int .u64 0, .string ⟨#[]⟩, .slice none 0 0, .int .u64 0, .int .u64 0] 85)
      have W_16 := Wq16.next ((Below.refl _ _).al (.cells #[.int .u64 0, .string ⟨#[]⟩, .slice none 0 0, .int .u64 0, .int .u64 0] 85))
      clear b5_10_15 b6_10_15 Wq16 xq16 W_15
      go_upto_region 17 with fail
      generalize wq16.alloc (.cells #[.int .u64 0, .string ⟨#[]⟩, .slice none 0 0, .int .u64 0, .int .u64 0] 85) = V16 at *
      have HM := wd_commit W_16 1 (by decide)
      rw [show endE 1 [1, 1] 1 = 0 from rfl, show endL 1 [1, 1] 1 2 = [2, 1] from rfl] at HM
      go_wp2_with fail
      refine (HM).mono ?_
      rintro e w18 ⟨rfl, W18, f18⟩
      clear HM W_16
      have b5_10_18 := f18.bx b5_10_16 (by decide)
      have b6_10_18 := f18.bx b6_10_16 (by decide)
      clear f18 b5_10_16 b6_10_16
      have HM := wd_begin W18
      rw [show begR 1 [2, 1] = .tuple #[.int .u64 3, .int .i64 0] from rfl, show begL 1 [2, 1] = [2, 1, 1] from rfl] at HM
      go_wp2_with fail
      refine (HM).mono ?_
      rintro e w20 ⟨rfl, W20, f20⟩
      clear HM W18
      have b5_10_20 := f20.bx b5_10_18 (by decide)
      have b6_10_20 := f20.bx b6_10_18 (by decide)
      clear f20 b5_10_18 b6_10_18
      have HT := wd_take W20 3
      rw [show runs 1 [2, 1, 1] = [2, 3] from rfl, show others [2, 3] 3 = [2] by decide, show least [2] (1 + [2, 1, 1].length) = 2 from rfl, show 1 + [2, 1, 1].length = 4 from rfl] at HT
      go_wp2_with fail
      refine (HT).mono ?_
      rintro e w21 ⟨v21, rfl, W21, x21⟩
      obtain ⟨A21, c21, rfl⟩ := W21.form (v := v21) (n := 1) List.mem_cons_self rfl
      clear HT W20
      have b5_10_21 := (b5_10_20.below x21).alloc (.cells #[.int .u64 3, .int .u64 2, .int .u64 4, .slice A21 1 c21] 50)
      have b6_10_21 := (b6_10_20.below x21).alloc (.cells #[.int .u64 3, .int .u64 2, .int .u64 4, .slice A21 1 c21] 50)
      have b7_21 := Bx.new w21 50 #[.int .u64 3, .int .u64 2, .int .u64 4, .slice A21 1 c21] [.int .u64 3, .int .u64 2, .int .u64 4, .slice A21 1 c21] rfl
      have W22 := W21.next ((Below.refl _ _).al (.cells #[.int .u64 3, .int .u64 2, .int .u64 4, .slice A21 1 c21] 50))
      clear x21 W21 b5_10_20 b6_10_20
      go_upto_region 22 with fail
      generalize w21.alloc (.cells #[.int .u64 3, .int .u64 2, .int .u64 4, .slice A21 1 c21] 50) = V21 at *
      generalize w21.heap.size = sc at *
      have l0 := b6_10_21.cell 0
      have l1 := b6_10_21.cell 1
      have l2 := b6_10_21.cell 2
      have l3 := b6_10_21.cell 3
      have HT := wd_tabN W22 2 1 3 (.slice A6 1 c6) [1] ⟨#[116]⟩ (by simp) (h8 _ _) (find_miss seen3c) 2 1 3 rfl rfl rfl
      go_wp2_with fail
      refine (HT).mono ?_
      rintro e wq22 ⟨rfl, Wq22, xq22⟩
      clear l0 l1 l2 l3
      clear HT
      have b5_10_22 := (b5_10_21.below xq22).alloc (.cells #[.int .u64 0, .string ⟨#[]⟩, .slice none 0 0, .int .u64 0, .int .u64 0] 85)
      have b6_10_22 := (b6_10_21.below xq22).alloc (.cells #[.int .u64 0, .string ⟨#[]⟩, .slice none 0 0, .int .u64 0, .int .u64 0] 85)
      have b7_22 := (b7_21.below xq22).alloc (.cells #[.int .u64 0, .string ⟨#[]⟩, .slice none 0 0, .int .u64 0, .int .u64 0] 85)
      have W_22 := Wq22.next ((Below.refl _ _).al (.cells #[.int .u64 0, .string ⟨#[]⟩, .slice none 0 0, .int .u64 0, .int .u64 0] 85))
      clear b5_10_21 b6_10_21 b7_21 Wq22 xq22 W22
      go_upto_region 23 with fail
      generalize wq22.alloc (.cells #[.int .u64 0, .string ⟨#[]⟩, .slice none 0 0, .int .u64 0, .int .u64 0] 85) = V22 at *
      have l0 := b7_22.cell 0
      have l1 := b7_22.cell 1
      have l2 := b7_22.cell 2
      have l3 := b7_22.cell 3
      have HT := wd_tabS W_22 3 2 4 (.slice A21 1 c21) [2] ⟨#[116]⟩ ⟨t10, ⟨1, ⟨#[116]⟩, 1, 0⟩, [coA], cv10⟩ (by simp) (h8 _ _) (find_hit seen4c) 3 2 4 rfl rfl rfl 1 1 0 rfl rfl rfl ⟨#[116]⟩ rfl 1 rfl
      go_wp2_with fail
      refine (HT).mono ?_
      rintro e wq23 ⟨Aq23, cq23, rfl, _, Wq23, xq23⟩
      clear l0 l1 l2 l3
      clear HT
      have b5_10_23 := (b5_10_22.below xq23).alloc (.cells #[.int .u64 1, .string ⟨#[116]⟩, .slice Aq23 1 cq23, .int .u64 1, .int .u64 0] 85)
      have b6_10_23 := (b6_10_22.below xq23).alloc (.cells #[.int .u64 1, .string ⟨#[116]⟩, .slice Aq23 1 cq23, .int .u64 1, .int .u64 0] 85)
      have b7_23 := (b7_22.below xq23).alloc (.cells #[.int .u64 1, .string ⟨#[116]⟩, .slice Aq23 1 cq23, .int .u64 1, .int .u64 0] 85)
      have W_23 := Wq23.next ((Below.refl _ _).al (.cells #[.int .u64 1, .string ⟨#[116]⟩, .slice Aq23 1 cq23, .int .u64 1, .int .u64 0] 85))
      clear b5_10_22 b6_10_22 b7_22 Wq23 xq23 W_22
      go_upto_region 24 with fail
      generalize wq23.alloc (.cells #[.int .u64 1, .string ⟨#[116]⟩, .slice Aq23 1 cq23, .int .u64 1, .int .u64 0] 85) = V23 at *
      have HX := Lib.hid (wd_ixs W_23 3 2 4 1 (.slice A21 1 c21) [2] (by simp) (by simp) 3 2 4 1 rfl rfl rfl rfl 0 (by first | rfl | decide +kernel | simp))
      have HZ := Lib.hid (fun V (hV : Wd w.heap.size w V g [2, 1, 1] k 1 [⟨t10, ⟨1, ⟨#[116]⟩, 1, 0⟩, [coA], cv10⟩] [] [(.slice A21 1 c21, [2]), (.slice A6 1 c6, [1]), (.slice A5 1 c5, [2])]) => wd_ixs hV 2 1 3 1 (.slice A6 1 c6) [1] (by simp) (by simp) 2 1 3 1 rfl rfl rfl rfl 0 (by first | rfl | decide +kernel | simp))
      have l0 := b7_23.cell 0
      have l1 := b7_23.cell 1
      have l2 := b7_23.cell 2
      have l3 := b7_23.cell 3
      go_wp2_with (first
        | (go_at_call 39; (with_reducible refine (HX.out).mono ?_); rintro e wi ⟨Ai, ci, rfl, _, Wi, xi⟩; have bi1 := b6_10_23.below xi; have n0 := bi1.cell 0; have n1 := bi1.cell 1; have n2 := bi1.cell 2; have n3 := bi1.cell 3)
        | (go_at_call 39; (with_reducible refine (HZ.out _ Wi).mono ?_); rintro e wj ⟨Aj, cj, rfl, _, Wj, xj⟩))
      go_ret
      exact ⟨rfl, Wj.below'⟩
  | true =>
    have l0 := b5_10.cell 0
    have l1 := b5_10.cell 1
    have l2 := b5_10.cell 2
    have l3 := b5_10.cell 3
    have HC := wd_cridx W10 1 2 3 (.slice A5 1 c5) [2] ⟨#[105]⟩ ⟨#[116]⟩ ⟨#[97]⟩ (by simp) (h8 _ _) (by decide) (by decide) 1 2 3 rfl rfl rfl
    go_wp2_with fail
    refine (HC).mono ?_
    rintro e w12 ⟨⟨hne, _⟩ | ⟨_, t, bi, ht, _, rfl, W12⟩, f12⟩
    · exact absurd (ci_ok _ _) hne
    rw [find_hit seen1] at ht
    injection ht with ht
    subst ht
    have W12 : Wd w.heap.size w w12 g [1, 1] k 2 [⟨t10, ⟨1, ⟨#[116]⟩, 1, 0⟩, [coA], cv10⟩] [(bi, ⟨⟨2, ⟨#[105]⟩, 1, 0⟩, t10, ⟨1, ⟨#[116]⟩, 1, 0⟩, 0⟩)] [(.slice A6 1 c6, [1]), (.slice A5 1 c5, [2])] := by have h := W12; dsimp only at h; rw [col0] at h; exact h
    unfold ixV
    dsimp only
    rw [show (colIx ⟨#[97]⟩ [coA]).toNat = 0 from col0]
    have b5_12 := (f12.bx b5_10 (by decide)).alloc (.cells #[.int .u64 2, .string ⟨#[105]⟩, .int .u64 1, .int .i64 0, .int .u64 1, .int .u64 0] 60)
    have b6_12 := (f12.bx b6_10 (by decide)).alloc (.cells #[.int .u64 2, .string ⟨#[105]⟩, .int .u64 1, .int .i64 0, .int .u64 1, .int .u64 0] 60)
    have bi_12 := Bx.new w12 60 #[.int .u64 2, .string ⟨#[105]⟩, .int .u64 1, .int .i64 0, .int .u64 1, .int .u64 0] [.int .u64 2, .string ⟨#[105]⟩, .int .u64 1, .int .i64 0, .int .u64 1, .int .u64 0] rfl
    have W13 := W12.next ((Below.refl _ _).al (.cells #[.int .u64 2, .string ⟨#[105]⟩, .int .u64 1, .int .i64 0, .int .u64 1, .int .u64 0] 60))
    clear l0 l1 l2 l3 HC W12 f12 W10 b5_10 b6_10
    go_upto_region 13 with fail
    generalize w12.alloc (.cells #[.int .u64 2, .string ⟨#[105]⟩, .int .u64 1, .int .i64 0, .int .u64 1, .int .u64 0] 60) = V12 at *
    generalize w12.heap.size = sx at *
    have l2 := bi_12.cell 2
    have l3 := bi_12.cell 3
    go_upto_region 15 with fail
    clear l2 l3 bi_12
    cases commit with
    | false =>
      have l0 := b5_12.cell 0
      have l1 := b5_12.cell 1
      have l2 := b5_12.cell 2
      have l3 := b5_12.cell 3
      have HT := wd_tabS W13 1 2 3 (.slice A5 1 c5) [2] ⟨#[116]⟩ ⟨t10, ⟨1, ⟨#[116]⟩, 1, 0⟩, [coA], cv10⟩ (by simp) (h8 _ _) (find_hit seen1) 1 2 3 rfl rfl rfl 1 1 0 rfl rfl rfl ⟨#[116]⟩ rfl 1 rfl
      go_wp2_with fail
      refine (HT).mono ?_
      rintro e wq15 ⟨Aq15, cq15, rfl, _, Wq15, xq15⟩
      clear l0 l1 l2 l3
      clear HT
      have b5_15 := (b5_12.below xq15).alloc (.cells #[.int .u64 1, .string ⟨#[116]⟩, .slice Aq15 1 cq15, .int .u64 1, .int .u64 0] 85)
      have b6_15 := (b6_12.below xq15).alloc (.cells #[.int .u64 1, .string ⟨#[116]⟩, .slice Aq15 1 cq15, .int .u64 1, .int .u64 0] 85)
      have W_15 := Wq15.next ((Below.refl _ _).al (.cells #[.int .u64 1, .string ⟨#[116]⟩, .slice Aq15 1 cq15, .int .u64 1, .int .u64 0] 85))
      clear b5_12 b6_12 Wq15 xq15 W13
      go_upto_region 16 with fail
      generalize wq15.alloc (.cells #[.int .u64 1, .string ⟨#[116]⟩, .slice Aq15 1 cq15, .int .u64 1, .int .u64 0] 85) = V15 at *
      have l0 := b6_15.cell 0
      have l1 := b6_15.cell 1
      have l2 := b6_15.cell 2
      have l3 := b6_15.cell 3
      have HT := wd_tabN W_15 2 1 3 (.slice A6 1 c6) [1] ⟨#[116]⟩ (by simp) (h8 _ _) (find_miss seen2) 2 1 3 rfl rfl rfl
      go_wp2_with fail
      refine (HT).mono ?_
      rintro e wq16 ⟨rfl, Wq16, xq16⟩
      clear l0 l1 l2 l3
      clear HT
      have b5_16 := (b5_15.below xq16).alloc (.cells #[.int .u64 0, .string ⟨#[]⟩, .slice none 0 0, .int .u64 0, .int .u64 0] 85)
      have b6_16 := (b6_15.below xq16).alloc (.cells #[.int .u64 0, .string ⟨#[]⟩, .slice none 0 0, .int .u64 0, .int .u64 0] 85)
      have W_16 := Wq16.next ((Below.refl _ _).al (.cells #[.int .u64 0, .string ⟨#[]⟩, .slice none 0 0, .int .u64 0, .int .u64 0] 85))
      clear b5_15 b6_15 Wq16 xq16 W_15
      go_upto_region 17 with fail
      generalize wq16.alloc (.cells #[.int .u64 0, .string ⟨#[]⟩, .slice none 0 0, .int .u64 0, .int .u64 0] 85) = V16 at *
      have HM := wd_abort W_16 1 (by decide)
      rw [show endE 1 [1, 1] 1 = 0 from rfl, show endL 1 [1, 1] 1 3 = [3, 1] from rfl] at HM
      go_wp2_with fail
      refine (HM).mono ?_
      rintro e w18 ⟨rfl, W18, f18⟩
      clear HM W_16
      have b5_18 := f18.bx b5_16 (by decide)
      have b6_18 := f18.bx b6_16 (by decide)
      clear f18 b5_16 b6_16
      have HM := wd_begin W18
      rw [show begR 1 [3, 1] = .tuple #[.int .u64 3, .int .i64 0] from rfl, show begL 1 [3, 1] = [3, 1, 1] from rfl] at HM
      go_wp2_with fail
      refine (HM).mono ?_
      rintro e w20 ⟨rfl, W20, f20⟩
      clear HM W18
      have b5_20 := f20.bx b5_18 (by decide)
      have b6_20 := f20.bx b6_18 (by decide)
      clear f20 b5_18 b6_18
      have HT := wd_take W20 3
      rw [show runs 1 [3, 1, 1] = [2, 3] from rfl, show others [2, 3] 3 = [2] by decide, show least [2] (1 + [3, 1, 1].length) = 2 from rfl, show 1 + [3, 1, 1].length = 4 from rfl] at HT
      go_wp2_with fail
      refine (HT).mono ?_
      rintro e w21 ⟨v21, rfl, W21, x21⟩
      obtain ⟨A21, c21, rfl⟩ := W21.form (v := v21) (n := 1) List.mem_cons_self rfl
      clear HT W20
      have b5_21 := (b5_20.below x21).alloc (.cells #[.int .u64 3, .int .u64 2, .int .u64 4, .slice A21 1 c21] 50)
      have b6_21 := (b6_20.below x21).alloc (.cells #[.int .u64 3, .int .u64 2, .int .u64 4, .slice A21 1 c21] 50)
      have b7_21 := Bx.new w21 50 #[.int .u64 3, .int .u64 2, .int .u64 4, .slice A21 1 c21] [.int .u64 3, .int .u64 2, .int .u64 4, .slice A21 1 c21] rfl
      have W22 := W21.next ((Below.refl _ _).al (.cells #[.int .u64 3, .int .u64 2, .int .u64 4, .slice A21 1 c21] 50))
      clear x21 W21 b5_20 b6_20
      go_upto_region 22 with fail
      generalize w21.alloc (.cells #[.int .u64 3, .int .u64 2, .int .u64 4, .slice A21 1 c21] 50) = V21 at *
      generalize w21.heap.size = sc at *
      have l0 := b6_21.cell 0
      have l1 := b6_21.cell 1
      have l2 := b6_21.cell 2
      have l3 := b6_21.cell 3
      have HT := wd_tabN W22 2 1 3 (.slice A6 1 c6) [1] ⟨#[116]⟩ (by simp) (h8 _ _) (find_miss seen3a) 2 1 3 rfl rfl rfl
      go_wp2_with fail
      refine (HT).mono ?_
      rintro e wq22 ⟨rfl, Wq22, xq22⟩
      clear l0 l1 l2 l3
      clear HT
      have b5_22 := (b5_21.below xq22).alloc (.cells #[.int .u64 0, .string ⟨#[]⟩, .slice none 0 0, .int .u64 0, .int .u64 0] 85)
      have b6_22 := (b6_21.below xq22).alloc (.cells #[.int .u64 0, .string ⟨#[]⟩, .slice none 0 0, .int .u64 0, .int .u64 0] 85)
      have b7_22 := (b7_21.below xq22).alloc (.cells #[.int .u64 0, .string ⟨#[]⟩, .slice none 0 0, .int .u64 0, .int .u64 0] 85)
      have W_22 := Wq22.next ((Below.refl _ _).al (.cells #[.int .u64 0, .string ⟨#[]⟩, .slice none 0 0, .int .u64 0, .int .u64 0] 85))
      clear b5_21 b6_21 b7_21 Wq22 xq22 W22
      go_upto_region 23 with fail
      generalize wq22.alloc (.cells #[.int .u64 0, .string ⟨#[]⟩, .slice none 0 0, .int .u64 0, .int .u64 0] 85) = V22 at *
      have l0 := b7_22.cell 0
      have l1 := b7_22.cell 1
      have l2 := b7_22.cell 2
      have l3 := b7_22.cell 3
      have HT := wd_tabN W_22 3 2 4 (.slice A21 1 c21) [2] ⟨#[116]⟩ (by simp) (h8 _ _) (find_miss seen4a) 3 2 4 rfl rfl rfl
      go_wp2_with fail
      refine (HT).mono ?_
      rintro e wq23 ⟨rfl, Wq23, xq23⟩
      clear l0 l1 l2 l3
      clear HT
      have b5_23 := (b5_22.below xq23).alloc (.cells #[.int .u64 0, .string ⟨#[]⟩, .slice none 0 0, .int .u64 0, .int .u64 0] 85)
      have b6_23 := (b6_22.below xq23).alloc (.cells #[.int .u64 0, .string ⟨#[]⟩, .slice none 0 0, .int .u64 0, .int .u64 0] 85)
      have b7_23 := (b7_22.below xq23).alloc (.cells #[.int .u64 0, .string ⟨#[]⟩, .slice none 0 0, .int .u64 0, .int .u64 0] 85)
      have W_23 := Wq23.next ((Below.refl _ _).al (.cells #[.int .u64 0, .string ⟨#[]⟩, .slice none 0 0, .int .u64 0, .int .u64 0] 85))
      clear b5_22 b6_22 b7_22 Wq23 xq23 W_22
      go_upto_region 24 with fail
      generalize wq23.alloc (.cells #[.int .u64 0, .string ⟨#[]⟩, .slice none 0 0, .int .u64 0, .int .u64 0] 85) = V23 at *
      have HX := Lib.hid (wd_ixs W_23 3 2 4 1 (.slice A21 1 c21) [2] (by simp) (by simp) 3 2 4 1 rfl rfl rfl rfl 0 (by first | rfl | decide +kernel | simp))
      have HZ := Lib.hid (fun V (hV : Wd w.heap.size w V g [3, 1, 1] k 2 [⟨t10, ⟨1, ⟨#[116]⟩, 1, 0⟩, [coA], cv10⟩] [(bi, ⟨⟨2, ⟨#[105]⟩, 1, 0⟩, t10, ⟨1, ⟨#[116]⟩, 1, 0⟩, 0⟩)] [(.slice A21 1 c21, [2]), (.slice A6 1 c6, [1]), (.slice A5 1 c5, [2])]) => wd_ixs hV 2 1 3 1 (.slice A6 1 c6) [1] (by simp) (by simp) 2 1 3 1 rfl rfl rfl rfl 0 (by first | rfl | decide +kernel | simp))
      have l0 := b7_23.cell 0
      have l1 := b7_23.cell 1
      have l2 := b7_23.cell 2
      have l3 := b7_23.cell 3
      go_wp2_with (first
        | (go_at_call 39; (with_reducible refine (HX.out).mono ?_); rintro e wi ⟨Ai, ci, rfl, _, Wi, xi⟩; have bi1 := b6_23.below xi; have n0 := bi1.cell 0; have n1 := bi1.cell 1; have n2 := bi1.cell 2; have n3 := bi1.cell 3)
        | (go_at_call 39; (with_reducible refine (HZ.out _ Wi).mono ?_); rintro e wj ⟨Aj, cj, rfl, _, Wj, xj⟩))
      go_ret
      exact ⟨rfl, Wj.below'⟩
    | true =>
      have l0 := b5_12.cell 0
      have l1 := b5_12.cell 1
      have l2 := b5_12.cell 2
      have l3 := b5_12.cell 3
      have HT := wd_tabS W13 1 2 3 (.slice A5 1 c5) [2] ⟨#[116]⟩ ⟨t10, ⟨1, ⟨#[116]⟩, 1, 0⟩, [coA], cv10⟩ (by simp) (h8 _ _) (find_hit seen1) 1 2 3 rfl rfl rfl 1 1 0 rfl rfl rfl ⟨#[116]⟩ rfl 1 rfl
      go_wp2_with fail
      refine (HT).mono ?_
      rintro e wq15 ⟨Aq15, cq15, rfl, _, Wq15, xq15⟩
      clear l0 l1 l2 l3
      clear HT
      have b5_15 := (b5_12.below xq15).alloc (.cells #[.int .u64 1, .string ⟨#[116]⟩, .slice Aq15 1 cq15, .int .u64 1, .int .u64 0] 85)
      have b6_15 := (b6_12.below xq15).alloc (.cells #[.int .u64 1, .string ⟨#[116]⟩, .slice Aq15 1 cq15, .int .u64 1, .int .u64 0] 85)
      have W_15 := Wq15.next ((Below.refl _ _).al (.cells #[.int .u64 1, .string ⟨#[116]⟩, .slice Aq15 1 cq15, .int .u64 1, .int .u64 0] 85))
      clear b5_12 b6_12 Wq15 xq15 W13
      go_upto_region 16 with fail
      generalize wq15.alloc (.cells #[.int .u64 1, .string ⟨#[116]⟩, .slice Aq15 1 cq15, .int .u64 1, .int .u64 0] 85) = V15 at *
      have l0 := b6_15.cell 0
      have l1 := b6_15.cell 1
      have l2 := b6_15.cell 2
      have l3 := b6_15.cell 3
      have HT := wd_tabN W_15 2 1 3 (.slice A6 1 c6) [1] ⟨#[116]⟩ (by simp) (h8 _ _) (find_miss seen2) 2 1 3 rfl rfl rfl
      go_wp2_with fail
      refine (HT).mono ?_
      rintro e wq16 ⟨rfl, Wq16, xq16⟩
      clear l0 l1 l2 l3
      clear HT
      have b5_16 := (b5_15.below xq16).alloc (.cells #[.int .u64 0, .string ⟨#[]⟩, .slice none 0 0, .int .u64 0, .int .u64 0] 85)
      have b6_16 := (b6_15.below xq16).alloc (.cells #[.int .u64 0, .string ⟨#[]⟩, .slice none 0 0, .int .u64 0, .int .u64 0] 85)
      have W_16 := Wq16.next ((Below.refl _ _).al (.cells #[.int .u64 0, .string ⟨#[]⟩, .slice none 0 0, .int .u64 0, .int .u64 0] 85))
      clear b5_15 b6_15 Wq16 xq16 W_15
      go_upto_region 17 with fail
      generalize wq16.alloc (.cells #[.int .u64 0, .string ⟨#[]⟩, .slice none 0 0, .int .u64 0, .int .u64 0] 85) = V16 at *
      have HM := wd_commit W_16 1 (by decide)
      rw [show endE 1 [1, 1] 1 = 0 from rfl, show endL 1 [1, 1] 1 2 = [2, 1] from rfl] at HM
      go_wp2_with fail
      refine (HM).mono ?_
      rintro e w18 ⟨rfl, W18, f18⟩
      clear HM W_16
      have b5_18 := f18.bx b5_16 (by decide)
      have b6_18 := f18.bx b6_16 (by decide)
      clear f18 b5_16 b6_16
      have HM := wd_begin W18
      rw [show begR 1 [2, 1] = .tuple #[.int .u64 3, .int .i64 0] from rfl, show begL 1 [2, 1] = [2, 1, 1] from rfl] at HM
      go_wp2_with fail
      refine (HM).mono ?_
      rintro e w20 ⟨rfl, W20, f20⟩
      clear HM W18
      have b5_20 := f20.bx b5_18 (by decide)
      have b6_20 := f20.bx b6_18 (by decide)
      clear f20 b5_18 b6_18
      have HT := wd_take W20 3
      rw [show runs 1 [2, 1, 1] = [2, 3] from rfl, show others [2, 3] 3 = [2] by decide, show least [2] (1 + [2, 1, 1].length) = 2 from rfl, show 1 + [2, 1, 1].length = 4 from rfl] at HT
      go_wp2_with fail
      refine (HT).mono ?_
      rintro e w21 ⟨v21, rfl, W21, x21⟩
      obtain ⟨A21, c21, rfl⟩ := W21.form (v := v21) (n := 1) List.mem_cons_self rfl
      clear HT W20
      have b5_21 := (b5_20.below x21).alloc (.cells #[.int .u64 3, .int .u64 2, .int .u64 4, .slice A21 1 c21] 50)
      have b6_21 := (b6_20.below x21).alloc (.cells #[.int .u64 3, .int .u64 2, .int .u64 4, .slice A21 1 c21] 50)
      have b7_21 := Bx.new w21 50 #[.int .u64 3, .int .u64 2, .int .u64 4, .slice A21 1 c21] [.int .u64 3, .int .u64 2, .int .u64 4, .slice A21 1 c21] rfl
      have W22 := W21.next ((Below.refl _ _).al (.cells #[.int .u64 3, .int .u64 2, .int .u64 4, .slice A21 1 c21] 50))
      clear x21 W21 b5_20 b6_20
      go_upto_region 22 with fail
      generalize w21.alloc (.cells #[.int .u64 3, .int .u64 2, .int .u64 4, .slice A21 1 c21] 50) = V21 at *
      generalize w21.heap.size = sc at *
      have l0 := b6_21.cell 0
      have l1 := b6_21.cell 1
      have l2 := b6_21.cell 2
      have l3 := b6_21.cell 3
      have HT := wd_tabN W22 2 1 3 (.slice A6 1 c6) [1] ⟨#[116]⟩ (by simp) (h8 _ _) (find_miss seen3c) 2 1 3 rfl rfl rfl
      go_wp2_with fail
      refine (HT).mono ?_
      rintro e wq22 ⟨rfl, Wq22, xq22⟩
      clear l0 l1 l2 l3
      clear HT
      have b5_22 := (b5_21.below xq22).alloc (.cells #[.int .u64 0, .string ⟨#[]⟩, .slice none 0 0, .int .u64 0, .int .u64 0] 85)
      have b6_22 := (b6_21.below xq22).alloc (.cells #[.int .u64 0, .string ⟨#[]⟩, .slice none 0 0, .int .u64 0, .int .u64 0] 85)
      have b7_22 := (b7_21.below xq22).alloc (.cells #[.int .u64 0, .string ⟨#[]⟩, .slice none 0 0, .int .u64 0, .int .u64 0] 85)
      have W_22 := Wq22.next ((Below.refl _ _).al (.cells #[.int .u64 0, .string ⟨#[]⟩, .slice none 0 0, .int .u64 0, .int .u64 0] 85))
      clear b5_21 b6_21 b7_21 Wq22 xq22 W22
      go_upto_region 23 with fail
      generalize wq22.alloc (.cells #[.int .u64 0, .string ⟨#[]⟩, .slice none 0 0, .int .u64 0, .int .u64 0] 85) = V22 at *
      have l0 := b7_22.cell 0
      have l1 := b7_22.cell 1
      have l2 := b7_22.cell 2
      have l3 := b7_22.cell 3
      have HT := wd_tabS W_22 3 2 4 (.slice A21 1 c21) [2] ⟨#[116]⟩ ⟨t10, ⟨1, ⟨#[116]⟩, 1, 0⟩, [coA], cv10⟩ (by simp) (h8 _ _) (find_hit seen4c) 3 2 4 rfl rfl rfl 1 1 0 rfl rfl rfl ⟨#[116]⟩ rfl 1 rfl
      go_wp2_with fail
      refine (HT).mono ?_
      rintro e wq23 ⟨Aq23, cq23, rfl, _, Wq23, xq23⟩
      clear l0 l1 l2 l3
      clear HT
      have b5_23 := (b5_22.below xq23).alloc (.cells #[.int .u64 1, .string ⟨#[116]⟩, .slice Aq23 1 cq23, .int .u64 1, .int .u64 0] 85)
      have b6_23 := (b6_22.below xq23).alloc (.cells #[.int .u64 1, .string ⟨#[116]⟩, .slice Aq23 1 cq23, .int .u64 1, .int .u64 0] 85)
      have b7_23 := (b7_22.below xq23).alloc (.cells #[.int .u64 1, .string ⟨#[116]⟩, .slice Aq23 1 cq23, .int .u64 1, .int .u64 0] 85)
      have W_23 := Wq23.next ((Below.refl _ _).al (.cells #[.int .u64 1, .string ⟨#[116]⟩, .slice Aq23 1 cq23, .int .u64 1, .int .u64 0] 85))
      clear b5_22 b6_22 b7_22 Wq23 xq23 W_22
      go_upto_region 24 with fail
      generalize wq23.alloc (.cells #[.int .u64 1, .string ⟨#[116]⟩, .slice Aq23 1 cq23, .int .u64 1, .int .u64 0] 85) = V23 at *
      have HX := Lib.hid (wd_ixs W_23 3 2 4 1 (.slice A21 1 c21) [2] (by simp) (by simp) 3 2 4 1 rfl rfl rfl rfl 1 (by first | rfl | decide +kernel | simp))
      have HZ := Lib.hid (fun V (hV : Wd w.heap.size w V g [2, 1, 1] k 2 [⟨t10, ⟨1, ⟨#[116]⟩, 1, 0⟩, [coA], cv10⟩] [(bi, ⟨⟨2, ⟨#[105]⟩, 1, 0⟩, t10, ⟨1, ⟨#[116]⟩, 1, 0⟩, 0⟩)] [(.slice A21 1 c21, [2]), (.slice A6 1 c6, [1]), (.slice A5 1 c5, [2])]) => wd_ixs hV 2 1 3 1 (.slice A6 1 c6) [1] (by simp) (by simp) 2 1 3 1 rfl rfl rfl rfl 0 (by first | rfl | decide +kernel | simp))
      have l0 := b7_23.cell 0
      have l1 := b7_23.cell 1
      have l2 := b7_23.cell 2
      have l3 := b7_23.cell 3
      go_wp2_with (first
        | (go_at_call 39; (with_reducible refine (HX.out).mono ?_); rintro e wi ⟨Ai, ci, rfl, _, Wi, xi⟩; have bi1 := b6_23.below xi; have n0 := bi1.cell 0; have n1 := bi1.cell 1; have n2 := bi1.cell 2; have n3 := bi1.cell 3)
        | (go_at_call 39; (with_reducible refine (HZ.out _ Wi).mono ?_); rintro e wj ⟨Aj, cj, rfl, _, Wj, xj⟩))
      go_ret
      exact ⟨rfl, Wj.below'⟩
end Go.Proofs.Ytbmkhopmhmmibaa.bookOwn
