/-
  lapidarylaw11.awake.
-/
import Derived.Test.YtbmkhopmhmmibaaBookL
namespace Go.Proofs.Ytbmkhopmhmmibaa
open Go.RowKit
set_option linter.unusedVariables false

def blkE (S : List Nat) (own xmax : Nat) (R : List Nat) (x : Ent) : Bool := aliveE 1 S x && (!visB 1 S own xmax R x.xmin x.xmax && !(decide (x.xmax ≠ 0) && decide (x.xmax = own)))
theorem find_all (S : List Nat) (own xmax : Nat) (R : List Nat) (n : ByteArray) (T : List Tb) (h : ∀ t ∈ T, t.e.nm = n) : (findT 1 S own xmax R n (T.map Tb.p)).isSome = T.any fun t => visB 1 S own xmax R t.e.xmin t.e.xmax := by
  unfold findT
  induction T with
  | nil => rfl
  | cons t T ih =>
    rw [List.map_cons, List.find?_cons, List.any_cons, ← ih fun t ht => h t (List.mem_cons_of_mem _ ht)]
    have hs : seenE 1 S own xmax R n t.p.2 = visB 1 S own xmax R t.e.xmin t.e.xmax := by
      unfold seenE; rw [show t.p.2 = t.e from rfl, h t List.mem_cons_self]; simp
    rw [hs]
    cases visB 1 S own xmax R t.e.xmin t.e.xmax <;> rfl
theorem cont_all (S : List Nat) (own xmax : Nat) (R : List Nat) (n : ByteArray) (T : List Tb) (h : ∀ t ∈ T, t.e.nm = n) : contT 1 S own xmax R n (T.map Tb.p) = T.any fun t => blkE S own xmax R t.e := by
  unfold contT
  induction T with
  | nil => rfl
  | cons t T ih =>
    rw [List.map_cons, List.any_cons, List.any_cons, ← ih fun t ht => h t (List.mem_cons_of_mem _ ht)]
    have hs : contE 1 S own xmax R n t.p.2 = blkE S own xmax R t.e := by
      unfold contE blkE; rw [show t.p.2 = t.e from rfl, h t List.mem_cons_self]; simp
    rw [hs]
theorem crE_all (S : List Nat) (own xmax : Nat) (R : List Nat) (n : ByteArray) (hn : nameB n = true) (T : List Tb) (h : ∀ t ∈ T, t.e.nm = n) : crE S own xmax R n [coA] T [] = if T.any (fun t => visB 1 S own xmax R t.e.xmin t.e.xmax) then 7 else if T.any (fun t => blkE S own xmax R t.e) then 11 else if T.length < 16 then 0 else 12 := by
  unfold crE vacV
  rw [hn, proper_one, find_all S own xmax R n T h, cont_all S own xmax R n T h]
  simp only [findI, contJ, List.find?_nil, List.any_nil, Option.isSome_none, Bool.or_false, Bool.and_self, if_true]
  cases T.any (fun t => visB 1 S own xmax R t.e.xmin t.e.xmax) <;> cases T.any (fun t => blkE S own xmax R t.e) <;> simp
theorem alloc_size (w : World) (o : Obj) : (w.alloc o).heap.size = w.heap.size + 1 := by first | simp | rfl | (show (Array.push _ _).size = _; simp)
theorem one_ex (w : World) :
    Calls Try.prog 35 #[] w fun e w' => ∃ q, e = .returned (.slice (some ⟨q, 0, none⟩) 1 1) ∧ w'.ownsRow w.heap.size 121 2 (.slice (some ⟨q, 0, none⟩) 1 1) 1 ([coA].flatMap Co.e) ∧ Below w.heap.size w w' := (one_any w).mono fun e w' h => ⟨_, h⟩
theorem coA_sz : ∀ x ∈ [coA], x.nm.size ≤ 9223372036854775807 := fun x hx => by
  rw [List.mem_singleton] at hx
  subst hx
  decide
section
variable {B g k last : Nat} {w0 w : World} {S : List Nat} {T : List Tb} {I : List (Nat × Ix)} {Q : List (Value × List Nat)}
theorem wd_crOK (h : Wd B w0 w g S k last T I Q) (own xmin xmax bc q : Nat) (v : Value) (R : List Nat) (n : ByteArray) (hv : (v, R) ∈ Q) (hlast : last < 1000000000) (hns : n.size ≤ 9223372036854775807) (hL : w.ownsRow bc 121 2 (.slice (some ⟨q, 0, none⟩) 1 1) 1 ([coA].flatMap Co.e)) (hc : crE S own xmax R n [coA] T I = 0) (io im ix : Int) (e1 : (own : Int) = io) (e2 : (xmin : Int) = im) (e3 : (xmax : Int) = ix) (il : Int) (e4 : ((last + 1 : Nat) : Int) = il) :
    Calls Try.prog 20 #[.pointer (some ⟨k, 0, none⟩), .pointer (some ⟨g, 0, none⟩), .agg #[.int .u64 io, .int .u64 im, .int .u64 ix, v], .string n, .slice (some ⟨q, 0, none⟩) 1 1] w fun e w' => e = .returned (.tuple #[.int .u64 il, .int .i64 0]) ∧ (∃ b cv, Wd B w0 w' g S k (last + 1) (T ++ [⟨b, ⟨last + 1, n, own, 0⟩, [coA], cv⟩]) I Q) ∧ FrT allT B w w' := by
  subst e1 e2 e3 e4
  refine (wd_crtab h own xmin xmax 1 1 bc (some ⟨q, 0, none⟩) v R n [coA] hv hlast hns rfl hL coA_sz).mono ?_
  rintro e w' ⟨⟨h1, _⟩ | ⟨_, rfl, b, cv, _, hw⟩, hf⟩
  · exact absurd hc h1
  · exact ⟨rfl, ⟨b, cv, hw⟩, hf⟩
theorem wd_crNo (h : Wd B w0 w g S k last T I Q) (own xmin xmax bc q : Nat) (x : Int) (v : Value) (R : List Nat) (n : ByteArray) (hv : (v, R) ∈ Q) (hlast : last < 1000000000) (hns : n.size ≤ 9223372036854775807) (hL : w.ownsRow bc 121 2 (.slice (some ⟨q, 0, none⟩) 1 1) 1 ([coA].flatMap Co.e)) (hc : crE S own xmax R n [coA] T I = x) (hx : x ≠ 0) (io im ix : Int) (e1 : (own : Int) = io) (e2 : (xmin : Int) = im) (e3 : (xmax : Int) = ix) :
    Calls Try.prog 20 #[.pointer (some ⟨k, 0, none⟩), .pointer (some ⟨g, 0, none⟩), .agg #[.int .u64 io, .int .u64 im, .int .u64 ix, v], .string n, .slice (some ⟨q, 0, none⟩) 1 1] w fun e w' => e = .returned (.tuple #[.int .u64 0, .int .i64 x]) ∧ Wd B w0 w' g S k last T I Q ∧ FrT allT B w w' := by
  subst e1 e2 e3
  refine (wd_crtab h own xmin xmax 1 1 bc (some ⟨q, 0, none⟩) v R n [coA] hv hlast hns rfl hL coA_sz).mono ?_
  rintro e w' ⟨⟨_, rfl, hw⟩ | ⟨h1, _⟩, hf⟩
  · rw [hc]; exact ⟨rfl, hw, hf⟩
  · exact absurd (hc.symm.trans h1) hx
end
theorem bx_ne {w : World} {b : Nat} {T : TypeId} {l : List Value} (h : Bx w b T l) : b ≠ w.heap.size := fun e => by have := h.lt; omega
theorem Wd.form {B g k last : Nat} {w0 w : World} {S : List Nat} {T : List Tb} {I : List (Nat × Ix)} {Q : List (Value × List Nat)} (h : Wd B w0 w g S k last T I Q) {v : Value} {R : List Nat} {n : Nat} (hv : (v, R) ∈ Q) (hn : R.length = n) : ∃ A c, v = .slice A n c := by
  obtain ⟨F, vT, vI, hl, hm, hb, hq⟩ := h
  obtain ⟨A, c, h, _⟩ := own_form (hq _ hv).1
  exact ⟨A, c, by rw [← hn]; exact h⟩
set_option maxRecDepth 100000 in
set_option maxHeartbeats 2000000 in
theorem awake11_any (w : World) :
    Calls Try.prog 8 #[] w fun e w' => e = .returned (.bool true) ∧ Below w.heap.size w w' := by
  go_enter Try.func8, Try.ntmps8
  go_wp2_with fail
  refine (lg_new w 1 (by decide) (by decide)).mono ?_
  rintro e w1 ⟨rfl, h1, hb1⟩
  have m1 : Mine w.heap.size w w1 (fun k => k = w.heap.size) := ⟨fun k hk => by omega, hb1, hb1.size⟩
  clear hb1
  generalize hg : w.heap.size = g at *
  go_wp2_with fail
  refine (bnew_any w1).mono ?_
  rintro e w2 ⟨rfl, hb2, x2⟩
  have W2 := wd_new (h1.below x2) (m1.next x2) hb2 (by rw [← hg] at m1 ⊢; exact m1.size)
  clear h1 m1 x2 hb2
  generalize hk : w1.heap.size = k at *
  clear hk w1
  go_wp2_with fail
  refine (wd_begin W2).mono ?_
  rintro e w3 ⟨rfl, W3, _⟩
  rw [show begR 1 [] = .tuple #[.int .u64 1, .int .i64 0] from rfl]
  rw [show begL 1 [] = [1] from rfl] at W3
  clear W2
  go_wp2_with fail
  refine (wd_begin W3).mono ?_
  rintro e w4 ⟨rfl, W4, _⟩
  rw [show begR 1 [1] = .tuple #[.int .u64 2, .int .i64 0] from rfl]
  rw [show begL 1 [1] = [1, 1] from rfl] at W4
  clear W3
  have HT := wd_take W4 1
  rw [show runs 1 [1, 1] = [1, 2] from rfl, show others [1, 2] 1 = [2] by decide, show least [2] (1 + [1, 1].length) = 2 from rfl, show 1 + [1, 1].length = 3 from rfl] at HT
  go_wp2_with fail
  refine (HT).mono ?_
  rintro e w5 ⟨v5, rfl, W5, _⟩
  have HT := wd_take W5 2
  rw [show runs 1 [1, 1] = [1, 2] from rfl, show others [1, 2] 2 = [1] by decide, show least [1] (1 + [1, 1].length) = 1 from rfl, show 1 + [1, 1].length = 3 from rfl] at HT
  clear W4
  go_wp2_with fail
  refine (HT).mono ?_
  rintro e w6 ⟨v6, rfl, W6, _⟩
  clear HT W5
  obtain ⟨A5, c5, rfl⟩ := W6.form (v := v5) (n := 1) (List.mem_cons_of_mem _ List.mem_cons_self) rfl
  obtain ⟨A6, c6, rfl⟩ := W6.form (v := v6) (n := 1) List.mem_cons_self rfl
  have y1 : Below w6.heap.size w6 (w6.alloc (.cells #[.int .u64 1, .int .u64 2, .int .u64 3, .slice A5 1 c5] 50)) := (Below.refl _ _).al _
  have b5 := Bx.new w6 50 #[.int .u64 1, .int .u64 2, .int .u64 3, .slice A5 1 c5] [.int .u64 1, .int .u64 2, .int .u64 3, .slice A5 1 c5] rfl
  have W7 := W6.next y1
  have b5 := b5.alloc (.cells #[.int .u64 2, .int .u64 1, .int .u64 3, .slice A6 1 c6] 50)
  have b6 := Bx.new (w6.alloc (.cells #[.int .u64 1, .int .u64 2, .int .u64 3, .slice A5 1 c5] 50)) 50 #[.int .u64 2, .int .u64 1, .int .u64 3, .slice A6 1 c6] [.int .u64 2, .int .u64 1, .int .u64 3, .slice A6 1 c6] rfl
  have W8 := W7.next ((Below.refl _ _).al (.cells #[.int .u64 2, .int .u64 1, .int .u64 3, .slice A6 1 c6] 50))
  have hsz : (w6.alloc (.cells #[.int .u64 1, .int .u64 2, .int .u64 3, .slice A5 1 c5] 50)).heap.size = w6.heap.size + 1 := alloc_size _ _
  rw [hsz] at b6
  clear W6 W7 y1 hsz
  go_upto_region 8 with fail
  generalize (w6.alloc (.cells #[.int .u64 1, .int .u64 2, .int .u64 3, .slice A5 1 c5] 50)).alloc (.cells #[.int .u64 2, .int .u64 1, .int .u64 3, .slice A6 1 c6] 50) = V at *
  generalize w6.heap.size = sb at *
  have W8d : Wd g w V.drew g [1, 1] k 0 [] [] [(.slice A6 1 c6, [1]), (.slice A5 1 c5, [2])] := W8.next (below_n V 1)
  have b5d : Bx V.drew sb 50 [.int .u64 1, .int .u64 2, .int .u64 3, .slice A5 1 c5] := b5.below (below_n V 1)
  have b6d : Bx V.drew (sb + 1) 50 [.int .u64 2, .int .u64 1, .int .u64 3, .slice A6 1 c6] := b6.below (below_n V 1)
  have hSd : V.drew.cell? ⟨sb, 0, none⟩ = some (.int .u64 1) ∧ V.drew.cell? ⟨sb, 1, none⟩ = some (.int .u64 2) ∧ V.drew.cell? ⟨sb, 2, none⟩ = some (.int .u64 3) ∧ V.drew.cell? ⟨sb, 3, none⟩ = some (.slice A5 1 c5) := ⟨b5d.cell 0, b5d.cell 1, b5d.cell 2, b5d.cell 3⟩
  have HONE := Lib.hid (one_ex V.drew)
  have hcr1 := crE_all [1, 1] 1 3 [2] ⟨#[116]⟩ name_t [] (fun t h => absurd h List.not_mem_nil)
  have HC1 := Lib.hid (fun W q (hW : Wd g w W g [1, 1] k 0 [] [] [(.slice A6 1 c6, [1]), (.slice A5 1 c5, [2])]) hL => wd_crOK hW 1 2 3 V.drew.heap.size q (.slice A5 1 c5) [2] ⟨#[116]⟩ (by simp) (by decide) (by decide) hL hcr1 1 2 3 rfl rfl rfl 1 rfl)
  clear hcr1 W8 b5 b6
  go_region_held3 (fun w' => w'.cell? ⟨sb, 0, none⟩ = some (.int .u64 1) ∧ w'.cell? ⟨sb, 1, none⟩ = some (.int .u64 2) ∧ w'.cell? ⟨sb, 2, none⟩ = some (.int .u64 3) ∧ w'.cell? ⟨sb, 3, none⟩ = some (.slice A5 1 c5)) (first | (with_reducible assumption) | simp [*, go_sem])
    (first
    | (go_at_call 35; (with_reducible refine (HONE.out).mono ?_); rintro e w9 ⟨q9, rfl, o9, x9⟩; have W9 := W8d.next x9; have b59 := b5d.below x9; have b69 := b6d.below x9; have hS9 : w9.cell? ⟨sb, 0, none⟩ = some (.int .u64 1) ∧ w9.cell? ⟨sb, 1, none⟩ = some (.int .u64 2) ∧ w9.cell? ⟨sb, 2, none⟩ = some (.int .u64 3) ∧ w9.cell? ⟨sb, 3, none⟩ = some (.slice A5 1 c5) := ⟨b59.cell 0, b59.cell 1, b59.cell 2, b59.cell 3⟩)
    | (go_at_call 20; (with_reducible refine (HC1.out w9 q9 W9 o9).mono ?_); rintro e w10 ⟨rfl, ⟨t10, cv10, W10⟩, f10⟩; have b510 := f10.bx b59 (by decide); have b610 := f10.bx b69 (by decide); have hS10 : w10.cell? ⟨sb, 0, none⟩ = some (.int .u64 1) ∧ w10.cell? ⟨sb, 1, none⟩ = some (.int .u64 2) ∧ w10.cell? ⟨sb, 2, none⟩ = some (.int .u64 3) ∧ w10.cell? ⟨sb, 3, none⟩ = some (.slice A5 1 c5) := ⟨b510.cell 0, b510.cell 1, b510.cell 2, b510.cell 3⟩))
  clear HONE HC1 hSd hS9 hS10 W8d b5d b6d b59 b69 o9 b510 f10 x9 W9
  have hcr2 : crE [1, 1] 2 3 [1] ⟨#[116]⟩ [coA] [⟨t10, ⟨1, ⟨#[116]⟩, 1, 0⟩, [coA], cv10⟩] [] = 11 := by
    rw [crE_all _ _ _ _ _ name_t _ (fun t h => by rw [List.mem_singleton] at h; subst h; rfl)]; rfl
  have W10d : Wd g w w10.drew g [1, 1] k 1 [⟨t10, ⟨1, ⟨#[116]⟩, 1, 0⟩, [coA], cv10⟩] [] [(.slice A6 1 c6, [1]), (.slice A5 1 c5, [2])] := W10.next (below_n w10 1)
  have b6d : Bx w10.drew (sb + 1) 50 [.int .u64 2, .int .u64 1, .int .u64 3, .slice A6 1 c6] := b610.below (below_n w10 1)
  have hSd : w10.drew.cell? ⟨sb + 1, 0, none⟩ = some (.int .u64 2) ∧ w10.drew.cell? ⟨sb + 1, 1, none⟩ = some (.int .u64 1) ∧ w10.drew.cell? ⟨sb + 1, 2, none⟩ = some (.int .u64 3) ∧ w10.drew.cell? ⟨sb + 1, 3, none⟩ = some (.slice A6 1 c6) := ⟨b6d.cell 0, b6d.cell 1, b6d.cell 2, b6d.cell 3⟩
  have HONE := Lib.hid (one_ex w10.drew)
  have HC1 := Lib.hid (fun W q (hW : Wd g w W g [1, 1] k 1 [⟨t10, ⟨1, ⟨#[116]⟩, 1, 0⟩, [coA], cv10⟩] [] [(.slice A6 1 c6, [1]), (.slice A5 1 c5, [2])]) hL => wd_crNo hW 2 1 3 w10.drew.heap.size q 11 (.slice A6 1 c6) [1] ⟨#[116]⟩ (by simp) (by decide) (by decide) hL hcr2 (by decide) 2 1 3 rfl rfl rfl)
  clear W10 b610 hcr2
  go_upto_region 9 with fail
  go_region_held3 (fun w' => w'.cell? ⟨sb + 1, 0, none⟩ = some (.int .u64 2) ∧ w'.cell? ⟨sb + 1, 1, none⟩ = some (.int .u64 1) ∧ w'.cell? ⟨sb + 1, 2, none⟩ = some (.int .u64 3) ∧ w'.cell? ⟨sb + 1, 3, none⟩ = some (.slice A6 1 c6)) (first | (with_reducible assumption) | simp [*, go_sem])
    (first
    | (go_at_call 35; (with_reducible refine (HONE.out).mono ?_); rintro e w9 ⟨q9, rfl, o9, x9⟩; have W9 := W10d.next x9; have b69 := b6d.below x9; have hS9 : w9.cell? ⟨sb + 1, 0, none⟩ = some (.int .u64 2) ∧ w9.cell? ⟨sb + 1, 1, none⟩ = some (.int .u64 1) ∧ w9.cell? ⟨sb + 1, 2, none⟩ = some (.int .u64 3) ∧ w9.cell? ⟨sb + 1, 3, none⟩ = some (.slice A6 1 c6) := ⟨b69.cell 0, b69.cell 1, b69.cell 2, b69.cell 3⟩)
    | (go_at_call 20; (with_reducible refine (HC1.out w9 q9 W9 o9).mono ?_); rintro e w11 ⟨rfl, W11, f11⟩; have b611 := f11.bx b69 (by decide); have hS11 : w11.cell? ⟨sb + 1, 0, none⟩ = some (.int .u64 2) ∧ w11.cell? ⟨sb + 1, 1, none⟩ = some (.int .u64 1) ∧ w11.cell? ⟨sb + 1, 2, none⟩ = some (.int .u64 3) ∧ w11.cell? ⟨sb + 1, 3, none⟩ = some (.slice A6 1 c6) := ⟨b611.cell 0, b611.cell 1, b611.cell 2, b611.cell 3⟩))
  clear HONE HC1 hSd hS9 hS11 W10d b6d b69 o9 f11 b611 x9 W9
  have HM := wd_commit W11 1 (by decide)
  rw [show endE 1 [1, 1] 1 = 0 from rfl, show endL 1 [1, 1] 1 2 = [2, 1] from rfl] at HM
  go_wp2_with fail
  refine (HM).mono ?_
  rintro e w12 ⟨rfl, W12, _⟩
  clear HM W11
  have HM := wd_begin W12
  rw [show begR 1 [2, 1] = .tuple #[.int .u64 3, .int .i64 0] from rfl, show begL 1 [2, 1] = [2, 1, 1] from rfl] at HM
  go_wp2_with fail
  refine (HM).mono ?_
  rintro e w13 ⟨rfl, W13, _⟩
  clear HM W12
  have HT := wd_take W13 3
  rw [show runs 1 [2, 1, 1] = [2, 3] from rfl, show others [2, 3] 3 = [2] by decide, show least [2] (1 + [2, 1, 1].length) = 2 from rfl, show 1 + [2, 1, 1].length = 4 from rfl] at HT
  have hcr3 : crE [2, 1, 1] 3 4 [2] ⟨#[116]⟩ [coA] [⟨t10, ⟨1, ⟨#[116]⟩, 1, 0⟩, [coA], cv10⟩] [] = 7 := by
    rw [crE_all _ _ _ _ _ name_t _ (fun t h => by rw [List.mem_singleton] at h; subst h; rfl)]; rfl
  go_wp2_with fail
  refine (HT).mono ?_
  rintro e w14 ⟨v14, rfl, W14, _⟩
  obtain ⟨A7, c7, rfl⟩ := W14.form (v := v14) (n := 1) List.mem_cons_self rfl
  clear HT W13
  go_wp2_with fail
  refine (one_ex w14).mono ?_
  rintro e w15 ⟨q15, rfl, o15, x15⟩
  have W15 := W14.next x15
  go_wp2_with fail
  refine (wd_crNo W15 3 2 4 w14.heap.size q15 7 (.slice A7 1 c7) [2] ⟨#[116]⟩ List.mem_cons_self (by decide) (by decide) o15 hcr3 (by decide) 3 2 4 rfl rfl rfl).mono ?_
  rintro e w16 ⟨rfl, W16, _⟩
  clear W14 W15 o15 x15 hcr3
  go_wp2_with fail
  go_ret
  exact ⟨rfl, by rw [hg]; exact W16.below'⟩
end Go.Proofs.Ytbmkhopmhmmibaa
