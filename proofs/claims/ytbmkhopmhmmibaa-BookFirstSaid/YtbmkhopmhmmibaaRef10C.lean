/-
  lapidaryref10: Sees, Visible, Dead say what the code's do.
-/
import Derived.Test.YtbmkhopmhmmibaaRef10B
import Derived.Test.YtbmkhopmhmmibaaSnapD
namespace Go.Proofs.Ytbmkhopmhmmibaa
open Go.RowKit
set_option linter.unusedVariables false

set_option maxRecDepth 100000 in
set_option maxHeartbeats 1000000 in
theorem rsees_any (w : World) (g f own xmax x b : Nat) (S R : List Nat) (F : Nat → Prop) (v : Value) (h : RG w g f S F) (hR : w.ownsRow b 28 1 v R.length (ucells .u64 R)) (hn : R.length ≤ 9223372036854775807) (hx64 : x < 18446744073709551616) :
    Calls Try.prog 95 #[.pointer (some ⟨g, 0, none⟩), .agg #[.int .u64 (own : Int), .int .u64 (xmax : Int), v], .int .u64 (x : Int)] w fun e w' => e = .returned (.bool (seesB f S own xmax R x)) ∧ Below w.heap.size w w' := by
  obtain ⟨A, c, hv, _, _, _⟩ := own_form hR
  subst hv
  have hA : Below w.heap.size w (w.alloc (.cells #[.int .u64 (own : Int), .int .u64 (xmax : Int), .slice A R.length c] 53)) := (Below.refl _ _).al _
  have b0 := Bx.new w 53 #[.int .u64 (own : Int), .int .u64 (xmax : Int), .slice A R.length c] [.int .u64 (own : Int), .int .u64 (xmax : Int), .slice A R.length c] rfl
  have HR := Lib.hid (own_below hR hA)
  have k0 := b0.cell 0
  have k1 := b0.cell 1
  have k2 := b0.cell 2
  have hst := rg_state _ g f x S F (h.below hA) hx64
  have HST := Lib.hid hst
  have HA := Lib.hid hA
  clear hst h hR hA
  by_cases hxo : x = own
  · have hs : seesB f S own xmax R x = true := by unfold seesB; simp [hxo]
    rw [hs]
    have he : ((x : Int) == (own : Int)) = true := by rw [hxo]; simp
    clear hxo hs
    go_enter Try.func95, Try.ntmps95
    go_wp2
    go_ret
    exact ⟨rfl, HA.out⟩
  · have he : ((x : Int) == (own : Int)) = false := beq_eq_false_iff_ne.2 (by omega)
    have hs : seesB f S own xmax R x = (decide (x < xmax) && !decide (x ∈ R) && decide (stt f S x = 2)) := by unfold seesB; rw [decide_eq_false hxo, Bool.false_or]
    rw [hs]
    obtain ⟨m, hm⟩ : ∃ m, m = decide (x ∈ R) := ⟨_, rfl⟩
    obtain ⟨z, hz⟩ : ∃ z, z = decide (x < xmax) := ⟨_, rfl⟩
    have e2 : ((stt f S x : Int) == 2) = decide (stt f S x = 2) := beq_int (b := 2)
    rw [← hm, ← hz]
    generalize decide (stt f S x = 2) = q at *
    generalize stt f S x = sx at *
    have HMM := Lib.hid hm
    have HZ := Lib.hid hz
    clear hs hxo hm hz
    go_enter Try.func95, Try.ntmps95
    go_wp2
    go_loopw [16] (fun kv wr => ∃ (k : Nat), k ≤ R.length ∧ kv = .int .i64 (k : Int) ∧ x ∉ R.take k ∧ wr = w.alloc (.cells #[.int .u64 (own : Int), .int .u64 (xmax : Int), .slice A R.length c] 53)) (fun kv _ => R.length - (intOf kv).toNat)
    case atStart => exact ⟨0, Nat.zero_le _, rfl, by simp, rfl⟩
    case round =>
      obtain ⟨k, hk, rfl, hnm, hw⟩ := hrel
      have HNM := Lib.hid hnm
      clear hnm
      by_cases hlt : k < R.length
      · have aK : wr.ownsRow b 28 1 (.slice A R.length c) R.length (ucells .u64 R) := by rw [hw]; exact HR.out
        obtain ⟨gq, cq, hvq, _, _, _⟩ := own_shape aK (by omega)
        injection hvq with hA3 hL3 hk3
        clear hL3
        subst hA3 hk3
        have hcell := (aK.cellAt k (by omega)).trans (ucells_get .u64 R k hlt)
        have ix := idx_u64 gq R.length c k hlt
        have htk := (List.take_append_getElem hlt).symm
        have hmem : R[k] ∈ R := List.getElem_mem hlt
        have HTK := Lib.hid htk
        clear htk
        generalize R[k] = y at *
        have HW := Lib.hid hw
        clear aK hw
        by_cases hy : y = x
        · have hyx : ((y : Int) == (x : Int)) = true := by rw [hy]; simp
          have hin : m = true := HMM.out.trans (decide_eq_true (hy ▸ hmem))
          clear hy hmem
          go_wp2
          go_ret
          exact ⟨by first | rfl | (rw [hin]; simp), by rw [HW.out]; exact HA.out⟩
        · have hyx : ((y : Int) == (x : Int)) = false := beq_eq_false_iff_ne.2 (by omega)
          have hnn : x ∉ R.take (k + 1) := by
            rw [HTK.out]
            intro hm
            rcases List.mem_append.1 hm with h | h
            · exact HNM.out h
            · rw [List.mem_singleton] at h; exact hy h.symm
          have HNN := Lib.hid hnn
          clear hnn hy hmem
          go_wp2
          go_roundw
          case rel => exact ⟨k + 1, by omega, by go_num, HNN.out, HW.out⟩
          case measure => simp [intOf]; omega
      · obtain rfl : k = R.length := by omega
        have hin : m = false := HMM.out.trans (decide_eq_false (by have := HNM.out; rwa [List.take_length] at this))
        subst hw
        by_cases hxm : x < xmax
        · have hxi : (x : Int) < (xmax : Int) := by omega
          have hzt : z = true := HZ.out.trans (decide_eq_true hxm)
          clear hxm
          go_wp2_with (go_at_call 47; (with_reducible refine (HST.out).mono ?_); rintro e w2 ⟨rfl, n2, hw2⟩; have hA2 := HA.out.next (below_n _ n2); rw [← hw2] at hA2; clear hw2)
          go_ret
          exact ⟨by first | rfl | (simp; done) | (rw [hin, hzt]; simp), hA2⟩
        · have hxi : ¬ (x : Int) < (xmax : Int) := by omega
          have hzt : z = false := HZ.out.trans (decide_eq_false hxm)
          clear hxm
          go_wp2
          go_ret
          exact ⟨by first | rfl | (rw [hzt]; simp), HA.out⟩
set_option maxRecDepth 100000 in
set_option maxHeartbeats 1000000 in
theorem rvis_any (w : World) (g f own xmax a b bb : Nat) (S R : List Nat) (F : Nat → Prop) (v : Value) (h : RG w g f S F) (hR : w.ownsRow bb 28 1 v R.length (ucells .u64 R)) (hn : R.length ≤ 9223372036854775807) (ha64 : a < 18446744073709551616) (hb64 : b < 18446744073709551616) :
    Calls Try.prog 86 #[.pointer (some ⟨g, 0, none⟩), .agg #[.int .u64 (own : Int), .int .u64 (xmax : Int), v], .agg #[.int .u64 0, .int .u64 (a : Int), .int .u64 (b : Int), .int .i64 0, .int .i64 0, .slice none 0 0]] w fun e w' => e = .returned (.bool (visB f S own xmax R a b)) ∧ Below w.heap.size w w' := by
  obtain ⟨A, c, hv, _, _, _⟩ := own_form hR
  subst hv
  have HS := Lib.hid (fun W x (hx : x < 18446744073709551616) (hW : RG W g f S F) (hWR : W.ownsRow bb 28 1 (.slice A R.length c) R.length (ucells .u64 R)) => rsees_any W g f own xmax x bb S R F (.slice A R.length c) hW hWR hn hx)
  have hA : Below w.heap.size w ((w.alloc (.cells #[.int .u64 (own : Int), .int .u64 (xmax : Int), .slice A R.length c] 53)).alloc (.cells #[.int .u64 0, .int .u64 (a : Int), .int .u64 (b : Int), .int .i64 0, .int .i64 0, .slice none 0 0] 169)) := ((Below.refl _ _).al _).al _
  have b0 := (Bx.new w 53 #[.int .u64 (own : Int), .int .u64 (xmax : Int), .slice A R.length c] [.int .u64 (own : Int), .int .u64 (xmax : Int), .slice A R.length c] rfl).alloc (.cells #[.int .u64 0, .int .u64 (a : Int), .int .u64 (b : Int), .int .i64 0, .int .i64 0, .slice none 0 0] 169)
  have t0 := Bx.new (w.alloc (.cells #[.int .u64 (own : Int), .int .u64 (xmax : Int), .slice A R.length c] 53)) 169 #[.int .u64 0, .int .u64 (a : Int), .int .u64 (b : Int), .int .i64 0, .int .i64 0, .slice none 0 0] [.int .u64 0, .int .u64 (a : Int), .int .u64 (b : Int), .int .i64 0, .int .i64 0, .slice none 0 0] rfl
  have hsz : (w.alloc (.cells #[.int .u64 (own : Int), .int .u64 (xmax : Int), .slice A R.length c] 53)).heap.size = w.heap.size + 1 := by simp
  rw [hsz] at t0
  have h1 := h.below hA
  have R1 := own_below hR hA
  have hb0 : ((b : Int) == 0) = decide (b = 0) := beq_int (b := 0)
  have HH := Lib.hid h1
  have HR := Lib.hid R1
  have hvis : visB f S own xmax R a b = (seesB f S own xmax R a && (decide (b = 0) || !seesB f S own xmax R b)) := rfl
  rw [hvis]
  clear h hR R1 h1 hvis hsz
  generalize hW0 : (w.alloc (.cells #[.int .u64 (own : Int), .int .u64 (xmax : Int), .slice A R.length c] 53)).alloc (.cells #[.int .u64 0, .int .u64 (a : Int), .int .u64 (b : Int), .int .i64 0, .int .i64 0, .slice none 0 0] 169) = W0 at *
  generalize hsa : seesB f S own xmax R a = sa at *
  generalize hsb : seesB f S own xmax R b = sb at *
  have HA : ∀ W, RG W g f S F → W.ownsRow bb 28 1 (.slice A R.length c) R.length (ucells .u64 R) → Calls Try.prog 95 #[.pointer (some ⟨g, 0, none⟩), .agg #[.int .u64 (own : Int), .int .u64 (xmax : Int), .slice A R.length c], .int .u64 (a : Int)] W fun e w' => e = .returned (.bool sa) ∧ Below W.heap.size W w' := fun W x1 x2 => by rw [← hsa]; exact HS.out W a ha64 x1 x2
  have HB : ∀ W, RG W g f S F → W.ownsRow bb 28 1 (.slice A R.length c) R.length (ucells .u64 R) → Calls Try.prog 95 #[.pointer (some ⟨g, 0, none⟩), .agg #[.int .u64 (own : Int), .int .u64 (xmax : Int), .slice A R.length c], .int .u64 (b : Int)] W fun e w' => e = .returned (.bool sb) ∧ Below W.heap.size W w' := fun W x1 x2 => by rw [← hsb]; exact HS.out W b hb64 x1 x2
  replace HA := Lib.hid HA
  replace HB := Lib.hid HB
  have k0 := b0.cell 0
  have k1 := b0.cell 1
  have k2 := b0.cell 2
  have t1 := t0.cell 1
  have t2 := t0.cell 2
  clear hsa hsb HS
  generalize decide (b = 0) = z at *
  go_enter Try.func86, Try.ntmps86
  go_wp2_with fail
  subst hW0
  refine (HA.out _ HH.out HR.out).mono ?_
  rintro e w1 ⟨rfl, hb1⟩
  have hA1 := hA.next hb1
  have h1 := Lib.hid (HH.out.below hb1)
  have R1 := Lib.hid (own_below HR.out hb1)
  have b1 := b0.below hb1
  have u1 := t0.below hb1
  have m0 := b1.cell 0
  have m1 := b1.cell 1
  have m2 := b1.cell 2
  have n2 := u1.cell 2
  clear k0 k1 k2 t1 t2 b0 t0 hb1 b1 u1
  cases sa with
  | false =>
    go_wp2
    go_ret
    exact ⟨rfl, hA1⟩
  | true =>
    cases z with
    | true =>
      go_wp2
      go_ret
      exact ⟨rfl, hA1⟩
    | false =>
      go_wp2_with (go_at_call 95; (with_reducible refine (HB.out _ h1.out R1.out).mono ?_); rintro e w2 ⟨rfl, hb2⟩; have hA2 := hA1.next hb2)
      go_ret
      exact ⟨by simp, hA2⟩
set_option maxRecDepth 100000 in
set_option maxHeartbeats 1000000 in
theorem rdead_any (w : World) (g f a b h : Nat) (S : List Nat) (F : Nat → Prop) (hf : 1 ≤ f) (hl : RG w g f S F) (ha64 : a < 18446744073709551616) (hb64 : b < 18446744073709551616) :
    Calls Try.prog 87 #[.pointer (some ⟨g, 0, none⟩), .agg #[.int .u64 0, .int .u64 (a : Int), .int .u64 (b : Int), .int .i64 0, .int .i64 0, .slice none 0 0], .int .u64 (h : Int)] w fun e w' => e = .returned (.bool (deadB f S a b h)) ∧ Below w.heap.size w w' := by
  have hA : Below w.heap.size w (w.alloc (.cells #[.int .u64 0, .int .u64 (a : Int), .int .u64 (b : Int), .int .i64 0, .int .i64 0, .slice none 0 0] 169)) := (Below.refl _ _).al _
  have t0 := Bx.new w 169 #[.int .u64 0, .int .u64 (a : Int), .int .u64 (b : Int), .int .i64 0, .int .i64 0, .slice none 0 0] [.int .u64 0, .int .u64 (a : Int), .int .u64 (b : Int), .int .i64 0, .int .i64 0, .slice none 0 0] rfl
  have h1 := hl.below hA
  have HSa := Lib.hid (rg_state _ g f a S F h1 ha64)
  have HH := Lib.hid h1
  have HSb := Lib.hid (fun W (hW : RG W g f S F) => rg_state W g f b S F hW hb64)
  have k1 := t0.cell 1
  have k2 := t0.cell 2
  unfold deadB
  have e3 : ((stt f S a : Int) == 3) = decide (stt f S a = 3) := beq_int (b := 3)
  have e2 : ((stt f S b : Int) == 2) = decide (stt f S b = 2) := beq_int (b := 2)
  have el : decide ((b : Int) < (h : Int)) = decide (b < h) := decide_eq_decide.2 (by omega)
  have hq0 : b = 0 → decide (stt f S b = 2) = false := fun e => by rw [e]; unfold stt; rw [if_neg (by omega)]; rfl
  have HQ0 := Lib.hid hq0
  clear hq0
  generalize decide (stt f S a = 3) = p at *
  generalize decide (stt f S b = 2) = q at *
  generalize decide (b < h) = z at *
  generalize stt f S a = sa at *
  generalize stt f S b = sb at *
  clear h1 hl
  go_enter Try.func87, Try.ntmps87
  go_wp2_with fail
  refine (HSa.out).mono ?_
  rintro e w1 ⟨rfl, n1, hw1⟩
  have t1 := t0.below (below_n _ n1)
  have hA1 := hA.next (below_n _ n1)
  have h1 := HH.out.below (below_n _ n1)
  rw [← hw1] at t1 hA1 h1
  have m1 := t1.cell 1
  have m2 := t1.cell 2
  clear t1 t0 k1 k2 hw1
  cases p with
  | true =>
    go_wp2
    go_ret
    exact ⟨rfl, hA1⟩
  | false =>
    by_cases hb0 : b = 0
    · have hbd : ¬ (0 : Int) < (b : Int) := by omega
      have hbd2 : ¬ 0 < b := by omega
      have hq : q = false := HQ0.out hb0
      clear hb0
      go_wp2
      go_ret
      exact ⟨by rw [hq]; simp, hA1⟩
    · have hbd : (0 : Int) < (b : Int) := by omega
      have hbd2 : 0 < b := by omega
      clear hb0
      cases z with
      | false =>
        have hnl := of_decide_eq_false el
        go_wp2
        go_ret
        exact ⟨rfl, hA1⟩
      | true =>
        have hnl := of_decide_eq_true el
        go_wp2_with (go_at_call 47; (with_reducible refine (HSb.out _ h1).mono ?_); rintro e w2 ⟨rfl, n2, hw2⟩; have hA2 := hA1.next (below_n _ n2); rw [← hw2] at hA2; clear hw2)
        go_ret
        exact ⟨by simp, hA2⟩
end Go.Proofs.Ytbmkhopmhmmibaa
