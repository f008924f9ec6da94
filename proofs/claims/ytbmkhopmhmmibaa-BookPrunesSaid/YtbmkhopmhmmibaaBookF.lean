/-
  book.proper: may a table have these columns?
-/
import Derived.Test.YtbmkhopmhmmibaaBookD
namespace Go.Proofs.Ytbmkhopmhmmibaa
open Go.RowKit
set_option linter.unusedVariables false

theorem rd_pre {w : World} {size n m : Nat} {A : Option Addr} {xs ys : List Value} (h : Rd w size A n (xs ++ ys)) (hx : xs.length = m * size) : Rd w size A m xs :=
  ⟨hx, fun j u hu => h.2 j u (by rw [List.getElem?_append_left (List.getElem?_eq_some_iff.1 hu).1]; exact hu)⟩
theorem rd_take_co {w : World} {n i : Nat} {A : Option Addr} {L : List Co} (h : Rd w 2 A n (L.flatMap Co.e)) (hi : i ≤ L.length) : Rd w 2 A i ((L.take i).flatMap Co.e) := by
  refine rd_pre (n := n) (ys := (L.drop i).flatMap Co.e) ?_ ?_
  · rw [← List.flatMap_append, List.take_append_drop]; exact h
  · rw [co_len, List.length_take, Nat.min_eq_left hi]
theorem cut_co (ad : Addr) (n c i : Nat) (h : i < n) (hc : n ≤ c) (W : World) : (Instr.slice 40 (.slice (some ad) n c) none (some (.int .i64 (i : Int))) none).run Try.prog W = .ok (.slice (some ad) i c) W := by
  rw [run_slice_h (ht := by kernel_rfl) (h0 := by omega) (h2 := by omega)]
  rw [show Try.prog.elem 40 = 121 by kernel_rfl, show (sizeOf 121).run Try.prog W = .ok 2 W by kernel_rfl]
  simp only [Result.andThen, sliced]
  rw [if_neg (by omega)]
  simp [Addr.add]
/-- May a column stand at i? -/
noncomputable def colOk (L : List Co) (i : Nat) (x : Co) : Bool := !((L.take i).any (nmEq x.nm)) && (nameB x.nm && (decide (1 ≤ x.kind) && decide (x.kind ≤ 3)))
def ProperP (L : List Co) : Prop := 1 ≤ L.length ∧ L.length ≤ 8 ∧ ∀ i (h : i < L.length), colOk L i L[i] = true
noncomputable def properB (L : List Co) : Bool := @decide (ProperP L) (Classical.propDecidable _)
theorem properB_true {s : List Co} (h : ProperP s) : properB s = true := by unfold properB; exact @decide_eq_true _ (Classical.propDecidable _) h
theorem properB_false {s : List Co} (h : ¬ ProperP s) : properB s = false := by unfold properB; exact @decide_eq_false _ (Classical.propDecidable _) h
theorem prop_more {L : List Co} {i : Nat} (hall : ∀ k (h : k < L.length), k < i → colOk L k L[k] = true) (hi : i < L.length) {x : Co} (hx : L[i] = x) (h : colOk L i x = true) : ∀ k (h : k < L.length), k < i + 1 → colOk L k L[k] = true := fun k hk hki => by
  by_cases e : k = i
  · subst e; rw [hx]; exact h
  · exact hall k hk (by omega)
theorem prop_not {L : List Co} {i : Nat} (hi : i < L.length) {x : Co} (hx : L[i] = x) (h : colOk L i x = false) : properB L = false :=
  properB_false fun hp => by have := hp.2.2 i hi; rw [hx, h] at this; cases this
set_option maxRecDepth 100000 in
set_option maxHeartbeats 2000000 in
theorem proper_any (w : World) (N c : Nat) (A : Option Addr) (L : List Co) (hN : N = L.length) (hc : N ≤ c) (hcm : c ≤ 9223372036854775807) (hr : Rd w 2 A N (L.flatMap Co.e)) (hz : ∀ x ∈ L, x.nm.size ≤ 9223372036854775807) :
    Calls Try.prog 48 #[.slice A N c] w fun e w' => e = .returned (.bool (properB L)) ∧ Below w.heap.size w w' := by
  have HN := Lib.hid hN
  by_cases h1 : N < 1
  · have g1 : ((N : Int) < 1) := by omega
    have g8 : ¬ ((8 : Int) < (N : Int)) := by omega
    have HF := Lib.hid (properB_false (s := L) fun hp => by have := hp.1; omega)
    clear hr hN h1
    go_enter Try.func48, Try.ntmps48
    go_wp2
    go_ret
    exact ⟨by rw [HF.out]; rfl, Below.refl _ _⟩
  by_cases h8 : 8 < N
  · have g1 : ¬ ((N : Int) < 1) := by omega
    have g8 : ((8 : Int) < (N : Int)) := by omega
    have HF := Lib.hid (properB_false (s := L) fun hp => by have := hp.2.1; omega)
    clear hr hN h1 h8
    go_enter Try.func48, Try.ntmps48
    go_wp2
    go_ret
    exact ⟨by rw [HF.out]; rfl, Below.refl _ _⟩
  have g1 : ¬ ((N : Int) < 1) := by omega
  have g8 : ¬ ((8 : Int) < (N : Int)) := by omega
  have HR := Lib.hid hr
  have HZ := Lib.hid hz
  have HC := Lib.hid hc
  clear hr hN hz hc
  go_enter Try.func48, Try.ntmps48
  go_wp2
  clear g1 g8
  go_loopw [16] (fun iv wr => ∃ (i : Nat), i ≤ N ∧ iv = .int .i64 (i : Int) ∧ (∀ k (h : k < L.length), k < i → colOk L k L[k] = true) ∧ Below w.heap.size w wr) (fun iv _ => N - (intOf iv).toNat)
  case atStart => exact ⟨0, Nat.zero_le _, rfl, fun k h hk => by omega, Below.refl _ _⟩
  case round =>
    obtain ⟨i, hi, rfl, hno, hb⟩ := hrel
    have HNO := Lib.hid hno
    clear hno
    by_cases hlt : i < N
    · have hiT : i < L.length := by rw [← HN.out]; exact hlt
      obtain ⟨ad, rfl, q0, q1⟩ := co_at (by have := HR.out.below hb; rw [HN.out] at this; exact this) hiT
      have ix := idx_co ad N c i hlt
      have hct := cut_co ad N c i hlt HC.out
      have hsz := HZ.out _ (List.getElem_mem hiT)
      obtain ⟨tt, htt⟩ : ∃ tt, L[i] = tt := ⟨_, rfl⟩
      rw [htt] at q0 q1 hsz
      obtain ⟨m, kk⟩ := tt
      replace q0 : wr.cell? (ad.add (i * 2)) = some (.string m) := q0
      replace q1 : wr.cell? ⟨(ad.add (i * 2)).block, (ad.add (i * 2)).off + 1, none⟩ = some (.int .u8 (kk : Int)) := q1
      replace hsz : m.size ≤ 9223372036854775807 := hsz
      have HTT := Lib.hid htt
      have hx := (Below.refl wr.heap.size wr).al (.cells #[.string m, .int .u8 (kk : Int)] 121)
      have b0 := Bx.new wr 121 #[.string m, .int .u8 (kk : Int)] [.string m, .int .u8 (kk : Int)] rfl
      have hb' := hb.next hx
      have HCF := Lib.hid (contains_p (wr.alloc (.cells #[.string m, .int .u8 (kk : Int)] 121)) wr.heap.size i c m (some ad) (L.take i) (by rw [List.length_take]; omega) (by omega) (rd_take_co (HR.out.below hb') (by omega)) (b0.cell 0))
      have HNM := Lib.hid (fun W => bname_any W m hsz)
      have HOK := Lib.hid (show colOk L i ⟨m, kk⟩ = (!((L.take i).any (nmEq m)) && (nameB m && (decide (1 ≤ kk) && decide (kk ≤ 3)))) from rfl)
      clear htt
      cases hany : (L.take i).any (nmEq m) with
      | true =>
        rw [hany] at HCF HOK
        have HFF := Lib.hid (prop_not hiT HTT.out HOK.out)
        clear hany
        go_wp2_with (go_at_call 79; (with_reducible refine (HCF.out).mono ?_); rintro e w1 ⟨rfl, hb1⟩; have hb2 := hb'.next hb1)
        go_ret
        exact ⟨by rw [HFF.out]; rfl, hb2⟩
      | false =>
        rw [hany] at HCF HOK
        clear hany
        go_wp2_with fail
        refine (HCF.out).mono ?_
        rintro e w1 ⟨rfl, hb1⟩
        have hb2 := hb'.next hb1
        have b1 := b0.below hb1
        have k0 := b1.cell 0
        have k1 := b1.cell 1
        have HN1 := Lib.hid (HNM.out w1)
        cases hnm : nameB m with
        | false =>
          rw [hnm] at HN1 HOK
          have HFF := Lib.hid (prop_not hiT HTT.out HOK.out)
          clear hnm b1 b0 q0 q1
          go_wp2_with (go_at_call 36; (with_reducible refine (HN1.out).mono ?_); rintro e w2 ⟨rfl, hb3⟩; have hb4 := hb2.next hb3)
          go_ret
          exact ⟨by rw [HFF.out]; rfl, hb4⟩
        | true =>
          rw [hnm] at HN1 HOK
          clear hnm b0 q0 q1
          go_wp2_with fail
          refine (HN1.out).mono ?_
          rintro e w2 ⟨rfl, hb3⟩
          have hb4 := hb2.next hb3
          have b2 := b1.below hb3
          have j0 := b2.cell 0
          have j1 := b2.cell 1
          clear k0 k1 b1
          by_cases g1 : 1 ≤ kk
          · by_cases g3 : kk ≤ 3
            · have f1 : ¬ ((kk : Int) < 1) := by omega
              have f3 : ¬ ((3 : Int) < (kk : Int)) := by omega
              have HAL := Lib.hid (prop_more HNO.out hiT HTT.out (by rw [HOK.out]; simp [g1, g3]))
              go_wp2
              go_roundw
              case rel => exact ⟨i + 1, by omega, by go_num, HAL.out, hb4⟩
              case measure => simp [intOf]; omega
            · have f1 : ¬ ((kk : Int) < 1) := by omega
              have f3 : ((3 : Int) < (kk : Int)) := by omega
              have HFF := Lib.hid (prop_not hiT HTT.out (by rw [HOK.out]; simp [g3]))
              go_wp2
              go_ret
              exact ⟨by rw [HFF.out]; rfl, hb4⟩
          · have f1 : ((kk : Int) < 1) := by omega
            have f3 : ¬ ((3 : Int) < (kk : Int)) := by omega
            have HFF := Lib.hid (prop_not hiT HTT.out (by rw [HOK.out]; simp [g1]))
            go_wp2
            go_ret
            exact ⟨by rw [HFF.out]; rfl, hb4⟩
    · have hiN : i = N := by omega
      have HFF := Lib.hid (properB_true (s := L) ⟨by have := HN.out; omega, by have := HN.out; omega, fun k hk => HNO.out k hk (by rw [hiN, HN.out]; exact hk)⟩)
      subst hiN
      go_wp2
      go_ret
      exact ⟨by rw [HFF.out]; rfl, hb⟩
end Go.Proofs.Ytbmkhopmhmmibaa
