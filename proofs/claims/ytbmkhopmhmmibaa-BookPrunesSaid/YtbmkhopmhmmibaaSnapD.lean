/-
  Package snap: Visible, Dead, Horizon; the law's tuple.
-/
import Derived.Test.YtbmkhopmhmmibaaSnapC
namespace Go.Proofs.Ytbmkhopmhmmibaa
open Go.RowKit
set_option linter.unusedVariables false

def tpv (a b : Nat) : Value := .agg #[.int .u64 0, .int .u64 (a : Int), .int .u64 (b : Int), .int .i64 0, .int .i64 0, .slice none 0 0]
def tpcells (a b : Nat) : List Value := [.int .u64 0, .int .u64 (a : Int), .int .u64 (b : Int), .int .i64 0, .int .i64 0, .slice none 0 0]
set_option maxRecDepth 100000 in
set_option maxHeartbeats 1000000 in
theorem vis_any (w : World) (g f own xmin xmax a b bb : Nat) (S R : List Nat) (F : Nat → Prop) (v : Value) (h : LG w g f S F) (hR : w.ownsRow bb 28 1 v R.length (ucells .u64 R)) (hn : R.length ≤ 9223372036854775807) :
    Calls Try.prog 92 #[.pointer (some ⟨g, 0, none⟩), .agg #[.int .u64 (own : Int), .int .u64 (xmin : Int), .int .u64 (xmax : Int), v], .agg #[.int .u64 0, .int .u64 (a : Int), .int .u64 (b : Int), .int .i64 0, .int .i64 0, .slice none 0 0]] w fun e w' => e = .returned (.bool (visB f S own xmax R a b)) ∧ Below w.heap.size w w' := by
  obtain ⟨A, c, hv, _, _, _⟩ := own_form hR
  subst hv
  have HS := Lib.hid (fun W x (hW : LG W g f S F) (hWR : W.ownsRow bb 28 1 (.slice A R.length c) R.length (ucells .u64 R)) => sees_any W g f own xmin xmax x bb S R F (.slice A R.length c) hW hWR hn)
  have hA : Below w.heap.size w ((w.alloc (.cells #[.int .u64 (own : Int), .int .u64 (xmin : Int), .int .u64 (xmax : Int), .slice A R.length c] 50)).alloc (.cells #[.int .u64 0, .int .u64 (a : Int), .int .u64 (b : Int), .int .i64 0, .int .i64 0, .slice none 0 0] 169)) := ((Below.refl _ _).al _).al _
  have b0 := (Bx.new w 50 #[.int .u64 (own : Int), .int .u64 (xmin : Int), .int .u64 (xmax : Int), .slice A R.length c] [.int .u64 (own : Int), .int .u64 (xmin : Int), .int .u64 (xmax : Int), .slice A R.length c] rfl).alloc (.cells #[.int .u64 0, .int .u64 (a : Int), .int .u64 (b : Int), .int .i64 0, .int .i64 0, .slice none 0 0] 169)
  have t0 := Bx.new (w.alloc (.cells #[.int .u64 (own : Int), .int .u64 (xmin : Int), .int .u64 (xmax : Int), .slice A R.length c] 50)) 169 #[.int .u64 0, .int .u64 (a : Int), .int .u64 (b : Int), .int .i64 0, .int .i64 0, .slice none 0 0] [.int .u64 0, .int .u64 (a : Int), .int .u64 (b : Int), .int .i64 0, .int .i64 0, .slice none 0 0] rfl
  have hsz : (w.alloc (.cells #[.int .u64 (own : Int), .int .u64 (xmin : Int), .int .u64 (xmax : Int), .slice A R.length c] 50)).heap.size = w.heap.size + 1 := by simp
  rw [hsz] at t0
  have h1 := h.below hA
  have R1 := own_below hR hA
  have hb0 : ((b : Int) == 0) = decide (b = 0) := beq_int (b := 0)
  have HH := Lib.hid h1
  have HR := Lib.hid R1
  have hvis : visB f S own xmax R a b = (seesB f S own xmax R a && (decide (b = 0) || !seesB f S own xmax R b)) := rfl
  rw [hvis]
  clear h hR R1 h1 hvis hsz
  generalize hW0 : (w.alloc (.cells #[.int .u64 (own : Int), .int .u64 (xmin : Int), .int .u64 (xmax : Int), .slice A R.length c] 50)).alloc (.cells #[.int .u64 0, .int .u64 (a : Int), .int .u64 (b : Int), .int .i64 0, .int .i64 0, .slice none 0 0] 169) = W0 at *
  generalize hsa : seesB f S own xmax R a = sa at *
  generalize hsb : seesB f S own xmax R b = sb at *
  have HA : ∀ W, LG W g f S F → W.ownsRow bb 28 1 (.slice A R.length c) R.length (ucells .u64 R) → Calls Try.prog 97 #[.pointer (some ⟨g, 0, none⟩), .agg #[.int .u64 (own : Int), .int .u64 (xmin : Int), .int .u64 (xmax : Int), .slice A R.length c], .int .u64 (a : Int)] W fun e w' => e = .returned (.bool sa) ∧ Below W.heap.size W w' := fun W x1 x2 => by rw [← hsa]; exact HS.out W a x1 x2
  have HB : ∀ W, LG W g f S F → W.ownsRow bb 28 1 (.slice A R.length c) R.length (ucells .u64 R) → Calls Try.prog 97 #[.pointer (some ⟨g, 0, none⟩), .agg #[.int .u64 (own : Int), .int .u64 (xmin : Int), .int .u64 (xmax : Int), .slice A R.length c], .int .u64 (b : Int)] W fun e w' => e = .returned (.bool sb) ∧ Below W.heap.size W w' := fun W x1 x2 => by rw [← hsb]; exact HS.out W b x1 x2
  replace HA := Lib.hid HA
  replace HB := Lib.hid HB
  have k0 := b0.cell 0
  have k1 := b0.cell 1
  have k2 := b0.cell 2
  have k3 := b0.cell 3
  have t1 := t0.cell 1
  have t2 := t0.cell 2
  clear hsa hsb HS
  generalize decide (b = 0) = z at *
  go_enter Try.func92, Try.ntmps92
  go_wp2_with fail
  subst hW0
  refine (HA.out _ HH.out HR.out).mono ?_
  rintro e w1 ⟨rfl, hb1⟩
  have hA1 := hA.next hb1
  have h1 := Lib.hid (HH.out.below hb1)
  have R1 := Lib.hid (own_below HR.out hb1)
  have b1 := b0.below hb1
  have u1 := t0.below hb1
  have m0 := b1.cell 0
  have m1 := b1.cell 1
  have m2 := b1.cell 2
  have m3 := b1.cell 3
  have n2 := u1.cell 2
  clear k0 k1 k2 k3 t1 t2 b0 t0 hb1 b1 u1
  cases sa with
  | false =>
    go_wp2
    go_ret
    exact ⟨rfl, hA1⟩
  | true =>
    cases z with
    | true =>
      go_wp2
      go_ret
      exact ⟨rfl, hA1⟩
    | false =>
      go_wp2_with (go_at_call 97; (with_reducible refine (HB.out _ h1.out R1.out).mono ?_); rintro e w2 ⟨rfl, hb2⟩; have hA2 := hA1.next hb2)
      go_ret
      exact ⟨by simp, hA2⟩
set_option maxRecDepth 100000 in
set_option maxHeartbeats 1000000 in
theorem dead_any (w : World) (g f a b h : Nat) (S : List Nat) (F : Nat → Prop) (hl : LG w g f S F) :
    Calls Try.prog 120 #[.pointer (some ⟨g, 0, none⟩), .agg #[.int .u64 0, .int .u64 (a : Int), .int .u64 (b : Int), .int .i64 0, .int .i64 0, .slice none 0 0], .int .u64 (h : Int)] w fun e w' => e = .returned (.bool (deadB f S a b h)) ∧ Below w.heap.size w w' := by
  have hA : Below w.heap.size w (w.alloc (.cells #[.int .u64 0, .int .u64 (a : Int), .int .u64 (b : Int), .int .i64 0, .int .i64 0, .slice none 0 0] 169)) := (Below.refl _ _).al _
  have t0 := Bx.new w 169 #[.int .u64 0, .int .u64 (a : Int), .int .u64 (b : Int), .int .i64 0, .int .i64 0, .slice none 0 0] [.int .u64 0, .int .u64 (a : Int), .int .u64 (b : Int), .int .i64 0, .int .i64 0, .slice none 0 0] rfl
  have h1 := hl.below hA
  have HSa := Lib.hid (lg_state _ g f a S F h1)
  have HH := Lib.hid h1
  have HSb := Lib.hid (fun W (hW : LG W g f S F) => lg_state W g f b S F hW)
  have k1 := t0.cell 1
  have k2 := t0.cell 2
  unfold deadB
  have e3 : ((stt f S a : Int) == 3) = decide (stt f S a = 3) := beq_int (b := 3)
  have e2 : ((stt f S b : Int) == 2) = decide (stt f S b = 2) := beq_int (b := 2)
  have el : decide ((b : Int) < (h : Int)) = decide (b < h) := decide_eq_decide.2 (by omega)
  generalize decide (stt f S a = 3) = p at *
  generalize decide (stt f S b = 2) = q at *
  generalize decide (b < h) = z at *
  generalize stt f S a = sa at *
  generalize stt f S b = sb at *
  clear h1 hl
  go_enter Try.func120, Try.ntmps120
  go_wp2_with fail
  refine (HSa.out).mono ?_
  rintro e w1 ⟨rfl, n1, hw1⟩
  have t1 := t0.below (below_n _ n1)
  have hA1 := hA.next (below_n _ n1)
  have h1 := HH.out.below (below_n _ n1)
  rw [← hw1] at t1 hA1 h1
  have m1 := t1.cell 1
  have m2 := t1.cell 2
  clear t1 t0 k1 k2 hw1
  cases p with
  | true =>
    go_wp2
    go_ret
    exact ⟨rfl, hA1⟩
  | false =>
    cases z with
    | false =>
      have hnl := of_decide_eq_false el
      go_wp2
      go_ret
      exact ⟨rfl, hA1⟩
    | true =>
      have hnl := of_decide_eq_true el
      go_wp2_with (go_at_call 28; (with_reducible refine (HSb.out _ h1).mono ?_); rintro e w2 ⟨rfl, n2, hw2⟩; have hA2 := hA1.next (below_n _ n2); rw [← hw2] at hA2; clear hw2)
      go_ret
      exact ⟨by simp, hA2⟩
end Go.Proofs.Ytbmkhopmhmmibaa
