/-
  PageStamps: the walk: the law answers true; of what was there nothing has turned.
-/
import Derived.Test.YtdbkmmkmfbjkbaaAwake5
import Derived.Test.YtdbkmmkmfbjkbaaDoorL
namespace Go.Proofs.Ytdbkmmkmfbjkbaa.pageStamps
open Go.RowKit

theorem grown_six {w W : World} {row : Option Nat} {u0 u1 u2 u3 u4 u5 : Value} {b : Nat} (h : w.grownBy W row) (hr : row = some b) : w.grownBy ((((((W.setCell ⟨b, 0, none⟩ u0).setCell ⟨b, 1, none⟩ u1).setCell ⟨b, 2, none⟩ u2).setCell ⟨b, 3, none⟩ u3).setCell ⟨b, 4, none⟩ u4).setCell ⟨b, 5, none⟩ u5) row := by
  subst hr
  exact grown_tr (grown_tr (grown_tr (grown_tr (grown_tr (grown_tr h (grown_set _ _ _ _)) (grown_set _ _ _ _)) (grown_set _ _ _ _)) (grown_set _ _ _ _)) (grown_set _ _ _ _)) (grown_set _ _ _ _)
theorem own_lt_addr {w : World} {base : Nat} {e : TypeId} {size n c : Nat} {A : Option Addr} {xs : List Value} (h : w.ownsRow base e size (.slice A n c) n xs) : ∀ ad : Addr, A = some ad → base ≤ ad.block ∧ ad.block < w.heap.size := fun ad e => by
  subst e; exact h.lt _ rfl
theorem ins_new {v : Ver} (hv : v.ok) : insE Pg0 v = 0 ∧ insN Pg0 v = ⟨[some (512 - v.sz, v)], 512 - v.sz⟩ := by
  obtain ⟨_, _, _, _, h5⟩ := of_decide_eq_true hv
  have e : insE Pg0 v = 0 := by unfold insE; rw [if_pos hv, aw0, if_neg (by omega)]
  refine ⟨e, ?_⟩
  unfold insN
  rw [if_pos e]
  have hm : ¬ insMv Pg0 v := by
    unfold insMv
    have : (Pg0.mm : Int) = 1 := by decide
    rw [this]
    show ¬ ((512 : Int) - (4 + 4 * 1) < (v.sz : Int))
    have : v.sz = 30 + v.d.length := rfl
    omega
  have hl : ¬ Pg0.low < Pg0.L.length := by decide
  unfold insP ins0P
  rw [if_neg hm, if_neg hl]; rfl
theorem get_one (a st : Nat) (v : Ver) : getP ⟨[some (a, v)], st⟩ 0 = some v := by rfl
theorem stp_one (a st m : Nat) (v : Ver) (p s : Int) : stpP ⟨[some (a, v)], st⟩ 0 m p s = ⟨[some (a, ⟨v.r, v.x, m, p, s, v.d⟩)], st⟩ := by rfl
set_option maxRecDepth 100000 in
set_option maxHeartbeats 1000000 in
/-- The beginning: up to the page's Insert. -/
theorem walk (r x m xm c : Nat) (p s np ns : Int) (A : Option Addr) (l : List UInt8) (w : World) (ha : Brd w A l) (hc : l.length ≤ c) (hm : c ≤ 9223372036854775807) :
    Calls Try.prog 7 #[.agg #[.int .u64 (r : Int), .int .u64 (x : Int), .int .u64 (m : Int), .int .i64 p, .int .i64 s, .slice A l.length c], .int .u64 (xm : Int), .agg #[.int .i64 np, .int .i64 ns]] w fun e w' => e = .returned (.bool true) ∧ Below w.heap.size w w' := by
  have z1 : (w.alloc (.cells #[.int .u64 (r : Int), .int .u64 (x : Int), .int .u64 (m : Int), .int .i64 p, .int .i64 s, .slice A l.length c] 33)).heap.size = w.heap.size + 1 := by simp
  have b0 := Bx.new w 33 _ [.int .u64 (r : Int), .int .u64 (x : Int), .int .u64 (m : Int), .int .i64 p, .int .i64 s, .slice A l.length c] rfl
  have b1 := Bx.kept b0 (World.grownBy_alloc _ (.cells #[.int .i64 np, .int .i64 ns] 30) none) (by simp)
  have c1 := Bx.new (w.alloc (.cells #[.int .u64 (r : Int), .int .u64 (x : Int), .int .u64 (m : Int), .int .i64 p, .int .i64 s, .slice A l.length c] 33)) 30 _ [.int .i64 np, .int .i64 ns] rfl
  rw [z1] at c1
  have hb1 := (Below.refl w.heap.size w).alloc (Nat.le_refl _) (.cells #[.int .u64 (r : Int), .int .u64 (x : Int), .int .u64 (m : Int), .int .i64 p, .int .i64 s, .slice A l.length c] 33)
  have hb2 := hb1.al (.cells #[.int .i64 np, .int .i64 ns] 30)
  have z2 : ((w.alloc (.cells #[.int .u64 (r : Int), .int .u64 (x : Int), .int .u64 (m : Int), .int .i64 p, .int .i64 s, .slice A l.length c] 33)).alloc (.cells #[.int .i64 np, .int .i64 ns] 30)).heap.size = w.heap.size + 2 := by simp
  have hA := Lib.hid ha
  go_enter Try.func7, Try.ntmps7
  clear z1 hb1 b0 ha
  go_wp2_with fail
  have Z2 := Lib.hid z2
  clear z2
  generalize (w.alloc (.cells #[.int .u64 (r : Int), .int .u64 (x : Int), .int .u64 (m : Int), .int .i64 p, .int .i64 s, .slice A l.length c] 33)).alloc (.cells #[.int .i64 np, .int .i64 ns] 30) = w2 at *
  refine (awake5_any w2).mono ?_
  rintro e w3 ⟨rfl, hb3⟩
  have b3 := Bx.kept b1 (grown_of_below hb3 none) (by simp)
  have c3 := Bx.kept c1 (grown_of_below hb3 none) (by simp)
  have hx3 := Below.next hb2 hb3
  have hz3 := hb3.size
  rw [Z2.out] at hz3
  clear hb2 hb3 b1 c1
  have k0 := b3.cell 0
  have k1 := b3.cell 1
  have k2 := b3.cell 2
  have k3 := b3.cell 3
  have k4 := b3.cell 4
  have k5 := b3.cell 5
  have hf := few_any w3 r x m c p s A l (Rd.below hA.out hx3) hc hm
  have hl230 : (l.take 230).length ≤ 230 := List.length_take_le _ _
  generalize l.take 230 = d at *
  go_wp2_with fail
  refine hf.mono ?_
  rintro e w4 ⟨dv, rfl, hd4, hb4⟩
  have b4 := Bx.kept b3 (grown_of_below hb4 none) (by simp)
  have c4 := Bx.kept c3 (grown_of_below hb4 none) (by simp)
  have hx4 := Below.next hx3 hb4
  have hz4 := hb4.size
  obtain ⟨B, cB, rfl, hn5, hm5, hr5⟩ := own_form hd4
  clear hf k0 k1 k2 k3 k4 k5 b3 c3 hx3 hb4 hr5
  have k0 := b4.cell 0
  have k1 := b4.cell 1
  have k2 := b4.cell 2
  have k3 := b4.cell 3
  have k4 := b4.cell 4
  have k5 := b4.cell 5
  have f0 := b4.frozen 0
  have f1 := b4.frozen 1
  have f2 := b4.frozen 2
  have f3 := b4.frozen 3
  have f4 := b4.frozen 4
  have f5 := b4.frozen 5
  unfold tupV
  go_wp2_with fail
  have o5 := own_set6 (b := w.heap.size + 2) hd4 (show w.heap.size < w3.heap.size by omega) (by omega) (.int .u64 (r : Int)) (.int .u64 (x : Int)) (.int .u64 (m : Int)) (.int .i64 p) (.int .i64 s) (.slice B d.length cB)
  have b5 := ((((((b4.set 0 (.int .u64 (r : Int))).set 1 (.int .u64 (x : Int))).set 2 (.int .u64 (m : Int))).set 3 (.int .i64 p)).set 4 (.int .i64 s)).set 5 (.slice B d.length cB))
  have g5 : w4.grownBy ((((((w4.setCell ⟨w.heap.size, 0, none⟩ (.int .u64 (r : Int))).setCell ⟨w.heap.size, 1, none⟩ (.int .u64 (x : Int))).setCell ⟨w.heap.size, 2, none⟩ (.int .u64 (m : Int))).setCell ⟨w.heap.size, 3, none⟩ (.int .i64 p)).setCell ⟨w.heap.size, 4, none⟩ (.int .i64 s)).setCell ⟨w.heap.size, 5, none⟩ (.slice B d.length cB)) (some w.heap.size) := grown_six (World.grownBy.refl _ _) rfl
  have c5 := c4.kept g5 (by simp)
  have x5 := below_set6 (u0 := .int .u64 (r : Int)) (u1 := .int .u64 (x : Int)) (u2 := .int .u64 (m : Int)) (u3 := .int .i64 p) (u4 := .int .i64 s) (u5 := .slice B d.length cB) hx4
  have z5 := g5.size
  clear k0 k1 k2 k3 k4 k5 f0 f1 f2 f3 f4 f5 b4 c4 hx4 hd4 g5 hn5 hm5
  generalize ((((((w4.setCell ⟨w.heap.size, 0, none⟩ (.int .u64 (r : Int))).setCell ⟨w.heap.size, 1, none⟩ (.int .u64 (x : Int))).setCell ⟨w.heap.size, 2, none⟩ (.int .u64 (m : Int))).setCell ⟨w.heap.size, 3, none⟩ (.int .i64 p)).setCell ⟨w.heap.size, 4, none⟩ (.int .i64 s)).setCell ⟨w.heap.size, 5, none⟩ (.slice B d.length cB)) = w5 at *
  simp only [List.set_cons_zero, List.set_cons_succ] at b5
  refine (pnewE_any w5).mono ?_
  rintro e w6 ⟨rfl, hp6, hb6⟩
  have b6 := Bx.kept b5 (grown_of_below hb6 none) (by simp)
  have c6 := Bx.kept c5 (grown_of_below hb6 none) (by simp)
  have o6 := own_below o5 hb6
  have hal := own_lt_addr o5
  have x6 := Below.next x5 hb6
  have z6 := hb6.size
  have hne : ∀ ad : Addr, B = some ad → ad.block ≠ w5.heap.size := fun ad e => Nat.ne_of_lt (hal ad e).2
  clear b5 c5 o5 x5 hb6
  have k0 := b6.cell 0
  have k1 := b6.cell 1
  have k2 := b6.cell 2
  have k3 := b6.cell 3
  have k4 := b6.cell 4
  have k5 := b6.cell 5
  have hi : Calls Try.prog 33 #[.pointer (some ⟨w5.heap.size, 0, none⟩), .agg #[.int .u64 (r : Int), .int .u64 (x : Int), .int .u64 (m : Int), .int .i64 p, .int .i64 s, .slice B d.length cB]] w6 _ :=
    insE_any w6 w5.heap.size Pg0 ⟨r, x, m, p, s, d⟩ B cB hp6 (Rd.of_own o6) hne
  go_wp2_with fail
  refine hi.mono ?_
  rintro e w7 ⟨he, h7, g7⟩
  have hgw : w5.heap.size ≠ w.heap.size := by omega
  have b7 := b6.kept g7 (fun e => by injection e with e; exact hgw e)
  have c7 := c6.kept g7 (fun e => by injection e with e; omega)
  have r7 := Rd.kept (Rd.of_own o6) g7 hne
  have x7 := x6.trans (below_of_grown g7 (show w.heap.size ≤ w5.heap.size by omega) x6.size)
  clear b6 c6 o6 x6 hi k0 k1 k2 k3 k4 k5 g7
  have hgl := h7.lt
  by_cases hv : (Ver.mk r x m p s d).ok
  · obtain ⟨i1, i2⟩ := ins_new hv
    have i3 : insS Pg0 ⟨r, x, m, p, s, d⟩ = 0 := by unfold insS; rw [if_pos i1]; rfl
    rw [i1, i3] at he
    rw [i2] at h7
    subst he
    have hP1 : (Pg.mk [some (512 - (Ver.mk r x m p s d).sz, ⟨r, x, m, p, s, d⟩)] (512 - (Ver.mk r x m p s d).sz)) = ⟨[some (512 - (30 + d.length), ⟨r, x, m, p, s, d⟩)], 512 - (30 + d.length)⟩ := rfl
    rw [hP1] at h7
    clear hP1
    have hst := stpE_any w7 w5.heap.size _ 0 xm np ns h7
    have hEq : stpE ⟨[some (512 - (30 + d.length), ⟨r, x, m, p, s, d⟩)], 512 - (30 + d.length)⟩ 0 xm np ns = if 1099511627776 < xm ∨ vnB np ns = false then 3 else 0 := rfl
    have hfar := far_any w7 np ns
    have j0 := c7.cell 0
    have j1 := c7.cell 1
    by_cases hm1 : 1099511627776 < xm
    · rw [if_pos (.inl hm1)] at hEq
      unfold stpN at hst
      rw [hEq, if_neg (by decide)] at hst
      have HST := Lib.hid hst
      clear hst hEq hfar h7
      go_wp2_with fail
      refine HST.out.mono ?_
      rintro e w8 ⟨rfl, h8, g8⟩
      have b8 := b7.kept g8 (fun e => by injection e with e; exact hgw e)
      have x8 := x7.trans (below_of_grown g8 (show w.heap.size ≤ w5.heap.size by omega) x7.size)
      have r8 := Rd.kept r7 g8 hne
      clear b7 x7 r7 g8 HST
      have hg9 := getE_yes w8 w5.heap.size _ 0 ⟨r, x, m, p, s, d⟩ h8 rfl
      have hu9 := fun W hp => usedE_any W w5.heap.size ⟨[some (512 - (30 + d.length), ⟨r, x, m, p, s, d⟩)], 512 - (30 + d.length)⟩ hp
      have hx8 := x8.size
      have H8 := Lib.hid h8
      have HG := Lib.hid hg9
      have HU := Lib.hid hu9
      clear hg9 hu9 h8
      go_wp2_with fail
      refine HG.out.mono ?_
      rintro e w9 ⟨dv, rfl, hd9, hb9⟩
      obtain ⟨D, cD, rfl, hn9, hm9, hr9⟩ := own_form hd9
      have b9 := Bx.kept b8 (grown_of_below hb9 none) (by simp)
      have x9 := Below.next x8 hb9
      have h9 := Lib.hid (H8.out.below hb9)
      have rB := Rd.below r8 hb9
      have hsame := fun o => same5_any (w9.alloc o) r x m p s D B cD cB d (Rd.alloc hr9 o) (Rd.alloc rB o)
      have HSM := Lib.hid hsame
      clear hsame hb9 hd9 hr9 rB b8 x8 H8 HG r8
      unfold Ver.val tupV
      have bA := fun o => Bx.kept b9 (World.grownBy_alloc w9 o none) (by simp)
      have k0 := fun o => (bA o).cell 0
      have k1 := fun o => (bA o).cell 1
      have k2 := fun o => (bA o).cell 2
      have k3 := fun o => (bA o).cell 3
      have k4 := fun o => (bA o).cell 4
      have k5 := fun o => (bA o).cell 5
      clear bA
      go_wp2_with (go_at_call 27; (with_reducible refine (HSM.out _).mono ?_); rintro e w10 ⟨rfl, hb10⟩; have h10 := Lib.hid ((h9.out.alloc _).below hb10); have x10 := (x9.al _).next hb10)
      refine (HU.out _ h10.out).mono ?_
      rintro e w11 ⟨rfl, hw11⟩
      have hw := hw11.symm
      subst hw
      go_wp2
      go_ret
      exact ⟨rfl, x10⟩
    · cases hvn : vnB np ns with
      | false =>
        rw [if_pos (.inr hvn)] at hEq
        unfold stpN at hst
        rw [hEq, if_neg (by decide)] at hst
        have HST := Lib.hid hst
        have hfar := fun W => far_any W np ns
        rw [hvn] at hfar
        have HFR := Lib.hid hfar
        clear hst hEq hfar h7 hvn j0 j1
        have j0 := c7.cell 0
        have j1 := c7.cell 1
        go_wp2_with fail
        refine HST.out.mono ?_
        rintro e w7b ⟨rfl, h7b, g7b⟩
        have c7b := c7.kept g7b (fun e => by injection e with e; omega)
        have b7b := b7.kept g7b (fun e => by injection e with e; exact hgw e)
        have x7b := x7.trans (below_of_grown g7b (show w.heap.size ≤ w5.heap.size by omega) x7.size)
        have r7b := Rd.kept r7 g7b hne
        have H7b := Lib.hid h7b
        clear b7 x7 r7 g7b HST j0 j1 h7b
        have j0 := c7b.cell 0
        have j1 := c7b.cell 1
        go_wp2_with fail
        refine (HFR.out _).mono ?_
        rintro e w8 ⟨rfl, hb8⟩
        have b8 := b7b.kept (grown_of_below hb8 none) (by simp)
        have x8 := Below.next x7b hb8
        have r8 := Rd.below r7b hb8
        have h8 := H7b.out.below hb8
        clear b7b x7b r7b H7b hb8 HFR j0 j1
        have hg9 := getE_yes w8 w5.heap.size _ 0 ⟨r, x, m, p, s, d⟩ h8 rfl
        have hu9 := fun W hp => usedE_any W w5.heap.size ⟨[some (512 - (30 + d.length), ⟨r, x, m, p, s, d⟩)], 512 - (30 + d.length)⟩ hp
        have hx8 := x8.size
        have H8 := Lib.hid h8
        have HG := Lib.hid hg9
        have HU := Lib.hid hu9
        clear hg9 hu9 h8
        go_wp2_with fail
        refine HG.out.mono ?_
        rintro e w9 ⟨dv, rfl, hd9, hb9⟩
        obtain ⟨D, cD, rfl, hn9, hm9, hr9⟩ := own_form hd9
        have b9 := Bx.kept b8 (grown_of_below hb9 none) (by simp)
        have x9 := Below.next x8 hb9
        have h9 := Lib.hid (H8.out.below hb9)
        have rB := Rd.below r8 hb9
        have hsame := fun o => same5_any (w9.alloc o) r x m p s D B cD cB d (Rd.alloc hr9 o) (Rd.alloc rB o)
        have HSM := Lib.hid hsame
        clear hsame hb9 hd9 hr9 rB b8 x8 H8 HG r8
        unfold Ver.val tupV
        have bA := fun o => Bx.kept b9 (World.grownBy_alloc w9 o none) (by simp)
        have k0 := fun o => (bA o).cell 0
        have k1 := fun o => (bA o).cell 1
        have k2 := fun o => (bA o).cell 2
        have k3 := fun o => (bA o).cell 3
        have k4 := fun o => (bA o).cell 4
        have k5 := fun o => (bA o).cell 5
        clear bA
        go_wp2_with (go_at_call 27; (with_reducible refine (HSM.out _).mono ?_); rintro e w10 ⟨rfl, hb10⟩; have h10 := Lib.hid ((h9.out.alloc _).below hb10); have x10 := (x9.al _).next hb10)
        refine (HU.out _ h10.out).mono ?_
        rintro e w11 ⟨rfl, hw11⟩
        have hw := hw11.symm
        subst hw
        go_wp2
        go_ret
        exact ⟨rfl, x10⟩
      | true =>
        rw [if_neg (by rw [hvn]; simp; omega)] at hEq
        unfold stpN at hst
        rw [hEq, if_pos rfl, stp_one] at hst
        have HST := Lib.hid hst
        have hfar := fun W => far_any W np ns
        rw [hvn] at hfar
        have HFR := Lib.hid hfar
        clear hst hEq hfar h7 hvn j0 j1
        have j0 := c7.cell 0
        have j1 := c7.cell 1
        go_wp2_with fail
        refine HST.out.mono ?_
        rintro e w7b ⟨rfl, h7b, g7b⟩
        have c7b := c7.kept g7b (fun e => by injection e with e; omega)
        have b7b := b7.kept g7b (fun e => by injection e with e; exact hgw e)
        have x7b := x7.trans (below_of_grown g7b (show w.heap.size ≤ w5.heap.size by omega) x7.size)
        have r7b := Rd.kept r7 g7b hne
        have H7b := Lib.hid h7b
        clear b7 x7 r7 g7b HST j0 j1 h7b
        have j0 := c7b.cell 0
        have j1 := c7b.cell 1
        go_wp2_with fail
        refine (HFR.out _).mono ?_
        rintro e w7c ⟨rfl, hb8⟩
        have b7c := b7b.kept (grown_of_below hb8 none) (by simp)
        have c7c := c7b.kept (grown_of_below hb8 none) (by simp)
        have x7c := Below.next x7b hb8
        have r7c := Rd.below r7b hb8
        have h7c := Lib.hid (H7b.out.below hb8)
        clear b7b x7b r7b H7b hb8 HFR j0 j1
        have j0 := c7c.cell 0
        have j1 := c7c.cell 1
        have k2 := b7c.cell 2
        have k3 := b7c.cell 3
        have k4 := b7c.cell 4
        have f2 := b7c.frozen 2
        have f3 := b7c.frozen 3
        have f4 := b7c.frozen 4
        go_wp2
        go_region
        have b8 := ((b7c.set 2 (.int .u64 (xm : Int))).set 3 (.int .i64 np)).set 4 (.int .i64 ns)
        have g8 : w7c.grownBy (((w7c.setCell ⟨w.heap.size, 2, none⟩ (.int .u64 (xm : Int))).setCell ⟨w.heap.size, 3, none⟩ (.int .i64 np)).setCell ⟨w.heap.size, 4, none⟩ (.int .i64 ns)).drew (some w.heap.size) := grown_tr (grown_tr (grown_tr (grown_set _ _ _ _) (grown_set _ _ _ _)) (grown_set _ _ _ _)) (grown_drew _ _)
        have x8 := (((x7c.setCell (p := ⟨w.heap.size, 2, none⟩) (Nat.le_refl _) (.int .u64 (xm : Int))).setCell (p := ⟨w.heap.size, 3, none⟩) (Nat.le_refl _) (.int .i64 np)).setCell (p := ⟨w.heap.size, 4, none⟩) (Nat.le_refl _) (.int .i64 ns)).drew
        have r8 := Rd.kept r7c g8 (fun ad e => by have := (hal ad e).1; omega)
        have h8 := Pge.kept h7c.out g8 (fun e => by injection e with e; exact hgw e.symm)
        have b8 : Bx (((w7c.setCell ⟨w.heap.size, 2, none⟩ (.int .u64 (xm : Int))).setCell ⟨w.heap.size, 3, none⟩ (.int .i64 np)).setCell ⟨w.heap.size, 4, none⟩ (.int .i64 ns)).drew w.heap.size 33 _ := b8
        simp only [List.set_cons_zero, List.set_cons_succ] at b8
        clear k2 k3 k4 f2 f3 f4 j0 j1 b7c c7c x7c r7c h7c g8
        generalize (((w7c.setCell ⟨w.heap.size, 2, none⟩ (.int .u64 (xm : Int))).setCell ⟨w.heap.size, 3, none⟩ (.int .i64 np)).setCell ⟨w.heap.size, 4, none⟩ (.int .i64 ns)).drew = w8 at *
        have hg9 := getE_yes w8 w5.heap.size _ 0 ⟨r, x, xm, np, ns, d⟩ h8 rfl
        have hu9 := fun W hp => usedE_any W w5.heap.size ⟨[some (512 - (30 + d.length), ⟨r, x, xm, np, ns, d⟩)], 512 - (30 + d.length)⟩ hp
        have hx8 := x8.size
        have H8 := Lib.hid h8
        have HG := Lib.hid hg9
        have HU := Lib.hid hu9
        clear hg9 hu9 h8
        go_wp2_with fail
        refine HG.out.mono ?_
        rintro e w9 ⟨dv, rfl, hd9, hb9⟩
        obtain ⟨D, cD, rfl, hn9, hm9, hr9⟩ := own_form hd9
        have b9 := Bx.kept b8 (grown_of_below hb9 none) (by simp)
        have x9 := Below.next x8 hb9
        have h9 := Lib.hid (H8.out.below hb9)
        have rB := Rd.below r8 hb9
        have hsame := fun o => same5_any (w9.alloc o) r x xm np ns D B cD cB d (Rd.alloc hr9 o) (Rd.alloc rB o)
        have HSM := Lib.hid hsame
        clear hsame hb9 hd9 hr9 rB b8 x8 H8 HG r8
        unfold Ver.val tupV
        have bA := fun o => Bx.kept b9 (World.grownBy_alloc w9 o none) (by simp)
        have k0 := fun o => (bA o).cell 0
        have k1 := fun o => (bA o).cell 1
        have k2 := fun o => (bA o).cell 2
        have k3 := fun o => (bA o).cell 3
        have k4 := fun o => (bA o).cell 4
        have k5 := fun o => (bA o).cell 5
        clear bA
        go_wp2_with (go_at_call 27; (with_reducible refine (HSM.out _).mono ?_); rintro e w10 ⟨rfl, hb10⟩; have h10 := Lib.hid ((h9.out.alloc _).below hb10); have x10 := (x9.al _).next hb10)
        refine (HU.out _ h10.out).mono ?_
        rintro e w11 ⟨rfl, hw11⟩
        have hw := hw11.symm
        subst hw
        go_wp2
        go_ret
        exact ⟨rfl, x10⟩
  · have i1 : insE Pg0 ⟨r, x, m, p, s, d⟩ = 3 := by unfold insE; rw [if_neg hv]
    have i3 : insS Pg0 ⟨r, x, m, p, s, d⟩ = 0 := by unfold insS; rw [i1]; rfl
    rw [i1, i3] at he
    subst he
    have hr := right_any w7 r x m p s B d.length cB
    rw [show vdB r x m p s d.length = false by cases hq : vdB r x m p s d.length; rfl; exact absurd hq hv] at hr
    have HR := Lib.hid hr
    have k0 := b7.cell 0
    have k1 := b7.cell 1
    have k2 := b7.cell 2
    have k3 := b7.cell 3
    have k4 := b7.cell 4
    have k5 := b7.cell 5
    clear hr h7 hv
    go_wp2_with (go_at_call 38; (with_reducible refine (HR.out).mono ?_); rintro e w8 ⟨rfl, hb8⟩)
    go_ret
    exact ⟨rfl, Below.next x7 hb8⟩
end Go.Proofs.Ytdbkmmkmfbjkbaa.pageStamps
