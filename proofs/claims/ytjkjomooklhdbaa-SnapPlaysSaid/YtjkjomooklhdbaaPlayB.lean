/-
  lapidarylaw10.play: every script is played by both alike.
-/
import Derived.Test.YtjkjomooklhdbaaPlayU
import Derived.Test.YtjkjomooklhdbaaLate
import Derived.Deep.AppendLies
import Derived.Deep.DeepCutAuto
import Derived.Deep.RegionHeld3
namespace Go.Proofs.Ytjkjomooklhdbaa
open Go.RowKit
set_option linter.unusedVariables false

theorem ts_cell1 {W : World} {B : Nat} {u : Value} (o : Obj) (h : W.cell? ⟨B, 1, none⟩ = some u) : (W.alloc o).cell? ⟨B, 1, none⟩ = some u := (World.cell?_alloc_lt W o _ (World.block_lt_of_cell? _ _ h)).trans h
theorem Bx.oth {W : World} {b : Nat} {T : TypeId} {vs : List Value} (h : Bx W b T vs) (a : Addr) (v : Value) (hne : b ≠ a.block) : Bx (W.setCell a v) b T vs := (heap_setCell_other W a b v hne).trans h
theorem cell_set4 {W : World} {a : Addr} {b : Nat} {u u0 u1 u2 u3 : Value} (hne : a.block ≠ b) (h : W.cell? a = some u) : ((((W.setCell ⟨b, 0, none⟩ u0).setCell ⟨b, 1, none⟩ u1).setCell ⟨b, 2, none⟩ u2).setCell ⟨b, 3, none⟩ u3).cell? a = some u := by
  unfold World.cell? at h ⊢
  rw [heap_setCell_other _ ⟨b, 3, none⟩ _ _ hne, heap_setCell_other _ ⟨b, 2, none⟩ _ _ hne, heap_setCell_other _ ⟨b, 1, none⟩ _ _ hne, heap_setCell_other _ ⟨b, 0, none⟩ _ _ hne]
  exact h
theorem cell_set3 {W : World} {a : Addr} {b : Nat} {u u0 u1 u2 : Value} (hne : a.block ≠ b) (h : W.cell? a = some u) : (((W.setCell ⟨b, 0, none⟩ u0).setCell ⟨b, 1, none⟩ u1).setCell ⟨b, 2, none⟩ u2).cell? a = some u := by
  unfold World.cell? at h ⊢
  rw [heap_setCell_other _ ⟨b, 2, none⟩ _ _ hne, heap_setCell_other _ ⟨b, 1, none⟩ _ _ hne, heap_setCell_other _ ⟨b, 0, none⟩ _ _ hne]
  exact h
/-- What play hands back. -/
def Played (w : World) (mm : Nat) (e : Ending) (w' : World) : Prop := ∃ (p g r : Nat) (S : List Nat) (H : Nat → Prop) (A1 A2 : Option Addr) (c1 c2 : Nat) (L : List Pn), e = .returned (.tuple #[.pointer (some ⟨p, 0, none⟩), .bool true]) ∧
  Py w w' p g r S H (.slice A1 L.length c1) (.slice A2 L.length c2) L ∧ S.length ≤ mm ∧ L.length ≤ mm ∧ ∀ q ∈ L, q.own < 40
set_option maxRecDepth 100000 in
set_option maxHeartbeats 8000000 in
theorem play_any (A : Option Addr) (cc : Nat) (l : List Op10) (mm : Nat) (w : World) (hmm : mm ≤ 40) (r0 : Rd w 2 A l.length (l.flatMap Op10.e)) (n0 : l.length ≤ cc) (m0 : cc ≤ 9223372036854775807) :
    Calls Try.prog 28 #[.slice A l.length cc, .int .i64 (mm : Int)] w fun e w' => Played w mm e w' := by
  obtain ⟨i4, hi4, hz40, hz41, hz42⟩ := info_parts4 info_sn
  obtain ⟨i3, hi3, hz30, hz31, hz32⟩ := info_parts4 info_rs
  go_enter Try.func28, Try.ntmps28
  go_wp2_with fail
  have p0 := Bx.new w 65 #[.pointer none, .pointer none, .slice none 0 0, .slice none 0 0] [.pointer none, .pointer none, .slice none 0 0, .slice none 0 0] rfl
  have x0 : Below w.heap.size w (w.alloc (.cells #[.pointer none, .pointer none, .slice none 0 0, .slice none 0 0] 65)) := (Below.refl _ _).al _
  have hs0 : (w.alloc (.cells #[.pointer none, .pointer none, .slice none 0 0, .slice none 0 0] 65)).heap.size = w.heap.size + 1 := by simp
  refine (lg_new _ 1 (by decide) (by decide)).mono ?_
  rintro e w1 ⟨rfl, h1, hb1⟩
  have p1 := p0.below hb1
  have x1 := x0.next hb1
  rw [hs0] at h1
  rw [hs0]
  have hw1 : w.heap.size + 1 ≤ w1.heap.size := by have := hb1.size; omega
  have d0 := p1.cell 0
  have z0 := p1.frozen 0
  have f1 : Fr (fun k => k = w.heap.size) w1 (w1.setCell ⟨w.heap.size, 0, none⟩ (.pointer (some ⟨w.heap.size + 1, 0, none⟩))) := Fr.set (S := fun k => k = w.heap.size) (Fr.refl _ _) (.inl rfl) 0 _
  have p2 := p1.set 0 (.pointer (some ⟨w.heap.size + 1, 0, none⟩))
  have h2 := h1.fr f1 fun k hk e => by omega
  have x2 : Below w.heap.size w (w1.setCell ⟨w.heap.size, 0, none⟩ (.pointer (some ⟨w.heap.size + 1, 0, none⟩))) := x1.trans (f1.below (fun k e => by omega) x1.size)
  have hs2 : (w1.setCell ⟨w.heap.size, 0, none⟩ (.pointer (some ⟨w.heap.size + 1, 0, none⟩))).heap.size = w1.heap.size := by simp [World.setCell]
  clear p0 x0 hs0 hb1 h1 x1 f1 p1
  go_wp2_with fail
  generalize w1.setCell ⟨w.heap.size, 0, none⟩ (.pointer (some ⟨w.heap.size + 1, 0, none⟩)) = W2 at *
  refine (rg_new W2 1 (by decide) (by decide)).mono ?_
  rintro e w3 ⟨rfl, r3, hb3⟩
  rw [hs2] at r3
  rw [hs2]
  have p3 := p2.below hb3
  have h3 := h2.below hb3
  have x3 := x2.next hb3
  have d1 := p3.cell 1
  have z1 := p3.frozen 1
  have f3 : Fr (fun k => k = w.heap.size) w3 (w3.setCell ⟨w.heap.size, 1, none⟩ (.pointer (some ⟨w1.heap.size, 0, none⟩))) := Fr.set (S := fun k => k = w.heap.size) (Fr.refl _ _) (.inl rfl) 1 _
  have p4 := p3.set 1 (.pointer (some ⟨w1.heap.size, 0, none⟩))
  have h4 := h3.fr f3 fun k hk e => by omega
  have r4 := r3.fr f3 fun k hk e => by omega
  have x4 : Below w.heap.size w (w3.setCell ⟨w.heap.size, 1, none⟩ (.pointer (some ⟨w1.heap.size, 0, none⟩))) := x3.trans (f3.below (fun k e => by omega) x3.size)
  have S0 : Py w (w3.setCell ⟨w.heap.size, 1, none⟩ (.pointer (some ⟨w1.heap.size, 0, none⟩))) w.heap.size (w.heap.size + 1) w1.heap.size [] (fun k => k = w.heap.size + 1 ∨ k = w1.heap.size) (.slice none 0 0) (.slice none 0 0) [] :=
    ⟨p4, ⟨⟨_, _, h4, r4, rfl⟩, ⟨fun k hk => by omega, x4, x4.size⟩⟩, World.ownsRow_nil _ _ _ _, World.ownsRow_nil _ _ _ _, Nat.le_refl _, fun q hq => (by cases hq), fun q hq => (by cases hq)⟩
  clear p2 p3 p4 h2 h3 h4 r3 r4 x2 x3 x4 f3 hb3 hs2
  go_wp2
  generalize w.heap.size + 1 = g at *
  generalize hp : w.heap.size = p at *
  generalize w1.heap.size = r at *
  go_loopw [30] (fun iv wr => ∃ (i N : Nat) (S : List Nat) (H : Nat → Prop) (A1 A2 : Option Addr) (c1 c2 : Nat) (L : List Pn), i ≤ l.length ∧ i ≤ mm ∧ S.length ≤ i ∧ L.length ≤ i ∧ N = L.length ∧ (∀ q ∈ L, q.own < 40) ∧ iv = .int .i64 (i : Int) ∧ Py w wr p g r S H (.slice A1 N c1) (.slice A2 N c2) L) (fun iv _ => l.length - (intOf iv).toNat)
  case atStart => exact ⟨0, 0, _, _, none, none, 0, 0, _, Nat.zero_le _, Nat.zero_le _, Nat.le_refl _, Nat.le_refl _, rfl, fun q hq => (by cases hq), rfl, S0⟩
  case round =>
    obtain ⟨i, N, S, H, A1, A2, c1, c2, L, hi, him, hSl, hLl, hNL, hown, rfl, hS⟩ := hrel
    by_cases hend : i < l.length ∧ i < mm
    · obtain ⟨hlt, hm⟩ := hend
      obtain ⟨ad, rfl, q0, q1⟩ := op10_at (Rd.below r0 (hS.bo.mine.below.mono (Nat.le_refl _))) hlt
      have ix := idx_op10 ad l.length cc i hlt
      have ho2 := l[i].h2
      generalize l[i] = o at *
      obtain ⟨d, hd⟩ : ∃ d, d = o.do_ % 7 := ⟨_, rfl⟩
      obtain ⟨x, hx⟩ : ∃ x, x = o.xid % 40 := ⟨_, rfl⟩
      have ed : ((o.do_ : Int)).tmod 7 = (d : Int) := by rw [hd, Int.tmod_eq_emod_of_nonneg (by omega)]; omega
      have ex : ((o.xid : Int)).tmod 40 = (x : Int) := by rw [hx, Int.tmod_eq_emod_of_nonneg (by omega)]; omega
      have hx4 : x < 40 := by omega
      have hd7 : d < 7 := by omega
      have HNL := Lib.hid hNL
      have HOW := Lib.hid hown
      clear hd hx r0 S0 hNL hown
      have SW := hS.below ((Below.refl _ _).al (.cells #[.int .u8 (o.do_ : Int), .int .u64 (o.xid : Int)] 89))
      have b := Bx.new wr 89 #[.int .u8 (o.do_ : Int), .int .u64 (o.xid : Int)] [.int .u8 (o.do_ : Int), .int .u64 (o.xid : Int)] rfl
      have c0 := b.cell 0
      have c1' := b.cell 1
      clear hS b
      have y0 := SW.box.cell 0
      have y1 := SW.box.cell 1
      by_cases hd2 : d = 2
      · subst hd2
        have HE : ∀ W H1, Ha w.heap.size w W g r 1 S (endL 1 S x 2) H1 → Calls Try.prog 16 #[.pointer (some ⟨r, 0, none⟩), .int .u64 (x : Int), .int .i64 2] W fun e w' => e = .returned (.int .i64 (endE 1 S x)) ∧ ∃ H', Bo w.heap.size w w' g r 1 (endL 1 S x 2) H' ∧ Chg H1 H' W w' := fun W H1 hh => by
          have := ha_end x 2 hh (by omega)
          rw [show ((2 : Nat) : Int) = 2 from rfl] at this
          exact this
        have HC := Lib.hid (bo_commit x SW.bo (by omega))
        have hel : (endL 1 S x 2).length = S.length := by unfold endL; split <;> simp
        replace HE := Lib.hid HE
        rw [hp] at HC HE
        go_wp2_with fail
        refine (HC.out).mono ?_
        rintro e w3 ⟨rfl, H3, B3, g3⟩
        have bx3 := g3.fr.bx SW.box SW.pH
        have e0 := bx3.cell 0
        have e1 := bx3.cell 1
        clear y0 y1 c0 c1' q0 q1 HC
        go_wp2_with fail
        refine (HE.out _ _ B3).mono ?_
        rintro e w4 ⟨rfl, H4, B4, g4⟩
        rw [← hp] at B4
        have S4 := SW.step (g3.trans g4) B4 fun q hq => sinv_end (SW.inv q hq) x 2 (by decide)
        clear B3 g3 g4 bx3 e0 e1 SW HE
        go_wp2_with fail
        go_roundw
        case rel => exact ⟨i + 1, N, _, _, A1, A2, c1, c2, L, by omega, by omega, by omega, by omega, HNL.out, HOW.out, by go_num, S4⟩
        case measure => simp [intOf]; omega
      · have t2 : ((d : Int) == 2) = false := beq_eq_false_iff_ne.2 (by omega)
        by_cases hd3 : d = 3
        · subst hd3
          have HE : ∀ W H1, Ha w.heap.size w W g r 1 S (endL 1 S x 2) H1 → Calls Try.prog 16 #[.pointer (some ⟨r, 0, none⟩), .int .u64 (x : Int), .int .i64 2] W fun e w' => e = .returned (.int .i64 (endE 1 S x)) ∧ ∃ H', Bo w.heap.size w w' g r 1 (endL 1 S x 2) H' ∧ Chg H1 H' W w' := fun W H1 hh => by
            have := ha_end x 2 hh (by omega)
            rw [show ((2 : Nat) : Int) = 2 from rfl] at this
            exact this
          have HC := Lib.hid (bo_commit x SW.bo (by omega))
          have hel : (endL 1 S x 2).length = S.length := by unfold endL; split <;> simp
          replace HE := Lib.hid HE
          rw [hp] at HC HE
          go_wp2_with fail
          refine (HC.out).mono ?_
          rintro e w3 ⟨rfl, H3, B3, g3⟩
          have bx3 := g3.fr.bx SW.box SW.pH
          have e0 := bx3.cell 0
          have e1 := bx3.cell 1
          clear y0 y1 c0 c1' q0 q1 HC
          go_wp2_with fail
          refine (HE.out _ _ B3).mono ?_
          rintro e w4 ⟨rfl, H4, B4, g4⟩
          rw [← hp] at B4
          have S4 := SW.step (g3.trans g4) B4 fun q hq => sinv_end (SW.inv q hq) x 2 (by decide)
          clear B3 g3 g4 bx3 e0 e1 SW HE
          go_wp2_with fail
          go_roundw
          case rel => exact ⟨i + 1, N, _, _, A1, A2, c1, c2, L, by omega, by omega, by omega, by omega, HNL.out, HOW.out, by go_num, S4⟩
          case measure => simp [intOf]; omega
        · have t3 : ((d : Int) == 3) = false := beq_eq_false_iff_ne.2 (by omega)
          by_cases hd4 : d = 4
          · subst hd4
            have HE : ∀ W H1, Ha w.heap.size w W g r 1 S (endL 1 S x 3) H1 → Calls Try.prog 16 #[.pointer (some ⟨r, 0, none⟩), .int .u64 (x : Int), .int .i64 3] W fun e w' => e = .returned (.int .i64 (endE 1 S x)) ∧ ∃ H', Bo w.heap.size w w' g r 1 (endL 1 S x 3) H' ∧ Chg H1 H' W w' := fun W H1 hh => by
              have := ha_end x 3 hh (by omega)
              rw [show ((3 : Nat) : Int) = 3 from rfl] at this
              exact this
            have HC := Lib.hid (bo_abort x SW.bo (by omega))
            have hel : (endL 1 S x 3).length = S.length := by unfold endL; split <;> simp
            replace HE := Lib.hid HE
            rw [hp] at HC HE
            go_wp2_with fail
            refine (HC.out).mono ?_
            rintro e w3 ⟨rfl, H3, B3, g3⟩
            have bx3 := g3.fr.bx SW.box SW.pH
            have e0 := bx3.cell 0
            have e1 := bx3.cell 1
            clear y0 y1 c0 c1' q0 q1 HC
            go_wp2_with fail
            refine (HE.out _ _ B3).mono ?_
            rintro e w4 ⟨rfl, H4, B4, g4⟩
            rw [← hp] at B4
            have S4 := SW.step (g3.trans g4) B4 fun q hq => sinv_end (SW.inv q hq) x 3 (by decide)
            clear B3 g3 g4 bx3 e0 e1 SW HE
            go_wp2_with fail
            go_roundw
            case rel => exact ⟨i + 1, N, _, _, A1, A2, c1, c2, L, by omega, by omega, by omega, by omega, HNL.out, HOW.out, by go_num, S4⟩
            case measure => simp [intOf]; omega
          · have t4 : ((d : Int) == 4) = false := beq_eq_false_iff_ne.2 (by omega)
            by_cases h56 : d = 5 ∨ d = 6
            · have SW0 := Lib.hid SW
              go_upto_if 83 with fail
              go_cut [83] (fun s83 wx => s83 = .bool true ∧ wx = wr.alloc (.cells #[.int .u8 (o.do_ : Int), .int .u64 (o.xid : Int)] 89))
              case first =>
                rcases h56 with rfl | rfl
                · go_wp2_with fail
                  go_meet
                  exact ⟨rfl, rfl⟩
                · go_wp2_with fail
                  go_meet
                  exact ⟨rfl, rfl⟩
              case rest =>
                obtain ⟨rfl, rfl⟩ := hcut
                obtain ⟨Q, hQ⟩ : ∃ Q, Q = others (runs 1 S) x := ⟨_, rfl⟩
                obtain ⟨nx, hnx⟩ : ∃ nx, nx = 1 + S.length := ⟨_, rfl⟩
                obtain ⟨lm, hlm⟩ : ∃ lm, lm = least Q nx := ⟨_, rfl⟩
                have HTK : ∀ W', Py w W' p g r S H (.slice A1 N c1) (.slice A2 N c2) L → Calls Try.prog 40 #[.pointer (some ⟨g, 0, none⟩), .int .u64 (x : Int)] W' fun e w' => ∃ A c, e = .returned (.agg #[.int .u64 (x : Int), .int .u64 (lm : Int), .int .u64 (nx : Int), .slice A Q.length c]) ∧ w'.ownsRow W'.heap.size 22 1 (.slice A Q.length c) Q.length (ucells .u64 Q) ∧ Below W'.heap.size W' w' := fun W' hW => by
                  refine (bo_take (own := x) hW.bo).mono ?_
                  rintro e w' ⟨v, rfl, ho, hb⟩
                  obtain ⟨A, c, hv, _, _, _⟩ := own_form ho
                  subst hv
                  rw [← hQ] at ho ⊢
                  rw [← hnx, ← hlm]
                  exact ⟨A, c, rfl, ho, hb⟩
                have HRT : ∀ W', Py w W' p g r S H (.slice A1 N c1) (.slice A2 N c2) L → Calls Try.prog 43 #[.pointer (some ⟨r, 0, none⟩), .int .u64 (x : Int)] W' fun e w' => ∃ A c, e = .returned (.agg #[.int .u64 (x : Int), .int .u64 (nx : Int), .slice A Q.length c]) ∧ w'.ownsRow W'.heap.size 22 1 (.slice A Q.length c) Q.length (ucells .u64 Q) ∧ Below W'.heap.size W' w' := fun W' hW => by
                  refine (bo_rtake (own := x) hW.bo).mono ?_
                  rintro e w' ⟨v, rfl, ho, hb⟩
                  obtain ⟨A, c, hv, _, _, _⟩ := own_form ho
                  subst hv
                  rw [← hQ] at ho ⊢
                  rw [← hnx]
                  exact ⟨A, c, rfl, ho, hb⟩
                have HPC : ∀ W', Py w W' p g r S H (.slice A1 N c1) (.slice A2 N c2) L → W'.cell? ⟨p, 0, none⟩ = some (.pointer (some ⟨g, 0, none⟩)) ∧ W'.cell? ⟨p, 1, none⟩ = some (.pointer (some ⟨r, 0, none⟩)) := fun W' hW => ⟨hW.box.cell 0, hW.box.cell 1⟩
                have HQ := Lib.hid hQ
                have HX := Lib.hid hnx
                have HLM := Lib.hid hlm
                clear hQ hnx hlm
                go_upto_region 21 with fail
                generalize wr.alloc (.cells #[.int .u8 (o.do_ : Int), .int .u64 (o.xid : Int)] 89) = W at *
                go_cut [10, 11] (fun s10 s11 wx => ∃ (t u : Nat) (A4 A5 : Option Addr) (k4 k5 : Nat), s10 = .pointer (some ⟨t, 0, none⟩) ∧ s11 = .pointer (some ⟨u, 0, none⟩) ∧ Tk W wx t u [.int .u64 (x : Int), .int .u64 (lm : Int), .int .u64 (nx : Int), .slice A4 Q.length k4] [.int .u64 (x : Int), .int .u64 (nx : Int), .slice A5 Q.length k5] A4 A5 k4 k5 Q)
                case first =>
                  have hpW : p < W.heap.size := SW.box.lt
                  have x0 : Below W.heap.size W (W).drew := (Below.refl _ _).next (below_n _ 1)
                  have s0 := SW.below x0
                  have t0 := Lib.hid (HTK _ s0)
                  have x0a : Below W.heap.size W ((W).alloc (.cells #[.int .u64 0, .int .u64 0, .int .u64 0, .slice none 0 0] 76)).drew := ((Below.refl _ _).al (.cells #[.int .u64 0, .int .u64 0, .int .u64 0, .slice none 0 0] 76)).next (below_n _ 1)
                  have s0a := SW.below x0a
                  have t0a := Lib.hid (HTK _ s0a)
                  have f0aa : Bx ((W).alloc (.cells #[.int .u64 0, .int .u64 0, .int .u64 0, .slice none 0 0] 76)).drew W.heap.size 76 [.int .u64 0, .int .u64 0, .int .u64 0, .slice none 0 0] := ((Bx.new (W) 76 #[.int .u64 0, .int .u64 0, .int .u64 0, .slice none 0 0] [.int .u64 0, .int .u64 0, .int .u64 0, .slice none 0 0] rfl).below ((Below.refl _ _).next (below_n _ 1)))
                  have x0b : Below W.heap.size W ((W).alloc (.cells #[.int .u64 0, .int .u64 0, .slice none 0 0] 80)).drew := ((Below.refl _ _).al (.cells #[.int .u64 0, .int .u64 0, .slice none 0 0] 80)).next (below_n _ 1)
                  have s0b := SW.below x0b
                  have t0b := Lib.hid (HTK _ s0b)
                  have f0bb : Bx ((W).alloc (.cells #[.int .u64 0, .int .u64 0, .slice none 0 0] 80)).drew W.heap.size 80 [.int .u64 0, .int .u64 0, .slice none 0 0] := ((Bx.new (W) 80 #[.int .u64 0, .int .u64 0, .slice none 0 0] [.int .u64 0, .int .u64 0, .slice none 0 0] rfl).below ((Below.refl _ _).next (below_n _ 1)))
                  have x0ab : Below W.heap.size W (((W).alloc (.cells #[.int .u64 0, .int .u64 0, .int .u64 0, .slice none 0 0] 76)).alloc (.cells #[.int .u64 0, .int .u64 0, .slice none 0 0] 80)).drew := (((Below.refl _ _).al (.cells #[.int .u64 0, .int .u64 0, .int .u64 0, .slice none 0 0] 76)).al (.cells #[.int .u64 0, .int .u64 0, .slice none 0 0] 80)).next (below_n _ 1)
                  have s0ab := SW.below x0ab
                  have t0ab := Lib.hid (HTK _ s0ab)
                  have f0aba : Bx (((W).alloc (.cells #[.int .u64 0, .int .u64 0, .int .u64 0, .slice none 0 0] 76)).alloc (.cells #[.int .u64 0, .int .u64 0, .slice none 0 0] 80)).drew W.heap.size 76 [.int .u64 0, .int .u64 0, .int .u64 0, .slice none 0 0] := ((Bx.new (W) 76 #[.int .u64 0, .int .u64 0, .int .u64 0, .slice none 0 0] [.int .u64 0, .int .u64 0, .int .u64 0, .slice none 0 0] rfl).below (((Below.refl _ _).al (.cells #[.int .u64 0, .int .u64 0, .slice none 0 0] 80)).next (below_n _ 1)))
                  have f0abb : Bx (((W).alloc (.cells #[.int .u64 0, .int .u64 0, .int .u64 0, .slice none 0 0] 76)).alloc (.cells #[.int .u64 0, .int .u64 0, .slice none 0 0] 80)).drew (W.heap.size + 1) 80 [.int .u64 0, .int .u64 0, .slice none 0 0] := (by have h := ((Bx.new ((W).alloc (.cells #[.int .u64 0, .int .u64 0, .int .u64 0, .slice none 0 0] 76)) 80 #[.int .u64 0, .int .u64 0, .slice none 0 0] [.int .u64 0, .int .u64 0, .slice none 0 0] rfl).below ((Below.refl _ _).next (below_n _ 1))); rw [show ((W.alloc (.cells #[.int .u64 0, .int .u64 0, .int .u64 0, .slice none 0 0] 76)).heap.size) = W.heap.size + 1 by simp] at h; exact h)
                  have x0ba : Below W.heap.size W (((W).alloc (.cells #[.int .u64 0, .int .u64 0, .slice none 0 0] 80)).alloc (.cells #[.int .u64 0, .int .u64 0, .int .u64 0, .slice none 0 0] 76)).drew := (((Below.refl _ _).al (.cells #[.int .u64 0, .int .u64 0, .slice none 0 0] 80)).al (.cells #[.int .u64 0, .int .u64 0, .int .u64 0, .slice none 0 0] 76)).next (below_n _ 1)
                  have s0ba := SW.below x0ba
                  have t0ba := Lib.hid (HTK _ s0ba)
                  have f0bab : Bx (((W).alloc (.cells #[.int .u64 0, .int .u64 0, .slice none 0 0] 80)).alloc (.cells #[.int .u64 0, .int .u64 0, .int .u64 0, .slice none 0 0] 76)).drew W.heap.size 80 [.int .u64 0, .int .u64 0, .slice none 0 0] := ((Bx.new (W) 80 #[.int .u64 0, .int .u64 0, .slice none 0 0] [.int .u64 0, .int .u64 0, .slice none 0 0] rfl).below (((Below.refl _ _).al (.cells #[.int .u64 0, .int .u64 0, .int .u64 0, .slice none 0 0] 76)).next (below_n _ 1)))
                  have f0baa : Bx (((W).alloc (.cells #[.int .u64 0, .int .u64 0, .slice none 0 0] 80)).alloc (.cells #[.int .u64 0, .int .u64 0, .int .u64 0, .slice none 0 0] 76)).drew (W.heap.size + 1) 76 [.int .u64 0, .int .u64 0, .int .u64 0, .slice none 0 0] := (by have h := ((Bx.new ((W).alloc (.cells #[.int .u64 0, .int .u64 0, .slice none 0 0] 80)) 76 #[.int .u64 0, .int .u64 0, .int .u64 0, .slice none 0 0] [.int .u64 0, .int .u64 0, .int .u64 0, .slice none 0 0] rfl).below ((Below.refl _ _).next (below_n _ 1))); rw [show ((W.alloc (.cells #[.int .u64 0, .int .u64 0, .slice none 0 0] 80)).heap.size) = W.heap.size + 1 by simp] at h; exact h)
                  go_region_held3 (fun w' => w'.cell? ⟨p, 0, none⟩ = some (.pointer (some ⟨g, 0, none⟩)) ∧ w'.cell? ⟨p, 1, none⟩ = some (.pointer (some ⟨r, 0, none⟩))) (first | (with_reducible assumption) | (with_reducible exact HPC _ s0) | (with_reducible exact HPC _ s0a) | (with_reducible exact HPC _ s0b) | (with_reducible exact HPC _ s0ab) | (with_reducible exact HPC _ s0ba) | (with_reducible exact ⟨ts_cell _ (And.left (by assumption)), ts_cell1 _ (And.right (by assumption))⟩) | (with_reducible exact ⟨ts_cell _ (ts_cell _ (And.left (by assumption))), ts_cell1 _ (ts_cell1 _ (And.right (by assumption)))⟩) | (with_reducible refine ⟨cell_set4 ?_ (And.left (by assumption)), cell_set4 ?_ (And.right (by assumption))⟩ <;> first | omega | (simp; omega)) | (with_reducible refine ⟨ts_cell _ (cell_set4 ?_ (And.left (by assumption))), ts_cell1 _ (cell_set4 ?_ (And.right (by assumption)))⟩ <;> first | omega | (simp; omega)) | (with_reducible refine ⟨cell_set3 ?_ (And.left (by assumption)), cell_set3 ?_ (And.right (by assumption))⟩ <;> first | omega | (simp; omega)))
                    (first
                    | (have hX := X4ab; go_at_call 43; (with_reducible refine (HRT (w4) (s4.below (Below.refl _ _))).mono ?_); rintro e w5 ⟨A5, k5, rfl, o5, hb5⟩; have x5 := (x4.next (Below.refl _ _)).next hb5; have s5 := (s4.below (Below.refl _ _)).below hb5; have o45 := own_below (own_below o4 (Below.refl _ _)) hb5; have hS5 := HPC w5 s5; have m4 := x4.size; have m5 : w4.heap.size + 0 ≤ w5.heap.size := (by have h := hb5.size; simpa using h); have l4a := f4a.lt; have f5a := (f4a.below (Below.refl _ _)).below hb5; have l4b := f4b.lt; have f5b := (f4b.below (Below.refl _ _)).below hb5; have l5a := f5a.lt; have ka0 := f5a.cell 0; have za0 := f5a.frozen 0; have ka1 := f5a.cell 1; have za1 := f5a.frozen 1; have ka2 := f5a.cell 2; have za2 := f5a.frozen 2; have ka3 := f5a.cell 3; have za3 := f5a.frozen 3; have l5b := f5b.lt; have hne : (W.heap.size + 1) ≠ W.heap.size := (by omega); have fnb := (Bx.oth (Bx.oth (Bx.oth (Bx.oth f5b ⟨W.heap.size, 0, none⟩ (.int .u64 (x : Int)) hne) ⟨W.heap.size, 1, none⟩ (.int .u64 (lm : Int)) hne) ⟨W.heap.size, 2, none⟩ (.int .u64 (nx : Int)) hne) ⟨W.heap.size, 3, none⟩ (.slice A4 Q.length k4) hne); have kn0 := fnb.cell 0; have zn0 := fnb.frozen 0; have kn1 := fnb.cell 1; have zn1 := fnb.frozen 1; have kn2 := fnb.cell 2; have zn2 := fnb.frozen 2; have hna : p ≠ W.heap.size := (by omega); have hnb : p ≠ (W.heap.size + 1) := (by omega); have hS6 : World.cell? (World.setCell (World.setCell (World.setCell (World.setCell w5 ⟨W.heap.size, 0, none⟩ (.int .u64 (x : Int))) ⟨W.heap.size, 1, none⟩ (.int .u64 (lm : Int))) ⟨W.heap.size, 2, none⟩ (.int .u64 (nx : Int))) ⟨W.heap.size, 3, none⟩ (.slice A4 Q.length k4)) ⟨p, 0, none⟩ = some (.pointer (some ⟨g, 0, none⟩)) ∧ World.cell? (World.setCell (World.setCell (World.setCell (World.setCell w5 ⟨W.heap.size, 0, none⟩ (.int .u64 (x : Int))) ⟨W.heap.size, 1, none⟩ (.int .u64 (lm : Int))) ⟨W.heap.size, 2, none⟩ (.int .u64 (nx : Int))) ⟨W.heap.size, 3, none⟩ (.slice A4 Q.length k4)) ⟨p, 1, none⟩ = some (.pointer (some ⟨r, 0, none⟩)) := (by have hb := (Bx.oth (Bx.oth (Bx.oth (Bx.oth s5.box ⟨W.heap.size, 0, none⟩ (.int .u64 (x : Int)) hna) ⟨W.heap.size, 1, none⟩ (.int .u64 (lm : Int)) hna) ⟨W.heap.size, 2, none⟩ (.int .u64 (nx : Int)) hna) ⟨W.heap.size, 3, none⟩ (.slice A4 Q.length k4) hna); exact ⟨hb.cell 0, hb.cell 1⟩); have hS7 : World.cell? (World.setCell (World.setCell (World.setCell (World.setCell (World.setCell (World.setCell (World.setCell w5 ⟨W.heap.size, 0, none⟩ (.int .u64 (x : Int))) ⟨W.heap.size, 1, none⟩ (.int .u64 (lm : Int))) ⟨W.heap.size, 2, none⟩ (.int .u64 (nx : Int))) ⟨W.heap.size, 3, none⟩ (.slice A4 Q.length k4)) ⟨(W.heap.size + 1), 0, none⟩ (.int .u64 (x : Int))) ⟨(W.heap.size + 1), 1, none⟩ (.int .u64 (nx : Int))) ⟨(W.heap.size + 1), 2, none⟩ (.slice A5 Q.length k5)) ⟨p, 0, none⟩ = some (.pointer (some ⟨g, 0, none⟩)) ∧ World.cell? (World.setCell (World.setCell (World.setCell (World.setCell (World.setCell (World.setCell (World.setCell w5 ⟨W.heap.size, 0, none⟩ (.int .u64 (x : Int))) ⟨W.heap.size, 1, none⟩ (.int .u64 (lm : Int))) ⟨W.heap.size, 2, none⟩ (.int .u64 (nx : Int))) ⟨W.heap.size, 3, none⟩ (.slice A4 Q.length k4)) ⟨(W.heap.size + 1), 0, none⟩ (.int .u64 (x : Int))) ⟨(W.heap.size + 1), 1, none⟩ (.int .u64 (nx : Int))) ⟨(W.heap.size + 1), 2, none⟩ (.slice A5 Q.length k5)) ⟨p, 1, none⟩ = some (.pointer (some ⟨r, 0, none⟩)) := (by have hb := (Bx.oth (Bx.oth (Bx.oth (Bx.oth (Bx.oth (Bx.oth (Bx.oth s5.box ⟨W.heap.size, 0, none⟩ (.int .u64 (x : Int)) hna) ⟨W.heap.size, 1, none⟩ (.int .u64 (lm : Int)) hna) ⟨W.heap.size, 2, none⟩ (.int .u64 (nx : Int)) hna) ⟨W.heap.size, 3, none⟩ (.slice A4 Q.length k4) hna) ⟨(W.heap.size + 1), 0, none⟩ (.int .u64 (x : Int)) hnb) ⟨(W.heap.size + 1), 1, none⟩ (.int .u64 (nx : Int)) hnb) ⟨(W.heap.size + 1), 2, none⟩ (.slice A5 Q.length k5) hnb); exact ⟨hb.cell 0, hb.cell 1⟩); have m6 := x5.size)
                    | (have hX := X4ba; go_at_call 43; (with_reducible refine (HRT (w4) (s4.below (Below.refl _ _))).mono ?_); rintro e w5 ⟨A5, k5, rfl, o5, hb5⟩; have x5 := (x4.next (Below.refl _ _)).next hb5; have s5 := (s4.below (Below.refl _ _)).below hb5; have o45 := own_below (own_below o4 (Below.refl _ _)) hb5; have hS5 := HPC w5 s5; have m4 := x4.size; have m5 : w4.heap.size + 0 ≤ w5.heap.size := (by have h := hb5.size; simpa using h); have l4b := f4b.lt; have f5b := (f4b.below (Below.refl _ _)).below hb5; have l4a := f4a.lt; have f5a := (f4a.below (Below.refl _ _)).below hb5; have l5b := f5b.lt; have l5a := f5a.lt; have ka0 := f5a.cell 0; have za0 := f5a.frozen 0; have ka1 := f5a.cell 1; have za1 := f5a.frozen 1; have ka2 := f5a.cell 2; have za2 := f5a.frozen 2; have ka3 := f5a.cell 3; have za3 := f5a.frozen 3; have hne : W.heap.size ≠ (W.heap.size + 1) := (by omega); have fnb := (Bx.oth (Bx.oth (Bx.oth (Bx.oth f5b ⟨(W.heap.size + 1), 0, none⟩ (.int .u64 (x : Int)) hne) ⟨(W.heap.size + 1), 1, none⟩ (.int .u64 (lm : Int)) hne) ⟨(W.heap.size + 1), 2, none⟩ (.int .u64 (nx : Int)) hne) ⟨(W.heap.size + 1), 3, none⟩ (.slice A4 Q.length k4) hne); have kn0 := fnb.cell 0; have zn0 := fnb.frozen 0; have kn1 := fnb.cell 1; have zn1 := fnb.frozen 1; have kn2 := fnb.cell 2; have zn2 := fnb.frozen 2; have hna : p ≠ (W.heap.size + 1) := (by omega); have hnb : p ≠ W.heap.size := (by omega); have hS6 : World.cell? (World.setCell (World.setCell (World.setCell (World.setCell w5 ⟨(W.heap.size + 1), 0, none⟩ (.int .u64 (x : Int))) ⟨(W.heap.size + 1), 1, none⟩ (.int .u64 (lm : Int))) ⟨(W.heap.size + 1), 2, none⟩ (.int .u64 (nx : Int))) ⟨(W.heap.size + 1), 3, none⟩ (.slice A4 Q.length k4)) ⟨p, 0, none⟩ = some (.pointer (some ⟨g, 0, none⟩)) ∧ World.cell? (World.setCell (World.setCell (World.setCell (World.setCell w5 ⟨(W.heap.size + 1), 0, none⟩ (.int .u64 (x : Int))) ⟨(W.heap.size + 1), 1, none⟩ (.int .u64 (lm : Int))) ⟨(W.heap.size + 1), 2, none⟩ (.int .u64 (nx : Int))) ⟨(W.heap.size + 1), 3, none⟩ (.slice A4 Q.length k4)) ⟨p, 1, none⟩ = some (.pointer (some ⟨r, 0, none⟩)) := (by have hb := (Bx.oth (Bx.oth (Bx.oth (Bx.oth s5.box ⟨(W.heap.size + 1), 0, none⟩ (.int .u64 (x : Int)) hna) ⟨(W.heap.size + 1), 1, none⟩ (.int .u64 (lm : Int)) hna) ⟨(W.heap.size + 1), 2, none⟩ (.int .u64 (nx : Int)) hna) ⟨(W.heap.size + 1), 3, none⟩ (.slice A4 Q.length k4) hna); exact ⟨hb.cell 0, hb.cell 1⟩); have hS7 : World.cell? (World.setCell (World.setCell (World.setCell (World.setCell (World.setCell (World.setCell (World.setCell w5 ⟨(W.heap.size + 1), 0, none⟩ (.int .u64 (x : Int))) ⟨(W.heap.size + 1), 1, none⟩ (.int .u64 (lm : Int))) ⟨(W.heap.size + 1), 2, none⟩ (.int .u64 (nx : Int))) ⟨(W.heap.size + 1), 3, none⟩ (.slice A4 Q.length k4)) ⟨W.heap.size, 0, none⟩ (.int .u64 (x : Int))) ⟨W.heap.size, 1, none⟩ (.int .u64 (nx : Int))) ⟨W.heap.size, 2, none⟩ (.slice A5 Q.length k5)) ⟨p, 0, none⟩ = some (.pointer (some ⟨g, 0, none⟩)) ∧ World.cell? (World.setCell (World.setCell (World.setCell (World.setCell (World.setCell (World.setCell (World.setCell w5 ⟨(W.heap.size + 1), 0, none⟩ (.int .u64 (x : Int))) ⟨(W.heap.size + 1), 1, none⟩ (.int .u64 (lm : Int))) ⟨(W.heap.size + 1), 2, none⟩ (.int .u64 (nx : Int))) ⟨(W.heap.size + 1), 3, none⟩ (.slice A4 Q.length k4)) ⟨W.heap.size, 0, none⟩ (.int .u64 (x : Int))) ⟨W.heap.size, 1, none⟩ (.int .u64 (nx : Int))) ⟨W.heap.size, 2, none⟩ (.slice A5 Q.length k5)) ⟨p, 1, none⟩ = some (.pointer (some ⟨r, 0, none⟩)) := (by have hb := (Bx.oth (Bx.oth (Bx.oth (Bx.oth (Bx.oth (Bx.oth (Bx.oth s5.box ⟨(W.heap.size + 1), 0, none⟩ (.int .u64 (x : Int)) hna) ⟨(W.heap.size + 1), 1, none⟩ (.int .u64 (lm : Int)) hna) ⟨(W.heap.size + 1), 2, none⟩ (.int .u64 (nx : Int)) hna) ⟨(W.heap.size + 1), 3, none⟩ (.slice A4 Q.length k4) hna) ⟨W.heap.size, 0, none⟩ (.int .u64 (x : Int)) hnb) ⟨W.heap.size, 1, none⟩ (.int .u64 (nx : Int)) hnb) ⟨W.heap.size, 2, none⟩ (.slice A5 Q.length k5) hnb); exact ⟨hb.cell 0, hb.cell 1⟩); have m6 := x5.size)
                    | (have hX := X4a; go_at_call 43; (with_reducible refine (HRT (w4) (s4.below (Below.refl _ _))).mono ?_); rintro e w5 ⟨A5, k5, rfl, o5, hb5⟩; have x5 := (x4.next (Below.refl _ _)).next hb5; have s5 := (s4.below (Below.refl _ _)).below hb5; have o45 := own_below (own_below o4 (Below.refl _ _)) hb5; have hS5 := HPC w5 s5; have m4 := x4.size; have m5 : w4.heap.size + 0 ≤ w5.heap.size := (by have h := hb5.size; simpa using h); have l4a := f4a.lt; have f5a := (f4a.below (Below.refl _ _)).below hb5; have l5a := f5a.lt; have ka0 := f5a.cell 0; have za0 := f5a.frozen 0; have ka1 := f5a.cell 1; have za1 := f5a.frozen 1; have ka2 := f5a.cell 2; have za2 := f5a.frozen 2; have ka3 := f5a.cell 3; have za3 := f5a.frozen 3; have fpa := f5a.alloc (.cells #[.int .u64 0, .int .u64 0, .slice none 0 0] 80); have kp0 := fpa.cell 0; have zp0 := fpa.frozen 0; have kp1 := fpa.cell 1; have zp1 := fpa.frozen 1; have kp2 := fpa.cell 2; have zp2 := fpa.frozen 2; have kp3 := fpa.cell 3; have zp3 := fpa.frozen 3; have hne : w5.heap.size ≠ W.heap.size := (by omega); have fnb := (Bx.oth (Bx.oth (Bx.oth (Bx.oth (Bx.new w5 80 #[.int .u64 0, .int .u64 0, .slice none 0 0] [.int .u64 0, .int .u64 0, .slice none 0 0] rfl) ⟨W.heap.size, 0, none⟩ (.int .u64 (x : Int)) hne) ⟨W.heap.size, 1, none⟩ (.int .u64 (lm : Int)) hne) ⟨W.heap.size, 2, none⟩ (.int .u64 (nx : Int)) hne) ⟨W.heap.size, 3, none⟩ (.slice A4 Q.length k4) hne); have kn0 := fnb.cell 0; have zn0 := fnb.frozen 0; have kn1 := fnb.cell 1; have zn1 := fnb.frozen 1; have kn2 := fnb.cell 2; have zn2 := fnb.frozen 2; have m6 := x5.size)
                    | (have hX := X4a; go_at_call 43; (with_reducible refine (HRT ((w4).alloc (.cells #[.int .u64 0, .int .u64 0, .slice none 0 0] 80)) (s4.below ((Below.refl _ _).al (.cells #[.int .u64 0, .int .u64 0, .slice none 0 0] 80)))).mono ?_); rintro e w5 ⟨A5, k5, rfl, o5, hb5⟩; have x5 := (x4.next ((Below.refl _ _).al (.cells #[.int .u64 0, .int .u64 0, .slice none 0 0] 80))).next hb5; have s5 := (s4.below ((Below.refl _ _).al (.cells #[.int .u64 0, .int .u64 0, .slice none 0 0] 80))).below hb5; have o45 := own_below (own_below o4 ((Below.refl _ _).al (.cells #[.int .u64 0, .int .u64 0, .slice none 0 0] 80))) hb5; have hS5 := HPC w5 s5; have m4 := x4.size; have m5 : w4.heap.size + 1 ≤ w5.heap.size := (by have h := hb5.size; simpa using h); have l4a := f4a.lt; have f5a := (f4a.below ((Below.refl _ _).al (.cells #[.int .u64 0, .int .u64 0, .slice none 0 0] 80))).below hb5; have f5b := ((Bx.new (w4) 80 #[.int .u64 0, .int .u64 0, .slice none 0 0] [.int .u64 0, .int .u64 0, .slice none 0 0] rfl).below (Below.refl _ _)).below hb5; have l5a := f5a.lt; have ka0 := f5a.cell 0; have za0 := f5a.frozen 0; have ka1 := f5a.cell 1; have za1 := f5a.frozen 1; have ka2 := f5a.cell 2; have za2 := f5a.frozen 2; have ka3 := f5a.cell 3; have za3 := f5a.frozen 3; have l5b := f5b.lt; have hne : w4.heap.size ≠ W.heap.size := (by omega); have fnb := (Bx.oth (Bx.oth (Bx.oth (Bx.oth f5b ⟨W.heap.size, 0, none⟩ (.int .u64 (x : Int)) hne) ⟨W.heap.size, 1, none⟩ (.int .u64 (lm : Int)) hne) ⟨W.heap.size, 2, none⟩ (.int .u64 (nx : Int)) hne) ⟨W.heap.size, 3, none⟩ (.slice A4 Q.length k4) hne); have kn0 := fnb.cell 0; have zn0 := fnb.frozen 0; have kn1 := fnb.cell 1; have zn1 := fnb.frozen 1; have kn2 := fnb.cell 2; have zn2 := fnb.frozen 2; have hna : p ≠ W.heap.size := (by omega); have hnb : p ≠ w4.heap.size := (by omega); have hS6 : World.cell? (World.setCell (World.setCell (World.setCell (World.setCell w5 ⟨W.heap.size, 0, none⟩ (.int .u64 (x : Int))) ⟨W.heap.size, 1, none⟩ (.int .u64 (lm : Int))) ⟨W.heap.size, 2, none⟩ (.int .u64 (nx : Int))) ⟨W.heap.size, 3, none⟩ (.slice A4 Q.length k4)) ⟨p, 0, none⟩ = some (.pointer (some ⟨g, 0, none⟩)) ∧ World.cell? (World.setCell (World.setCell (World.setCell (World.setCell w5 ⟨W.heap.size, 0, none⟩ (.int .u64 (x : Int))) ⟨W.heap.size, 1, none⟩ (.int .u64 (lm : Int))) ⟨W.heap.size, 2, none⟩ (.int .u64 (nx : Int))) ⟨W.heap.size, 3, none⟩ (.slice A4 Q.length k4)) ⟨p, 1, none⟩ = some (.pointer (some ⟨r, 0, none⟩)) := (by have hb := (Bx.oth (Bx.oth (Bx.oth (Bx.oth s5.box ⟨W.heap.size, 0, none⟩ (.int .u64 (x : Int)) hna) ⟨W.heap.size, 1, none⟩ (.int .u64 (lm : Int)) hna) ⟨W.heap.size, 2, none⟩ (.int .u64 (nx : Int)) hna) ⟨W.heap.size, 3, none⟩ (.slice A4 Q.length k4) hna); exact ⟨hb.cell 0, hb.cell 1⟩); have hS7 : World.cell? (World.setCell (World.setCell (World.setCell (World.setCell (World.setCell (World.setCell (World.setCell w5 ⟨W.heap.size, 0, none⟩ (.int .u64 (x : Int))) ⟨W.heap.size, 1, none⟩ (.int .u64 (lm : Int))) ⟨W.heap.size, 2, none⟩ (.int .u64 (nx : Int))) ⟨W.heap.size, 3, none⟩ (.slice A4 Q.length k4)) ⟨w4.heap.size, 0, none⟩ (.int .u64 (x : Int))) ⟨w4.heap.size, 1, none⟩ (.int .u64 (nx : Int))) ⟨w4.heap.size, 2, none⟩ (.slice A5 Q.length k5)) ⟨p, 0, none⟩ = some (.pointer (some ⟨g, 0, none⟩)) ∧ World.cell? (World.setCell (World.setCell (World.setCell (World.setCell (World.setCell (World.setCell (World.setCell w5 ⟨W.heap.size, 0, none⟩ (.int .u64 (x : Int))) ⟨W.heap.size, 1, none⟩ (.int .u64 (lm : Int))) ⟨W.heap.size, 2, none⟩ (.int .u64 (nx : Int))) ⟨W.heap.size, 3, none⟩ (.slice A4 Q.length k4)) ⟨w4.heap.size, 0, none⟩ (.int .u64 (x : Int))) ⟨w4.heap.size, 1, none⟩ (.int .u64 (nx : Int))) ⟨w4.heap.size, 2, none⟩ (.slice A5 Q.length k5)) ⟨p, 1, none⟩ = some (.pointer (some ⟨r, 0, none⟩)) := (by have hb := (Bx.oth (Bx.oth (Bx.oth (Bx.oth (Bx.oth (Bx.oth (Bx.oth s5.box ⟨W.heap.size, 0, none⟩ (.int .u64 (x : Int)) hna) ⟨W.heap.size, 1, none⟩ (.int .u64 (lm : Int)) hna) ⟨W.heap.size, 2, none⟩ (.int .u64 (nx : Int)) hna) ⟨W.heap.size, 3, none⟩ (.slice A4 Q.length k4) hna) ⟨w4.heap.size, 0, none⟩ (.int .u64 (x : Int)) hnb) ⟨w4.heap.size, 1, none⟩ (.int .u64 (nx : Int)) hnb) ⟨w4.heap.size, 2, none⟩ (.slice A5 Q.length k5) hnb); exact ⟨hb.cell 0, hb.cell 1⟩); have m6 := x5.size)
                    | (have hX := X4b; go_at_call 43; (with_reducible refine (HRT (w4) (s4.below (Below.refl _ _))).mono ?_); rintro e w5 ⟨A5, k5, rfl, o5, hb5⟩; have x5 := (x4.next (Below.refl _ _)).next hb5; have s5 := (s4.below (Below.refl _ _)).below hb5; have o45 := own_below (own_below o4 (Below.refl _ _)) hb5; have hS5 := HPC w5 s5; have m4 := x4.size; have m5 : w4.heap.size + 0 ≤ w5.heap.size := (by have h := hb5.size; simpa using h); have l4b := f4b.lt; have f5b := (f4b.below (Below.refl _ _)).below hb5; have l5b := f5b.lt; have kb0 := f5b.cell 0; have zb0 := f5b.frozen 0; have kb1 := f5b.cell 1; have zb1 := f5b.frozen 1; have kb2 := f5b.cell 2; have zb2 := f5b.frozen 2; have fqb := f5b.alloc (.cells #[.int .u64 (x : Int), .int .u64 (lm : Int), .int .u64 (nx : Int), .slice A4 Q.length k4] 76); have kq0 := fqb.cell 0; have zq0 := fqb.frozen 0; have kq1 := fqb.cell 1; have zq1 := fqb.frozen 1; have kq2 := fqb.cell 2; have zq2 := fqb.frozen 2; have hnb : p ≠ W.heap.size := (by omega); have hS7 : World.cell? (((World.setCell (World.setCell (World.setCell w5 ⟨W.heap.size, 0, none⟩ (.int .u64 (x : Int))) ⟨W.heap.size, 1, none⟩ (.int .u64 (nx : Int))) ⟨W.heap.size, 2, none⟩ (.slice A5 Q.length k5))).alloc (.cells #[.int .u64 (x : Int), .int .u64 (lm : Int), .int .u64 (nx : Int), .slice A4 Q.length k4] 76)) ⟨p, 0, none⟩ = some (.pointer (some ⟨g, 0, none⟩)) ∧ World.cell? (((World.setCell (World.setCell (World.setCell w5 ⟨W.heap.size, 0, none⟩ (.int .u64 (x : Int))) ⟨W.heap.size, 1, none⟩ (.int .u64 (nx : Int))) ⟨W.heap.size, 2, none⟩ (.slice A5 Q.length k5))).alloc (.cells #[.int .u64 (x : Int), .int .u64 (lm : Int), .int .u64 (nx : Int), .slice A4 Q.length k4] 76)) ⟨p, 1, none⟩ = some (.pointer (some ⟨r, 0, none⟩)) := (by have hb := (((Bx.oth (Bx.oth (Bx.oth s5.box ⟨W.heap.size, 0, none⟩ (.int .u64 (x : Int)) hnb) ⟨W.heap.size, 1, none⟩ (.int .u64 (nx : Int)) hnb) ⟨W.heap.size, 2, none⟩ (.slice A5 Q.length k5) hnb)).alloc (.cells #[.int .u64 (x : Int), .int .u64 (lm : Int), .int .u64 (nx : Int), .slice A4 Q.length k4] 76)); exact ⟨hb.cell 0, hb.cell 1⟩); have m6 := x5.size)
                    | (have hX := X4b; go_at_call 43; (with_reducible refine (HRT ((w4).alloc (.cells #[.int .u64 0, .int .u64 0, .int .u64 0, .slice none 0 0] 76)) (s4.below ((Below.refl _ _).al (.cells #[.int .u64 0, .int .u64 0, .int .u64 0, .slice none 0 0] 76)))).mono ?_); rintro e w5 ⟨A5, k5, rfl, o5, hb5⟩; have x5 := (x4.next ((Below.refl _ _).al (.cells #[.int .u64 0, .int .u64 0, .int .u64 0, .slice none 0 0] 76))).next hb5; have s5 := (s4.below ((Below.refl _ _).al (.cells #[.int .u64 0, .int .u64 0, .int .u64 0, .slice none 0 0] 76))).below hb5; have o45 := own_below (own_below o4 ((Below.refl _ _).al (.cells #[.int .u64 0, .int .u64 0, .int .u64 0, .slice none 0 0] 76))) hb5; have hS5 := HPC w5 s5; have m4 := x4.size; have m5 : w4.heap.size + 1 ≤ w5.heap.size := (by have h := hb5.size; simpa using h); have l4b := f4b.lt; have f5b := (f4b.below ((Below.refl _ _).al (.cells #[.int .u64 0, .int .u64 0, .int .u64 0, .slice none 0 0] 76))).below hb5; have f5a := ((Bx.new (w4) 76 #[.int .u64 0, .int .u64 0, .int .u64 0, .slice none 0 0] [.int .u64 0, .int .u64 0, .int .u64 0, .slice none 0 0] rfl).below (Below.refl _ _)).below hb5; have l5b := f5b.lt; have l5a := f5a.lt; have ka0 := f5a.cell 0; have za0 := f5a.frozen 0; have ka1 := f5a.cell 1; have za1 := f5a.frozen 1; have ka2 := f5a.cell 2; have za2 := f5a.frozen 2; have ka3 := f5a.cell 3; have za3 := f5a.frozen 3; have hne : W.heap.size ≠ w4.heap.size := (by omega); have fnb := (Bx.oth (Bx.oth (Bx.oth (Bx.oth f5b ⟨w4.heap.size, 0, none⟩ (.int .u64 (x : Int)) hne) ⟨w4.heap.size, 1, none⟩ (.int .u64 (lm : Int)) hne) ⟨w4.heap.size, 2, none⟩ (.int .u64 (nx : Int)) hne) ⟨w4.heap.size, 3, none⟩ (.slice A4 Q.length k4) hne); have kn0 := fnb.cell 0; have zn0 := fnb.frozen 0; have kn1 := fnb.cell 1; have zn1 := fnb.frozen 1; have kn2 := fnb.cell 2; have zn2 := fnb.frozen 2; have hna : p ≠ w4.heap.size := (by omega); have hnb : p ≠ W.heap.size := (by omega); have hS6 : World.cell? (World.setCell (World.setCell (World.setCell (World.setCell w5 ⟨w4.heap.size, 0, none⟩ (.int .u64 (x : Int))) ⟨w4.heap.size, 1, none⟩ (.int .u64 (lm : Int))) ⟨w4.heap.size, 2, none⟩ (.int .u64 (nx : Int))) ⟨w4.heap.size, 3, none⟩ (.slice A4 Q.length k4)) ⟨p, 0, none⟩ = some (.pointer (some ⟨g, 0, none⟩)) ∧ World.cell? (World.setCell (World.setCell (World.setCell (World.setCell w5 ⟨w4.heap.size, 0, none⟩ (.int .u64 (x : Int))) ⟨w4.heap.size, 1, none⟩ (.int .u64 (lm : Int))) ⟨w4.heap.size, 2, none⟩ (.int .u64 (nx : Int))) ⟨w4.heap.size, 3, none⟩ (.slice A4 Q.length k4)) ⟨p, 1, none⟩ = some (.pointer (some ⟨r, 0, none⟩)) := (by have hb := (Bx.oth (Bx.oth (Bx.oth (Bx.oth s5.box ⟨w4.heap.size, 0, none⟩ (.int .u64 (x : Int)) hna) ⟨w4.heap.size, 1, none⟩ (.int .u64 (lm : Int)) hna) ⟨w4.heap.size, 2, none⟩ (.int .u64 (nx : Int)) hna) ⟨w4.heap.size, 3, none⟩ (.slice A4 Q.length k4) hna); exact ⟨hb.cell 0, hb.cell 1⟩); have hS7 : World.cell? (World.setCell (World.setCell (World.setCell (World.setCell (World.setCell (World.setCell (World.setCell w5 ⟨w4.heap.size, 0, none⟩ (.int .u64 (x : Int))) ⟨w4.heap.size, 1, none⟩ (.int .u64 (lm : Int))) ⟨w4.heap.size, 2, none⟩ (.int .u64 (nx : Int))) ⟨w4.heap.size, 3, none⟩ (.slice A4 Q.length k4)) ⟨W.heap.size, 0, none⟩ (.int .u64 (x : Int))) ⟨W.heap.size, 1, none⟩ (.int .u64 (nx : Int))) ⟨W.heap.size, 2, none⟩ (.slice A5 Q.length k5)) ⟨p, 0, none⟩ = some (.pointer (some ⟨g, 0, none⟩)) ∧ World.cell? (World.setCell (World.setCell (World.setCell (World.setCell (World.setCell (World.setCell (World.setCell w5 ⟨w4.heap.size, 0, none⟩ (.int .u64 (x : Int))) ⟨w4.heap.size, 1, none⟩ (.int .u64 (lm : Int))) ⟨w4.heap.size, 2, none⟩ (.int .u64 (nx : Int))) ⟨w4.heap.size, 3, none⟩ (.slice A4 Q.length k4)) ⟨W.heap.size, 0, none⟩ (.int .u64 (x : Int))) ⟨W.heap.size, 1, none⟩ (.int .u64 (nx : Int))) ⟨W.heap.size, 2, none⟩ (.slice A5 Q.length k5)) ⟨p, 1, none⟩ = some (.pointer (some ⟨r, 0, none⟩)) := (by have hb := (Bx.oth (Bx.oth (Bx.oth (Bx.oth (Bx.oth (Bx.oth (Bx.oth s5.box ⟨w4.heap.size, 0, none⟩ (.int .u64 (x : Int)) hna) ⟨w4.heap.size, 1, none⟩ (.int .u64 (lm : Int)) hna) ⟨w4.heap.size, 2, none⟩ (.int .u64 (nx : Int)) hna) ⟨w4.heap.size, 3, none⟩ (.slice A4 Q.length k4) hna) ⟨W.heap.size, 0, none⟩ (.int .u64 (x : Int)) hnb) ⟨W.heap.size, 1, none⟩ (.int .u64 (nx : Int)) hnb) ⟨W.heap.size, 2, none⟩ (.slice A5 Q.length k5) hnb); exact ⟨hb.cell 0, hb.cell 1⟩); have m6 := x5.size)
                    | (have hX := X4; go_at_call 43; (with_reducible refine (HRT (w4) (s4.below (Below.refl _ _))).mono ?_); rintro e w5 ⟨A5, k5, rfl, o5, hb5⟩; have x5 := (x4.next (Below.refl _ _)).next hb5; have s5 := (s4.below (Below.refl _ _)).below hb5; have o45 := own_below (own_below o4 (Below.refl _ _)) hb5; have hS5 := HPC w5 s5; have m4 := x4.size; have m5 : w4.heap.size + 0 ≤ w5.heap.size := (by have h := hb5.size; simpa using h); have m6 := x5.size)
                    | (have hX := X4; go_at_call 43; (with_reducible refine (HRT ((w4).alloc (.cells #[.int .u64 0, .int .u64 0, .int .u64 0, .slice none 0 0] 76)) (s4.below ((Below.refl _ _).al (.cells #[.int .u64 0, .int .u64 0, .int .u64 0, .slice none 0 0] 76)))).mono ?_); rintro e w5 ⟨A5, k5, rfl, o5, hb5⟩; have x5 := (x4.next ((Below.refl _ _).al (.cells #[.int .u64 0, .int .u64 0, .int .u64 0, .slice none 0 0] 76))).next hb5; have s5 := (s4.below ((Below.refl _ _).al (.cells #[.int .u64 0, .int .u64 0, .int .u64 0, .slice none 0 0] 76))).below hb5; have o45 := own_below (own_below o4 ((Below.refl _ _).al (.cells #[.int .u64 0, .int .u64 0, .int .u64 0, .slice none 0 0] 76))) hb5; have hS5 := HPC w5 s5; have m4 := x4.size; have m5 : w4.heap.size + 1 ≤ w5.heap.size := (by have h := hb5.size; simpa using h); have f5a := ((Bx.new (w4) 76 #[.int .u64 0, .int .u64 0, .int .u64 0, .slice none 0 0] [.int .u64 0, .int .u64 0, .int .u64 0, .slice none 0 0] rfl).below (Below.refl _ _)).below hb5; have l5a := f5a.lt; have ka0 := f5a.cell 0; have za0 := f5a.frozen 0; have ka1 := f5a.cell 1; have za1 := f5a.frozen 1; have ka2 := f5a.cell 2; have za2 := f5a.frozen 2; have ka3 := f5a.cell 3; have za3 := f5a.frozen 3; have fpa := f5a.alloc (.cells #[.int .u64 0, .int .u64 0, .slice none 0 0] 80); have kp0 := fpa.cell 0; have zp0 := fpa.frozen 0; have kp1 := fpa.cell 1; have zp1 := fpa.frozen 1; have kp2 := fpa.cell 2; have zp2 := fpa.frozen 2; have kp3 := fpa.cell 3; have zp3 := fpa.frozen 3; have hne : w5.heap.size ≠ w4.heap.size := (by omega); have fnb := (Bx.oth (Bx.oth (Bx.oth (Bx.oth (Bx.new w5 80 #[.int .u64 0, .int .u64 0, .slice none 0 0] [.int .u64 0, .int .u64 0, .slice none 0 0] rfl) ⟨w4.heap.size, 0, none⟩ (.int .u64 (x : Int)) hne) ⟨w4.heap.size, 1, none⟩ (.int .u64 (lm : Int)) hne) ⟨w4.heap.size, 2, none⟩ (.int .u64 (nx : Int)) hne) ⟨w4.heap.size, 3, none⟩ (.slice A4 Q.length k4) hne); have kn0 := fnb.cell 0; have zn0 := fnb.frozen 0; have kn1 := fnb.cell 1; have zn1 := fnb.frozen 1; have kn2 := fnb.cell 2; have zn2 := fnb.frozen 2; have m6 := x5.size)
                    | (have hX := X4; go_at_call 43; (with_reducible refine (HRT ((w4).alloc (.cells #[.int .u64 0, .int .u64 0, .slice none 0 0] 80)) (s4.below ((Below.refl _ _).al (.cells #[.int .u64 0, .int .u64 0, .slice none 0 0] 80)))).mono ?_); rintro e w5 ⟨A5, k5, rfl, o5, hb5⟩; have x5 := (x4.next ((Below.refl _ _).al (.cells #[.int .u64 0, .int .u64 0, .slice none 0 0] 80))).next hb5; have s5 := (s4.below ((Below.refl _ _).al (.cells #[.int .u64 0, .int .u64 0, .slice none 0 0] 80))).below hb5; have o45 := own_below (own_below o4 ((Below.refl _ _).al (.cells #[.int .u64 0, .int .u64 0, .slice none 0 0] 80))) hb5; have hS5 := HPC w5 s5; have m4 := x4.size; have m5 : w4.heap.size + 1 ≤ w5.heap.size := (by have h := hb5.size; simpa using h); have f5b := ((Bx.new (w4) 80 #[.int .u64 0, .int .u64 0, .slice none 0 0] [.int .u64 0, .int .u64 0, .slice none 0 0] rfl).below (Below.refl _ _)).below hb5; have l5b := f5b.lt; have kb0 := f5b.cell 0; have zb0 := f5b.frozen 0; have kb1 := f5b.cell 1; have zb1 := f5b.frozen 1; have kb2 := f5b.cell 2; have zb2 := f5b.frozen 2; have fqb := f5b.alloc (.cells #[.int .u64 (x : Int), .int .u64 (lm : Int), .int .u64 (nx : Int), .slice A4 Q.length k4] 76); have kq0 := fqb.cell 0; have zq0 := fqb.frozen 0; have kq1 := fqb.cell 1; have zq1 := fqb.frozen 1; have kq2 := fqb.cell 2; have zq2 := fqb.frozen 2; have hnb : p ≠ w4.heap.size := (by omega); have hS7 : World.cell? (((World.setCell (World.setCell (World.setCell w5 ⟨w4.heap.size, 0, none⟩ (.int .u64 (x : Int))) ⟨w4.heap.size, 1, none⟩ (.int .u64 (nx : Int))) ⟨w4.heap.size, 2, none⟩ (.slice A5 Q.length k5))).alloc (.cells #[.int .u64 (x : Int), .int .u64 (lm : Int), .int .u64 (nx : Int), .slice A4 Q.length k4] 76)) ⟨p, 0, none⟩ = some (.pointer (some ⟨g, 0, none⟩)) ∧ World.cell? (((World.setCell (World.setCell (World.setCell w5 ⟨w4.heap.size, 0, none⟩ (.int .u64 (x : Int))) ⟨w4.heap.size, 1, none⟩ (.int .u64 (nx : Int))) ⟨w4.heap.size, 2, none⟩ (.slice A5 Q.length k5))).alloc (.cells #[.int .u64 (x : Int), .int .u64 (lm : Int), .int .u64 (nx : Int), .slice A4 Q.length k4] 76)) ⟨p, 1, none⟩ = some (.pointer (some ⟨r, 0, none⟩)) := (by have hb := (((Bx.oth (Bx.oth (Bx.oth s5.box ⟨w4.heap.size, 0, none⟩ (.int .u64 (x : Int)) hnb) ⟨w4.heap.size, 1, none⟩ (.int .u64 (nx : Int)) hnb) ⟨w4.heap.size, 2, none⟩ (.slice A5 Q.length k5) hnb)).alloc (.cells #[.int .u64 (x : Int), .int .u64 (lm : Int), .int .u64 (nx : Int), .slice A4 Q.length k4] 76)); exact ⟨hb.cell 0, hb.cell 1⟩); have m6 := x5.size)
                    | (have hX := X4; go_at_call 43; (with_reducible refine (HRT (((w4).alloc (.cells #[.int .u64 0, .int .u64 0, .int .u64 0, .slice none 0 0] 76)).alloc (.cells #[.int .u64 0, .int .u64 0, .slice none 0 0] 80)) (s4.below (((Below.refl _ _).al (.cells #[.int .u64 0, .int .u64 0, .int .u64 0, .slice none 0 0] 76)).al (.cells #[.int .u64 0, .int .u64 0, .slice none 0 0] 80)))).mono ?_); rintro e w5 ⟨A5, k5, rfl, o5, hb5⟩; have x5 := (x4.next (((Below.refl _ _).al (.cells #[.int .u64 0, .int .u64 0, .int .u64 0, .slice none 0 0] 76)).al (.cells #[.int .u64 0, .int .u64 0, .slice none 0 0] 80))).next hb5; have s5 := (s4.below (((Below.refl _ _).al (.cells #[.int .u64 0, .int .u64 0, .int .u64 0, .slice none 0 0] 76)).al (.cells #[.int .u64 0, .int .u64 0, .slice none 0 0] 80))).below hb5; have o45 := own_below (own_below o4 (((Below.refl _ _).al (.cells #[.int .u64 0, .int .u64 0, .int .u64 0, .slice none 0 0] 76)).al (.cells #[.int .u64 0, .int .u64 0, .slice none 0 0] 80))) hb5; have hS5 := HPC w5 s5; have m4 := x4.size; have m5 : w4.heap.size + 2 ≤ w5.heap.size := (by have h := hb5.size; simpa using h); have f5a := ((Bx.new (w4) 76 #[.int .u64 0, .int .u64 0, .int .u64 0, .slice none 0 0] [.int .u64 0, .int .u64 0, .int .u64 0, .slice none 0 0] rfl).below ((Below.refl _ _).al (.cells #[.int .u64 0, .int .u64 0, .slice none 0 0] 80))).below hb5; have f5b := (by have h := ((Bx.new ((w4).alloc (.cells #[.int .u64 0, .int .u64 0, .int .u64 0, .slice none 0 0] 76)) 80 #[.int .u64 0, .int .u64 0, .slice none 0 0] [.int .u64 0, .int .u64 0, .slice none 0 0] rfl).below (Below.refl _ _)).below hb5; rw [show ((w4).alloc (.cells #[.int .u64 0, .int .u64 0, .int .u64 0, .slice none 0 0] 76)).heap.size = w4.heap.size + 1 by simp] at h; exact h); have l5a := f5a.lt; have ka0 := f5a.cell 0; have za0 := f5a.frozen 0; have ka1 := f5a.cell 1; have za1 := f5a.frozen 1; have ka2 := f5a.cell 2; have za2 := f5a.frozen 2; have ka3 := f5a.cell 3; have za3 := f5a.frozen 3; have l5b := f5b.lt; have hne : (w4.heap.size + 1) ≠ w4.heap.size := (by omega); have fnb := (Bx.oth (Bx.oth (Bx.oth (Bx.oth f5b ⟨w4.heap.size, 0, none⟩ (.int .u64 (x : Int)) hne) ⟨w4.heap.size, 1, none⟩ (.int .u64 (lm : Int)) hne) ⟨w4.heap.size, 2, none⟩ (.int .u64 (nx : Int)) hne) ⟨w4.heap.size, 3, none⟩ (.slice A4 Q.length k4) hne); have kn0 := fnb.cell 0; have zn0 := fnb.frozen 0; have kn1 := fnb.cell 1; have zn1 := fnb.frozen 1; have kn2 := fnb.cell 2; have zn2 := fnb.frozen 2; have hna : p ≠ w4.heap.size := (by omega); have hnb : p ≠ (w4.heap.size + 1) := (by omega); have hS6 : World.cell? (World.setCell (World.setCell (World.setCell (World.setCell w5 ⟨w4.heap.size, 0, none⟩ (.int .u64 (x : Int))) ⟨w4.heap.size, 1, none⟩ (.int .u64 (lm : Int))) ⟨w4.heap.size, 2, none⟩ (.int .u64 (nx : Int))) ⟨w4.heap.size, 3, none⟩ (.slice A4 Q.length k4)) ⟨p, 0, none⟩ = some (.pointer (some ⟨g, 0, none⟩)) ∧ World.cell? (World.setCell (World.setCell (World.setCell (World.setCell w5 ⟨w4.heap.size, 0, none⟩ (.int .u64 (x : Int))) ⟨w4.heap.size, 1, none⟩ (.int .u64 (lm : Int))) ⟨w4.heap.size, 2, none⟩ (.int .u64 (nx : Int))) ⟨w4.heap.size, 3, none⟩ (.slice A4 Q.length k4)) ⟨p, 1, none⟩ = some (.pointer (some ⟨r, 0, none⟩)) := (by have hb := (Bx.oth (Bx.oth (Bx.oth (Bx.oth s5.box ⟨w4.heap.size, 0, none⟩ (.int .u64 (x : Int)) hna) ⟨w4.heap.size, 1, none⟩ (.int .u64 (lm : Int)) hna) ⟨w4.heap.size, 2, none⟩ (.int .u64 (nx : Int)) hna) ⟨w4.heap.size, 3, none⟩ (.slice A4 Q.length k4) hna); exact ⟨hb.cell 0, hb.cell 1⟩); have hS7 : World.cell? (World.setCell (World.setCell (World.setCell (World.setCell (World.setCell (World.setCell (World.setCell w5 ⟨w4.heap.size, 0, none⟩ (.int .u64 (x : Int))) ⟨w4.heap.size, 1, none⟩ (.int .u64 (lm : Int))) ⟨w4.heap.size, 2, none⟩ (.int .u64 (nx : Int))) ⟨w4.heap.size, 3, none⟩ (.slice A4 Q.length k4)) ⟨(w4.heap.size + 1), 0, none⟩ (.int .u64 (x : Int))) ⟨(w4.heap.size + 1), 1, none⟩ (.int .u64 (nx : Int))) ⟨(w4.heap.size + 1), 2, none⟩ (.slice A5 Q.length k5)) ⟨p, 0, none⟩ = some (.pointer (some ⟨g, 0, none⟩)) ∧ World.cell? (World.setCell (World.setCell (World.setCell (World.setCell (World.setCell (World.setCell (World.setCell w5 ⟨w4.heap.size, 0, none⟩ (.int .u64 (x : Int))) ⟨w4.heap.size, 1, none⟩ (.int .u64 (lm : Int))) ⟨w4.heap.size, 2, none⟩ (.int .u64 (nx : Int))) ⟨w4.heap.size, 3, none⟩ (.slice A4 Q.length k4)) ⟨(w4.heap.size + 1), 0, none⟩ (.int .u64 (x : Int))) ⟨(w4.heap.size + 1), 1, none⟩ (.int .u64 (nx : Int))) ⟨(w4.heap.size + 1), 2, none⟩ (.slice A5 Q.length k5)) ⟨p, 1, none⟩ = some (.pointer (some ⟨r, 0, none⟩)) := (by have hb := (Bx.oth (Bx.oth (Bx.oth (Bx.oth (Bx.oth (Bx.oth (Bx.oth s5.box ⟨w4.heap.size, 0, none⟩ (.int .u64 (x : Int)) hna) ⟨w4.heap.size, 1, none⟩ (.int .u64 (lm : Int)) hna) ⟨w4.heap.size, 2, none⟩ (.int .u64 (nx : Int)) hna) ⟨w4.heap.size, 3, none⟩ (.slice A4 Q.length k4) hna) ⟨(w4.heap.size + 1), 0, none⟩ (.int .u64 (x : Int)) hnb) ⟨(w4.heap.size + 1), 1, none⟩ (.int .u64 (nx : Int)) hnb) ⟨(w4.heap.size + 1), 2, none⟩ (.slice A5 Q.length k5) hnb); exact ⟨hb.cell 0, hb.cell 1⟩); have m6 := x5.size)
                    | (have hX := X4; go_at_call 43; (with_reducible refine (HRT (((w4).alloc (.cells #[.int .u64 0, .int .u64 0, .slice none 0 0] 80)).alloc (.cells #[.int .u64 0, .int .u64 0, .int .u64 0, .slice none 0 0] 76)) (s4.below (((Below.refl _ _).al (.cells #[.int .u64 0, .int .u64 0, .slice none 0 0] 80)).al (.cells #[.int .u64 0, .int .u64 0, .int .u64 0, .slice none 0 0] 76)))).mono ?_); rintro e w5 ⟨A5, k5, rfl, o5, hb5⟩; have x5 := (x4.next (((Below.refl _ _).al (.cells #[.int .u64 0, .int .u64 0, .slice none 0 0] 80)).al (.cells #[.int .u64 0, .int .u64 0, .int .u64 0, .slice none 0 0] 76))).next hb5; have s5 := (s4.below (((Below.refl _ _).al (.cells #[.int .u64 0, .int .u64 0, .slice none 0 0] 80)).al (.cells #[.int .u64 0, .int .u64 0, .int .u64 0, .slice none 0 0] 76))).below hb5; have o45 := own_below (own_below o4 (((Below.refl _ _).al (.cells #[.int .u64 0, .int .u64 0, .slice none 0 0] 80)).al (.cells #[.int .u64 0, .int .u64 0, .int .u64 0, .slice none 0 0] 76))) hb5; have hS5 := HPC w5 s5; have m4 := x4.size; have m5 : w4.heap.size + 2 ≤ w5.heap.size := (by have h := hb5.size; simpa using h); have f5b := ((Bx.new (w4) 80 #[.int .u64 0, .int .u64 0, .slice none 0 0] [.int .u64 0, .int .u64 0, .slice none 0 0] rfl).below ((Below.refl _ _).al (.cells #[.int .u64 0, .int .u64 0, .int .u64 0, .slice none 0 0] 76))).below hb5; have f5a := (by have h := ((Bx.new ((w4).alloc (.cells #[.int .u64 0, .int .u64 0, .slice none 0 0] 80)) 76 #[.int .u64 0, .int .u64 0, .int .u64 0, .slice none 0 0] [.int .u64 0, .int .u64 0, .int .u64 0, .slice none 0 0] rfl).below (Below.refl _ _)).below hb5; rw [show ((w4).alloc (.cells #[.int .u64 0, .int .u64 0, .slice none 0 0] 80)).heap.size = w4.heap.size + 1 by simp] at h; exact h); have l5b := f5b.lt; have l5a := f5a.lt; have ka0 := f5a.cell 0; have za0 := f5a.frozen 0; have ka1 := f5a.cell 1; have za1 := f5a.frozen 1; have ka2 := f5a.cell 2; have za2 := f5a.frozen 2; have ka3 := f5a.cell 3; have za3 := f5a.frozen 3; have hne : w4.heap.size ≠ (w4.heap.size + 1) := (by omega); have fnb := (Bx.oth (Bx.oth (Bx.oth (Bx.oth f5b ⟨(w4.heap.size + 1), 0, none⟩ (.int .u64 (x : Int)) hne) ⟨(w4.heap.size + 1), 1, none⟩ (.int .u64 (lm : Int)) hne) ⟨(w4.heap.size + 1), 2, none⟩ (.int .u64 (nx : Int)) hne) ⟨(w4.heap.size + 1), 3, none⟩ (.slice A4 Q.length k4) hne); have kn0 := fnb.cell 0; have zn0 := fnb.frozen 0; have kn1 := fnb.cell 1; have zn1 := fnb.frozen 1; have kn2 := fnb.cell 2; have zn2 := fnb.frozen 2; have hna : p ≠ (w4.heap.size + 1) := (by omega); have hnb : p ≠ w4.heap.size := (by omega); have hS6 : World.cell? (World.setCell (World.setCell (World.setCell (World.setCell w5 ⟨(w4.heap.size + 1), 0, none⟩ (.int .u64 (x : Int))) ⟨(w4.heap.size + 1), 1, none⟩ (.int .u64 (lm : Int))) ⟨(w4.heap.size + 1), 2, none⟩ (.int .u64 (nx : Int))) ⟨(w4.heap.size + 1), 3, none⟩ (.slice A4 Q.length k4)) ⟨p, 0, none⟩ = some (.pointer (some ⟨g, 0, none⟩)) ∧ World.cell? (World.setCell (World.setCell (World.setCell (World.setCell w5 ⟨(w4.heap.size + 1), 0, none⟩ (.int .u64 (x : Int))) ⟨(w4.heap.size + 1), 1, none⟩ (.int .u64 (lm : Int))) ⟨(w4.heap.size + 1), 2, none⟩ (.int .u64 (nx : Int))) ⟨(w4.heap.size + 1), 3, none⟩ (.slice A4 Q.length k4)) ⟨p, 1, none⟩ = some (.pointer (some ⟨r, 0, none⟩)) := (by have hb := (Bx.oth (Bx.oth (Bx.oth (Bx.oth s5.box ⟨(w4.heap.size + 1), 0, none⟩ (.int .u64 (x : Int)) hna) ⟨(w4.heap.size + 1), 1, none⟩ (.int .u64 (lm : Int)) hna) ⟨(w4.heap.size + 1), 2, none⟩ (.int .u64 (nx : Int)) hna) ⟨(w4.heap.size + 1), 3, none⟩ (.slice A4 Q.length k4) hna); exact ⟨hb.cell 0, hb.cell 1⟩); have hS7 : World.cell? (World.setCell (World.setCell (World.setCell (World.setCell (World.setCell (World.setCell (World.setCell w5 ⟨(w4.heap.size + 1), 0, none⟩ (.int .u64 (x : Int))) ⟨(w4.heap.size + 1), 1, none⟩ (.int .u64 (lm : Int))) ⟨(w4.heap.size + 1), 2, none⟩ (.int .u64 (nx : Int))) ⟨(w4.heap.size + 1), 3, none⟩ (.slice A4 Q.length k4)) ⟨w4.heap.size, 0, none⟩ (.int .u64 (x : Int))) ⟨w4.heap.size, 1, none⟩ (.int .u64 (nx : Int))) ⟨w4.heap.size, 2, none⟩ (.slice A5 Q.length k5)) ⟨p, 0, none⟩ = some (.pointer (some ⟨g, 0, none⟩)) ∧ World.cell? (World.setCell (World.setCell (World.setCell (World.setCell (World.setCell (World.setCell (World.setCell w5 ⟨(w4.heap.size + 1), 0, none⟩ (.int .u64 (x : Int))) ⟨(w4.heap.size + 1), 1, none⟩ (.int .u64 (lm : Int))) ⟨(w4.heap.size + 1), 2, none⟩ (.int .u64 (nx : Int))) ⟨(w4.heap.size + 1), 3, none⟩ (.slice A4 Q.length k4)) ⟨w4.heap.size, 0, none⟩ (.int .u64 (x : Int))) ⟨w4.heap.size, 1, none⟩ (.int .u64 (nx : Int))) ⟨w4.heap.size, 2, none⟩ (.slice A5 Q.length k5)) ⟨p, 1, none⟩ = some (.pointer (some ⟨r, 0, none⟩)) := (by have hb := (Bx.oth (Bx.oth (Bx.oth (Bx.oth (Bx.oth (Bx.oth (Bx.oth s5.box ⟨(w4.heap.size + 1), 0, none⟩ (.int .u64 (x : Int)) hna) ⟨(w4.heap.size + 1), 1, none⟩ (.int .u64 (lm : Int)) hna) ⟨(w4.heap.size + 1), 2, none⟩ (.int .u64 (nx : Int)) hna) ⟨(w4.heap.size + 1), 3, none⟩ (.slice A4 Q.length k4) hna) ⟨w4.heap.size, 0, none⟩ (.int .u64 (x : Int)) hnb) ⟨w4.heap.size, 1, none⟩ (.int .u64 (nx : Int)) hnb) ⟨w4.heap.size, 2, none⟩ (.slice A5 Q.length k5) hnb); exact ⟨hb.cell 0, hb.cell 1⟩); have m6 := x5.size)
                    | (go_at_call 40; (with_reducible refine (t0).out.mono ?_); rintro e w4 ⟨A4, k4, rfl, o4, hb4⟩; have X4 := True.intro; have x4 := x0.next hb4; have s4 := s0.below hb4; have hS4 := HPC w4 s4; have m4 := x4.size)
                    | (go_at_call 40; (with_reducible refine (t0a).out.mono ?_); rintro e w4 ⟨A4, k4, rfl, o4, hb4⟩; have X4a := True.intro; have x4 := x0a.next hb4; have s4 := s0a.below hb4; have f4a := f0aa.below hb4; have hS4 := HPC w4 s4; have m4 := x4.size)
                    | (go_at_call 40; (with_reducible refine (t0b).out.mono ?_); rintro e w4 ⟨A4, k4, rfl, o4, hb4⟩; have X4b := True.intro; have x4 := x0b.next hb4; have s4 := s0b.below hb4; have f4b := f0bb.below hb4; have hS4 := HPC w4 s4; have m4 := x4.size)
                    | (go_at_call 40; (with_reducible refine (t0ab).out.mono ?_); rintro e w4 ⟨A4, k4, rfl, o4, hb4⟩; have X4ab := True.intro; have x4 := x0ab.next hb4; have s4 := s0ab.below hb4; have f4a := f0aba.below hb4; have f4b := f0abb.below hb4; have hS4 := HPC w4 s4; have m4 := x4.size)
                    | (go_at_call 40; (with_reducible refine (t0ba).out.mono ?_); rintro e w4 ⟨A4, k4, rfl, o4, hb4⟩; have X4ba := True.intro; have x4 := x0ba.next hb4; have s4 := s0ba.below hb4; have f4b := f0bab.below hb4; have f4a := f0baa.below hb4; have hS4 := HPC w4 s4; have m4 := x4.size))
                  all_goals (go_wp2_with fail; go_meet)
                  all_goals first
                    | (with_reducible exact ⟨_, _, A4, A5, k4, k5, rfl, rfl, te_ss x5 o45 (by first | omega | exact Nat.le_refl _ | (simp <;> omega)) o5 (by first | omega | exact Nat.le_refl _ | (simp <;> omega)) f5a (by omega) f5b (by omega) _ _ _ _ _ _ _⟩)
                    | (with_reducible exact ⟨_, _, A4, A5, k4, k5, rfl, rfl, te_sa x5 o45 (by first | omega | exact Nat.le_refl _ | (simp <;> omega)) o5 (by first | omega | exact Nat.le_refl _ | (simp <;> omega)) f5a (by omega) _ _ _ _ _ _ _⟩)
                    | (with_reducible exact ⟨_, _, A4, A5, k4, k5, rfl, rfl, te_sb x5 o45 (by first | omega | exact Nat.le_refl _ | (simp <;> omega)) o5 (by first | omega | exact Nat.le_refl _ | (simp <;> omega)) f5b (by omega) _ _ _ _ _ _ _⟩)
                    | (with_reducible exact ⟨_, _, A4, A5, k4, k5, rfl, rfl, te_ab x5 o45 (by first | omega | exact Nat.le_refl _ | (simp <;> omega)) o5 (by first | omega | exact Nat.le_refl _ | (simp <;> omega)) _ _ _ _ _ _ _⟩)
                    | (with_reducible exact ⟨_, _, A4, A5, k4, k5, rfl, rfl, te_ba x5 o45 (by first | omega | exact Nat.le_refl _ | (simp <;> omega)) o5 (by first | omega | exact Nat.le_refl _ | (simp <;> omega)) _ _ _ _ _ _ _⟩)
                case rest =>
                  obtain ⟨t, u, A4, A5, k4, k5, rfl, rfl, fa, fb, o4, o5, xb, htW, huW⟩ := hcut
                  generalize wc = w8 at *
                  have SC := SW.below xb
                  have hI : Sinv S ⟨x, nx, Q, A4, k4, A5, k5⟩ := by rw [HQ.out, HX.out]; exact sinv_take S x A4 A5 k4 k5
                  have hlq : lst Q nx = lm := by rw [HLM.out]; exact lst_eq hI.sorted hI.lt
                  have hQl : Q.length ≤ 1099511627778 := by
                    have h1 := runs_length 1 S
                    have h2 : Q.length ≤ (runs 1 S).length := by rw [HQ.out]; exact List.length_filter_le _ _
                    omega
                  have hn4 : ∀ k, (Value.slice A4 Q.length k4).ownBlock = some k → ¬ H k := fun k hk hh => by
                    have h1 := (o4.lt k hk).1
                    have h2 := SW.bo.lt hh
                    omega
                  have hn5 : ∀ k, (Value.slice A5 Q.length k5).ownBlock = some k → ¬ H k := fun k hk hh => by
                    have h1 := (o5.lt k hk).1
                    have h2 := SW.bo.lt hh
                    omega
                  have hold1 : ∀ k, (Value.slice A1 N c1).ownBlock = some k → k < W.heap.size := fun k hk => (SW.rs.lt k hk).2
                  have hold2 : ∀ k, (Value.slice A2 N c2).ownBlock = some k → k < W.heap.size := fun k hk => (SW.rt.lt k hk).2
                  have hqe : (⟨x, nx, Q, A4, k4, A5, k5⟩ : Pn).e = [.int .u64 (x : Int), .int .u64 (lm : Int), .int .u64 (nx : Int), .slice A4 Q.length k4] := by show sncells x (least Q nx) nx _ = _; rw [← HLM.out]; rfl
                  have hqf : (⟨x, nx, Q, A4, k4, A5, k5⟩ : Pn).f = [.int .u64 (x : Int), .int .u64 (nx : Int), .slice A5 Q.length k5] := rfl
                  have hon4 := one4 x lm nx (.slice A4 Q.length k4) rfl
                  have hon5 := one3 x nx (.slice A5 Q.length k5) rfl
                  have HOW2 : ∀ q ∈ L ++ [(⟨x, nx, Q, A4, k4, A5, k5⟩ : Pn)], q.own < 40 := fun q hq => (List.mem_append.1 hq).elim (HOW.out q) fun h => by rw [List.mem_singleton] at h; rw [h]; exact hx4
                  have HLe : ∀ W', W'.ownsRow W.heap.size 22 1 (.slice A5 Q.length k5) Q.length (ucells .u64 Q) → Calls Try.prog 44 #[.agg #[.int .u64 (x : Int), .int .u64 (nx : Int), .slice A5 Q.length k5]] W' fun e w' => e = .returned (.int .u64 (lm : Int)) ∧ Below W'.heap.size W' w' := fun W' h => by
                    have := rleast_any W' x nx _ _ Q h hQl
                    rw [hlq] at this
                    exact this
                  have HSa : ∀ W', W'.ownsRow W.heap.size 22 1 (.slice A4 Q.length k4) Q.length (ucells .u64 Q) → W'.ownsRow W.heap.size 22 1 (.slice A5 Q.length k5) Q.length (ucells .u64 Q) → Calls Try.prog 24 #[.slice A4 Q.length k4, .slice A5 Q.length k5] W' fun e w' => e = .returned (.bool true) ∧ ∃ n, w' = W'.drewN n := fun W' h h' => same_any W' _ _ _ _ Q h h'
                  have HCL : ∀ w', Bx w' t 76 [.int .u64 (x : Int), .int .u64 (lm : Int), .int .u64 (nx : Int), .slice A4 Q.length k4] → Bx w' u 80 [.int .u64 (x : Int), .int .u64 (nx : Int), .slice A5 Q.length k5] → w'.cell? ⟨t, 0, none⟩ = some (.int .u64 (x : Int)) ∧ w'.cell? ⟨t, 1, none⟩ = some (.int .u64 (lm : Int)) ∧ w'.cell? ⟨t, 2, none⟩ = some (.int .u64 (nx : Int)) ∧ w'.cell? ⟨t, 3, none⟩ = some (.slice A4 Q.length k4) ∧ w'.cell? ⟨u, 0, none⟩ = some (.int .u64 (x : Int)) ∧ w'.cell? ⟨u, 1, none⟩ = some (.int .u64 (nx : Int)) ∧ w'.cell? ⟨u, 2, none⟩ = some (.slice A5 Q.length k5) := fun w' h h' => ⟨h.cell 0, h.cell 1, h.cell 2, h.cell 3, h'.cell 0, h'.cell 1, h'.cell 2⟩
                  have HS0 : ∀ w', Bx w' p 65 [.pointer (some ⟨g, 0, none⟩), .pointer (some ⟨r, 0, none⟩), .slice A1 N c1, .slice A2 N c2] → Bx w' t 76 [.int .u64 (x : Int), .int .u64 (lm : Int), .int .u64 (nx : Int), .slice A4 Q.length k4] → Bx w' u 80 [.int .u64 (x : Int), .int .u64 (nx : Int), .slice A5 Q.length k5] → w'.cell? ⟨p, 2, none⟩ = some (.slice A1 N c1) ∧ w'.cell? ⟨p, 3, none⟩ = some (.slice A2 N c2) ∧ w'.cell? ⟨t, 0, none⟩ = some (.int .u64 (x : Int)) ∧ w'.cell? ⟨t, 1, none⟩ = some (.int .u64 (lm : Int)) ∧ w'.cell? ⟨t, 2, none⟩ = some (.int .u64 (nx : Int)) ∧ w'.cell? ⟨t, 3, none⟩ = some (.slice A4 Q.length k4) ∧ w'.cell? ⟨u, 0, none⟩ = some (.int .u64 (x : Int)) ∧ w'.cell? ⟨u, 1, none⟩ = some (.int .u64 (nx : Int)) ∧ w'.cell? ⟨u, 2, none⟩ = some (.slice A5 Q.length k5) := fun w' b h h' => ⟨b.cell 2, b.cell 3, h.cell 0, h.cell 1, h.cell 2, h.cell 3, h'.cell 0, h'.cell 1, h'.cell 2⟩
                  replace HCL := Lib.hid HCL
                  replace HS0 := Lib.hid HS0
                  clear HTK HRT HPC y0 y1 c0 c1' q0 q1 ix SW0
                  go_upto_region 22 with fail
                  go_cut [124] (fun s124 wx => s124 = .bool false ∧ Below w8.heap.size w8 wx)
                  case first =>
                    have fad : Bx w8.drew t 76 [.int .u64 (x : Int), .int .u64 (lm : Int), .int .u64 (nx : Int), .slice A4 Q.length k4] := fa
                    have fbd : Bx w8.drew u 80 [.int .u64 (x : Int), .int .u64 (nx : Int), .slice A5 Q.length k5] := fb
                    have o4d := World.ownsRow.drew o4
                    have o5d := World.ownsRow.drew o5
                    have xd : Below w8.heap.size w8 w8.drew := below_n w8 1
                    have hL0 := Lib.hid (HLe _ o5d)
                    go_region_held3 (fun w' => w'.cell? ⟨t, 0, none⟩ = some (.int .u64 (x : Int)) ∧ w'.cell? ⟨t, 1, none⟩ = some (.int .u64 (lm : Int)) ∧ w'.cell? ⟨t, 2, none⟩ = some (.int .u64 (nx : Int)) ∧ w'.cell? ⟨t, 3, none⟩ = some (.slice A4 Q.length k4) ∧ w'.cell? ⟨u, 0, none⟩ = some (.int .u64 (x : Int)) ∧ w'.cell? ⟨u, 1, none⟩ = some (.int .u64 (nx : Int)) ∧ w'.cell? ⟨u, 2, none⟩ = some (.slice A5 Q.length k5)) (first | (with_reducible exact HCL.out _ fad fbd) | (with_reducible exact HCL.out _ fa6 fb6) | (with_reducible exact HCL.out _ fa7 fb7))
                      (first
                      | (go_at_call 44; (with_reducible refine (hL0.out).mono ?_); rintro e w6 ⟨rfl, hb6⟩; have x6 := xd.next hb6; have fa6 := fad.below hb6; have fb6 := fbd.below hb6; have o46 := own_below o4d hb6; have o56 := own_below o5d hb6; have hS6 := Lib.hid (HSa _ o46 o56))
                      | (go_at_call 24; (with_reducible refine (hS6.out).mono ?_); rintro e w7 ⟨rfl, n7, rfl⟩; have hb7 := below_n w6 n7; have x7 := x6.next hb7; have fa7 := fa6.below hb7; have fb7 := fb6.below hb7))
                    go_wp2_with fail
                    go_meet
                    exact ⟨rfl, x7⟩
                  case rest =>
                    obtain ⟨rfl, xc⟩ := hcut
                    go_upto_region 24 with fail
                    have xV := xc.next (below_n wc 1)
                    have Z0 := (SC.below xV).z
                    have FA0 := fa.below xV
                    have FB0 := fb.below xV
                    have RS0 := own_below SC.rs xV
                    have RT0 := own_below SC.rt xV
                    have P40 := (own_le (own_below o4 xV) (Nat.le_trans SW.bo.mine.size (Nat.le_refl _)))
                    have P50 := (own_le (own_below o5 xV) (Nat.le_trans SW.bo.mine.size (Nat.le_refl _)))
                    have hp2 := HS0.out _ Z0.box FA0 FB0
                    clear SC fa fb o4 o5 xc HLe HSa HCL
                    refine wp_region_late (S := (fun w' => w'.cell? ⟨p, 2, none⟩ = some (.slice A1 N c1) ∧ w'.cell? ⟨p, 3, none⟩ = some (.slice A2 N c2) ∧ w'.cell? ⟨t, 0, none⟩ = some (.int .u64 (x : Int)) ∧ w'.cell? ⟨t, 1, none⟩ = some (.int .u64 (lm : Int)) ∧ w'.cell? ⟨t, 2, none⟩ = some (.int .u64 (nx : Int)) ∧ w'.cell? ⟨t, 3, none⟩ = some (.slice A4 Q.length k4) ∧ w'.cell? ⟨u, 0, none⟩ = some (.int .u64 (x : Int)) ∧ w'.cell? ⟨u, 1, none⟩ = some (.int .u64 (nx : Int)) ∧ w'.cell? ⟨u, 2, none⟩ = some (.slice A5 Q.length k5))) (k := 18) (by kernel_rfl) ?_ (fun hHeld => ?_)
                    · exact hp2
                    refine wpAnyK_takeW (i := 0) (oi := { dst := some 125, op := Go.Op.move (Go.Operand.tmp 6), type := 58, pos := "law.go:61", after := #[], guard := none }) (v := ?v1) rfl (by kernel_rfl) (by kernel_rfl) (by kernel_rfl) (by kernel_rfl) (fun _ _ _ h => h) (Or.inl ⟨by rfl, ?hy1⟩) (.inr (by assumption)) ?rest1
                    case hy1 => (intro w' _; go_simp <;> with_reducible rfl)
                    (try simp only [Act.put, List.setIfInBounds_toArray, List.set_cons_zero, List.set_cons_succ])
                    refine wpAnyK_takeW (i := 1) (oi := { dst := some 126, op := Go.Op.move (Go.Operand.tmp 6), type := 58, pos := "law.go:61", after := #[{ on := 18, ground := Go.Ground.gcOnly Go.Departure.lateStores }], guard := none }) (v := ?v2) rfl (by kernel_rfl) (by kernel_rfl) (by kernel_rfl) (by kernel_rfl) (fun _ _ _ h => h) (Or.inl ⟨by rfl, ?hy2⟩) (.inr (by assumption)) ?rest2
                    case hy2 => (intro w' _; go_simp <;> with_reducible rfl)
                    (try simp only [Act.put, List.setIfInBounds_toArray, List.set_cons_zero, List.set_cons_succ])
                    refine wpAnyK_takeW (i := 2) (oi := { dst := some 127, op := Go.Op.move (Go.Operand.tmp 6), type := 58, pos := "law.go:61", after := #[], guard := none }) (v := ?v3) rfl (by kernel_rfl) (by kernel_rfl) (by kernel_rfl) (by kernel_rfl) (fun _ _ _ h => h) (Or.inl ⟨by rfl, ?hy3⟩) (.inr (by assumption)) ?rest3
                    case hy3 => (intro w' _; go_simp <;> with_reducible rfl)
                    (try simp only [Act.put, List.setIfInBounds_toArray, List.set_cons_zero, List.set_cons_succ])
                    refine wpAnyK_takeW (i := 3) (oi := { dst := some 128, op := Go.Op.nilCheck (Go.Operand.tmp 127), type := 0, pos := "law.go:61", after := #[{ on := 2, ground := Go.Ground.data }], guard := none }) (v := ?v4) rfl (by kernel_rfl) (by kernel_rfl) (by kernel_rfl) (by kernel_rfl) (fun _ _ _ h => h) (Or.inl ⟨by rfl, ?hy4⟩) (.inr (by assumption)) ?rest4
                    case hy4 => (intro w' _; go_simp <;> with_reducible rfl)
                    (try simp only [Act.put, List.setIfInBounds_toArray, List.set_cons_zero, List.set_cons_succ])
                    refine wpAnyK_takeW (i := 4) (oi := { dst := some 129, op := Go.Op.fieldAddr 65 (Go.Operand.tmp 128) 2, type := 0, pos := "law.go:61", after := #[{ on := 3, ground := Go.Ground.data }], guard := none }) (v := ?v5) rfl (by kernel_rfl) (by kernel_rfl) (by kernel_rfl) (by kernel_rfl) (fun _ _ _ h => h) (Or.inl ⟨by rfl, ?hy5⟩) (.inr (by assumption)) ?rest5
                    case hy5 => (intro w' _; go_simp <;> with_reducible rfl)
                    (try simp only [Act.put, List.setIfInBounds_toArray, List.set_cons_zero, List.set_cons_succ])
                    refine wpAnyK_take (i := 5) (oi := { dst := some 130, op := Go.Op.load 62 (Go.Operand.tmp 129), type := 62, pos := "law.go:61", after := #[{ on := 4, ground := Go.Ground.data }], guard := none }) (v := ?v6) [18] rfl (by kernel_rfl) (by kernel_rfl) (by kernel_rfl) (by kernel_rfl) (by kernel_rfl) (fun _ _ _ h => h) (Or.inl ⟨by rfl, ?hy6⟩) (by assumption) ?rest6
                    case hy6 => (intro w' hSw; (try dsimp only at hSw); go_simp <;> with_reducible rfl)
                    (try simp only [Act.put, List.setIfInBounds_toArray, List.set_cons_zero, List.set_cons_succ])
                    refine wpAnyK_take (i := 6) (oi := { dst := some 131, op := Go.Op.load 76 (Go.Operand.tmp 10), type := 76, pos := "law.go:61", after := #[], guard := none }) (v := ?v7) [18] rfl (by kernel_rfl) (by kernel_rfl) (by kernel_rfl) (by kernel_rfl) (by kernel_rfl) (fun _ _ _ h => h) (Or.inl ⟨by rfl, ?hy7⟩) (by assumption) ?rest7
                    case hy7 => (intro w' hSw; (try dsimp only at hSw); go_simp <;> with_reducible rfl)
                    (try simp only [Act.put, List.setIfInBounds_toArray, List.set_cons_zero, List.set_cons_succ])
                    refine wpAnyK_takeW (i := 9) (oi := { dst := some 134, op := Go.Op.move (Go.Operand.tmp 6), type := 58, pos := "law.go:61", after := #[], guard := none }) (v := ?v8) rfl (by kernel_rfl) (by kernel_rfl) (by kernel_rfl) (by kernel_rfl) (fun _ _ _ h => h) (Or.inl ⟨by rfl, ?hy8⟩) (.inr (by assumption)) ?rest8
                    case hy8 => (intro w' _; go_simp <;> with_reducible rfl)
                    (try simp only [Act.put, List.setIfInBounds_toArray, List.set_cons_zero, List.set_cons_succ])
                    refine wpAnyK_takeW (i := 10) (oi := { dst := some 135, op := Go.Op.nilCheck (Go.Operand.tmp 134), type := 0, pos := "law.go:61", after := #[{ on := 9, ground := Go.Ground.data }], guard := none }) (v := ?v9) rfl (by kernel_rfl) (by kernel_rfl) (by kernel_rfl) (by kernel_rfl) (fun _ _ _ h => h) (Or.inl ⟨by rfl, ?hy9⟩) (.inr (by assumption)) ?rest9
                    case hy9 => (intro w' _; go_simp <;> with_reducible rfl)
                    (try simp only [Act.put, List.setIfInBounds_toArray, List.set_cons_zero, List.set_cons_succ])
                    refine wpAnyK_takeW (i := 11) (oi := { dst := some 136, op := Go.Op.fieldAddr 65 (Go.Operand.tmp 135) 3, type := 0, pos := "law.go:61", after := #[{ on := 10, ground := Go.Ground.data }], guard := none }) (v := ?v10) rfl (by kernel_rfl) (by kernel_rfl) (by kernel_rfl) (by kernel_rfl) (fun _ _ _ h => h) (Or.inl ⟨by rfl, ?hy10⟩) (.inr (by assumption)) ?rest10
                    case hy10 => (intro w' _; go_simp <;> with_reducible rfl)
                    (try simp only [Act.put, List.setIfInBounds_toArray, List.set_cons_zero, List.set_cons_succ])
                    refine wpAnyK_take (i := 12) (oi := { dst := some 137, op := Go.Op.load 63 (Go.Operand.tmp 136), type := 63, pos := "law.go:61", after := #[{ on := 11, ground := Go.Ground.data }], guard := none }) (v := ?v11) [18] rfl (by kernel_rfl) (by kernel_rfl) (by kernel_rfl) (by kernel_rfl) (by kernel_rfl) (fun _ _ _ h => h) (Or.inl ⟨by rfl, ?hy11⟩) (by assumption) ?rest11
                    case hy11 => (intro w' hSw; (try dsimp only at hSw); go_simp <;> with_reducible rfl)
                    (try simp only [Act.put, List.setIfInBounds_toArray, List.set_cons_zero, List.set_cons_succ])
                    refine wpAnyK_take (i := 13) (oi := { dst := some 138, op := Go.Op.load 80 (Go.Operand.tmp 11), type := 80, pos := "law.go:61", after := #[], guard := none }) (v := ?v12) [14, 15, 18] rfl (by kernel_rfl) (by kernel_rfl) (by kernel_rfl) (by kernel_rfl) (by kernel_rfl) (fun _ _ _ h => h) (Or.inl ⟨by rfl, ?hy12⟩) (by assumption) ?rest12
                    case hy12 => (intro w' hSw; (try dsimp only at hSw); go_simp <;> with_reducible rfl)
                    (try simp only [Act.put, List.setIfInBounds_toArray, List.set_cons_zero, List.set_cons_succ])
                    refine wpAnyK_ready (rs := [7, 14]) (by kernel_rfl) (by simp) ?_
                    refine AllReadyK.cons (o := { dst := some 132, op := Go.Op.buildSlice 62 1 #[(0, Go.Operand.tmp 131)], type := 62, pos := "law.go:61", after := #[{ on := 6, ground := Go.Ground.data }], guard := none }) rfl (fun K hK => ?_) ?_
                    · go_simp
                      have bz1 : Below wc.drew.heap.size wc.drew (wc.drew.alloc (.cells #[.int .u64 (x : Int), .int .u64 (lm : Int), .int .u64 (nx : Int), .slice A4 Q.length k4] 76)) := (Below.refl _ _).al _
                      have Z1 := Z0.below bz1
                      have FA1 := FA0.below bz1
                      have FB1 := FB0.below bz1
                      have RS1 := own_below RS0 bz1
                      have RT1 := own_below RT0 bz1
                      have P41 := own_below P40 bz1
                      have P51 := own_below P50 bz1
                      have LA1 : Bx (wc.drew.alloc (.cells #[.int .u64 (x : Int), .int .u64 (lm : Int), .int .u64 (nx : Int), .slice A4 Q.length k4] 76)) (wc.drew.heap.size) 76 [.int .u64 (x : Int), .int .u64 (lm : Int), .int .u64 (nx : Int), .slice A4 Q.length k4] := (by have h := Bx.new wc.drew 76 #[.int .u64 (x : Int), .int .u64 (lm : Int), .int .u64 (nx : Int), .slice A4 Q.length k4] [.int .u64 (x : Int), .int .u64 (lm : Int), .int .u64 (nx : Int), .slice A4 Q.length k4] rfl; exact h)
                      clear Z0 FA0 FB0 RS0 RT0 P40 P50
                      refine hK.out _ _ ?_ (fun hHeld => ?_)
                      · exact HS0 _ Z1.box FA1 FB1
                      clear hK K
                      (try simp only [Act.put, List.setIfInBounds_toArray, List.set_cons_zero, List.set_cons_succ])
                      refine wpAnyK_ready (rs := [8, 14]) (by kernel_rfl) (by simp) ?_
                      refine AllReadyK.cons (o := { dst := some 133, op := Go.Op.call { callee := Go.Callee.builtin Go.Builtin.append, args := #[Go.Operand.tmp 130, Go.Operand.tmp 132], argTypes := #[62, 62] }, type := 62, pos := "law.go:61", after := #[{ on := 5, ground := Go.Ground.data }, { on := 7, ground := Go.Ground.data }], guard := none }) rfl (fun K hK => ?_) ?_
                      · refine step_append_lies _ rfl (.tmp 130) (.tmp 132) 62 rfl _ 76 _ _ 4 48 Try.underlying62 hi4 hz40 hz41 hz42 rfl (by decide) _ _ _ rfl RS1 _ 1 1 [.int .u64 (x : Int), .int .u64 (lm : Int), .int .u64 (nx : Int), .slice A4 Q.length k4] rfl rfl (bx_news LA1) hon4 (by decide) (by simp only [maxLen]; omega) (by omega) Z1.bo.mine.size _ rfl ?_
                        intro gg2 cc2 v2 RS2 hg2 hat2 hlt2
                        have Z2 := Z1.app RS1 hg2 (by decide) (by decide) (by decide) (by decide) (by decide) (by decide)
                        have RT2 := app_own RS1 hg2 RT1 (by decide)
                        have P42 := app_own RS1 hg2 P41 (by decide)
                        have P52 := app_own RS1 hg2 P51 (by decide)
                        have FA2 := app_bx' hg2 FA1 (fun k hk => by have := hold1 k hk; omega)
                        have FB2 := app_bx RS1 hg2 FB1 (by decide)
                        clear Z1 FA1 FB1 RS1 RT1 P41 P51 LA1 hg2 hat2 hlt2
                        refine hK.out _ _ ?_ (fun hHeld => ?_)
                        · exact HS0 _ Z2.box FA2 FB2
                        clear hK K
                        (try simp only [Act.put, List.setIfInBounds_toArray, List.set_cons_zero, List.set_cons_succ])
                        refine wpAnyK_ready (rs := [14]) (by kernel_rfl) (by simp) ?_
                        refine AllReadyK.cons (o := { dst := some 139, op := Go.Op.buildSlice 63 1 #[(0, Go.Operand.tmp 138)], type := 63, pos := "law.go:61", after := #[{ on := 13, ground := Go.Ground.data }], guard := none }) rfl (fun K hK => ?_) AllReadyK.nil
                        go_simp
                        have bz3 : Below v2.heap.size v2 (v2.alloc (.cells #[.int .u64 (x : Int), .int .u64 (nx : Int), .slice A5 Q.length k5] 80)) := (Below.refl _ _).al _
                        have Z3 := Z2.below bz3
                        have FA3 := FA2.below bz3
                        have FB3 := FB2.below bz3
                        have RS3 := own_below RS2 bz3
                        have RT3 := own_below RT2 bz3
                        have P43 := own_below P42 bz3
                        have P53 := own_below P52 bz3
                        have LB3 : Bx (v2.alloc (.cells #[.int .u64 (x : Int), .int .u64 (nx : Int), .slice A5 Q.length k5] 80)) (v2.heap.size) 80 [.int .u64 (x : Int), .int .u64 (nx : Int), .slice A5 Q.length k5] := (by have h := Bx.new v2 80 #[.int .u64 (x : Int), .int .u64 (nx : Int), .slice A5 Q.length k5] [.int .u64 (x : Int), .int .u64 (nx : Int), .slice A5 Q.length k5] rfl; exact h)
                        clear Z2 FA2 FB2 RS2 RT2 P42 P52
                        refine hK.out _ _ ?_ (fun hHeld => ?_)
                        · exact HS0 _ Z3.box FA3 FB3
                        clear hK K
                        (try simp only [Act.put, List.setIfInBounds_toArray, List.set_cons_zero, List.set_cons_succ])
                        refine wpAnyK_ready (rs := [15]) (by kernel_rfl) (by simp) ?_
                        refine AllReadyK.cons (o := { dst := some 140, op := Go.Op.call { callee := Go.Callee.builtin Go.Builtin.append, args := #[Go.Operand.tmp 137, Go.Operand.tmp 139], argTypes := #[63, 63] }, type := 63, pos := "law.go:61", after := #[{ on := 12, ground := Go.Ground.data }, { on := 14, ground := Go.Ground.data }, { on := 8, ground := Go.Ground.chain }], guard := none }) rfl (fun K hK => ?_) AllReadyK.nil
                        refine step_append_lies _ rfl (.tmp 137) (.tmp 139) 63 rfl _ 80 _ _ 3 40 Try.underlying63 hi3 hz30 hz31 hz32 rfl (by decide) _ _ _ rfl RT3 _ 1 1 [.int .u64 (x : Int), .int .u64 (nx : Int), .slice A5 Q.length k5] rfl rfl (bx_news LB3) hon5 (by decide) (by simp only [maxLen]; omega) (by omega) Z3.bo.mine.size _ rfl ?_
                        intro gg4 cc4 v4 RT4 hg4 hat4 hlt4
                        have Z4 := Z3.app RT3 hg4 (by decide) (by decide) (by decide) (by decide) (by decide) (by decide)
                        have RS4 := app_own RT3 hg4 RS3 (by decide)
                        have P44 := app_own RT3 hg4 P43 (by decide)
                        have P54 := app_own RT3 hg4 P53 (by decide)
                        have FB4 := app_bx' hg4 FB3 (fun k hk => by have := hold2 k hk; omega)
                        have FA4 := app_bx RT3 hg4 FA3 (by decide)
                        clear Z3 FA3 FB3 RS3 RT3 P43 P53 LB3 hg4 hat4 hlt4
                        refine hK.out _ _ ?_ (fun hHeld => ?_)
                        · exact HS0 _ Z4.box FA4 FB4
                        clear hK K
                        (try simp only [Act.put, List.setIfInBounds_toArray, List.set_cons_zero, List.set_cons_succ])
                        refine wpAnyK_takeW (i := 16) (oi := { dst := some 141, op := Go.Op.nilCheck (Go.Operand.tmp 125), type := 0, pos := "law.go:61", after := #[{ on := 0, ground := Go.Ground.data }, { on := 0, ground := Go.Ground.phase }, { on := 1, ground := Go.Ground.textOnly Go.Departure.lateStores }, { on := 2, ground := Go.Ground.phase }, { on := 3, ground := Go.Ground.phase }, { on := 4, ground := Go.Ground.phase }, { on := 5, ground := Go.Ground.phase }, { on := 6, ground := Go.Ground.phase }, { on := 7, ground := Go.Ground.phase }, { on := 8, ground := Go.Ground.phase }, { on := 9, ground := Go.Ground.textOnly Go.Departure.lateStores }, { on := 10, ground := Go.Ground.textOnly Go.Departure.lateStoresUnsure }, { on := 11, ground := Go.Ground.textOnly Go.Departure.lateStoresUnsure }, { on := 12, ground := Go.Ground.phase }, { on := 13, ground := Go.Ground.textOnly Go.Departure.lateStores }, { on := 14, ground := Go.Ground.textOnly Go.Departure.lateStoresUnsure }, { on := 15, ground := Go.Ground.phase }], guard := none }) (v := ?v13) rfl (by kernel_rfl) (by kernel_rfl) (by kernel_rfl) (by kernel_rfl) (fun _ _ _ h => h) (Or.inl ⟨by rfl, ?hy13⟩) (.inr (by assumption)) ?rest13
                        case hy13 => (intro w' _; go_simp <;> with_reducible rfl)
                        (try simp only [Act.put, List.setIfInBounds_toArray, List.set_cons_zero, List.set_cons_succ])
                        refine wpAnyK_takeW (i := 17) (oi := { dst := some 142, op := Go.Op.fieldAddr 65 (Go.Operand.tmp 141) 2, type := 0, pos := "law.go:61", after := #[{ on := 16, ground := Go.Ground.data }, { on := 0, ground := Go.Ground.phase }, { on := 1, ground := Go.Ground.textOnly Go.Departure.lateStores }, { on := 2, ground := Go.Ground.phase }, { on := 3, ground := Go.Ground.phase }, { on := 4, ground := Go.Ground.phase }, { on := 5, ground := Go.Ground.phase }, { on := 6, ground := Go.Ground.phase }, { on := 7, ground := Go.Ground.phase }, { on := 8, ground := Go.Ground.phase }, { on := 9, ground := Go.Ground.textOnly Go.Departure.lateStores }, { on := 10, ground := Go.Ground.textOnly Go.Departure.lateStoresUnsure }, { on := 11, ground := Go.Ground.textOnly Go.Departure.lateStoresUnsure }, { on := 12, ground := Go.Ground.phase }, { on := 13, ground := Go.Ground.textOnly Go.Departure.lateStores }, { on := 14, ground := Go.Ground.textOnly Go.Departure.lateStoresUnsure }, { on := 15, ground := Go.Ground.phase }], guard := none }) (v := ?v14) rfl (by kernel_rfl) (by kernel_rfl) (by kernel_rfl) (by kernel_rfl) (fun _ _ _ h => h) (Or.inl ⟨by rfl, ?hy14⟩) (.inr (by assumption)) ?rest14
                        case hy14 => (intro w' _; go_simp <;> with_reducible rfl)
                        (try simp only [Act.put, List.setIfInBounds_toArray, List.set_cons_zero, List.set_cons_succ])
                        refine wpAnyK_ready (rs := [18]) (by kernel_rfl) (by simp) ?_
                        refine AllReadyK.late (o := { dst := none, op := Go.Op.store 62 (Go.Operand.tmp 142) (Go.Operand.tmp 133), type := 0, pos := "law.go:61", after := #[{ on := 17, ground := Go.Ground.data }, { on := 8, ground := Go.Ground.data }, { on := 15, ground := Go.Ground.chain }, { on := 0, ground := Go.Ground.phase }, { on := 1, ground := Go.Ground.textOnly Go.Departure.lateStores }, { on := 2, ground := Go.Ground.phase }, { on := 3, ground := Go.Ground.phase }, { on := 4, ground := Go.Ground.phase }, { on := 5, ground := Go.Ground.phase }, { on := 6, ground := Go.Ground.phase }, { on := 7, ground := Go.Ground.phase }, { on := 8, ground := Go.Ground.phase }, { on := 9, ground := Go.Ground.textOnly Go.Departure.lateStores }, { on := 10, ground := Go.Ground.textOnly Go.Departure.lateStoresUnsure }, { on := 11, ground := Go.Ground.textOnly Go.Departure.lateStoresUnsure }, { on := 12, ground := Go.Ground.phase }, { on := 13, ground := Go.Ground.textOnly Go.Departure.lateStores }, { on := 14, ground := Go.Ground.textOnly Go.Departure.lateStoresUnsure }, { on := 15, ground := Go.Ground.phase }], guard := none }) rfl (by rfl) (fun K hK => ?_)
                        have y25 := Z4.box.cell 2
                        have z25 := Z4.box.frozen 2
                        go_simp
                        refine hK.out _ _ ?_
                        clear hK K
                        (try simp only [Act.put, List.setIfInBounds_toArray, List.set_cons_zero, List.set_cons_succ])
                        refine wpAnyK_takeW (i := 19) (oi := { dst := some 143, op := Go.Op.nilCheck (Go.Operand.tmp 126), type := 0, pos := "law.go:61", after := #[{ on := 1, ground := Go.Ground.data }, { on := 0, ground := Go.Ground.phase }, { on := 1, ground := Go.Ground.phase }, { on := 2, ground := Go.Ground.phase }, { on := 3, ground := Go.Ground.phase }, { on := 4, ground := Go.Ground.phase }, { on := 5, ground := Go.Ground.phase }, { on := 6, ground := Go.Ground.phase }, { on := 7, ground := Go.Ground.phase }, { on := 8, ground := Go.Ground.phase }, { on := 9, ground := Go.Ground.phase }, { on := 10, ground := Go.Ground.phase }, { on := 11, ground := Go.Ground.phase }, { on := 12, ground := Go.Ground.phase }, { on := 13, ground := Go.Ground.phase }, { on := 14, ground := Go.Ground.phase }, { on := 15, ground := Go.Ground.phase }, { on := 16, ground := Go.Ground.phase }, { on := 17, ground := Go.Ground.phase }, { on := 18, ground := Go.Ground.phase }], guard := none }) (v := ?v15) rfl (by kernel_rfl) (by kernel_rfl) (by kernel_rfl) (by kernel_rfl) (fun _ _ _ h => h) (Or.inl ⟨by rfl, ?hy15⟩) (.inl rfl) ?rest15
                        case hy15 => (intro w' _; go_simp <;> with_reducible rfl)
                        (try simp only [Act.put, List.setIfInBounds_toArray, List.set_cons_zero, List.set_cons_succ])
                        refine wpAnyK_takeW (i := 20) (oi := { dst := some 144, op := Go.Op.fieldAddr 65 (Go.Operand.tmp 143) 3, type := 0, pos := "law.go:61", after := #[{ on := 19, ground := Go.Ground.data }, { on := 0, ground := Go.Ground.phase }, { on := 1, ground := Go.Ground.phase }, { on := 2, ground := Go.Ground.phase }, { on := 3, ground := Go.Ground.phase }, { on := 4, ground := Go.Ground.phase }, { on := 5, ground := Go.Ground.phase }, { on := 6, ground := Go.Ground.phase }, { on := 7, ground := Go.Ground.phase }, { on := 8, ground := Go.Ground.phase }, { on := 9, ground := Go.Ground.phase }, { on := 10, ground := Go.Ground.phase }, { on := 11, ground := Go.Ground.phase }, { on := 12, ground := Go.Ground.phase }, { on := 13, ground := Go.Ground.phase }, { on := 14, ground := Go.Ground.phase }, { on := 15, ground := Go.Ground.phase }, { on := 16, ground := Go.Ground.phase }, { on := 17, ground := Go.Ground.phase }, { on := 18, ground := Go.Ground.phase }], guard := none }) (v := ?v16) rfl (by kernel_rfl) (by kernel_rfl) (by kernel_rfl) (by kernel_rfl) (fun _ _ _ h => h) (Or.inl ⟨by rfl, ?hy16⟩) (.inl rfl) ?rest16
                        case hy16 => (intro w' _; go_simp <;> with_reducible rfl)
                        (try simp only [Act.put, List.setIfInBounds_toArray, List.set_cons_zero, List.set_cons_succ])
                        refine wpAnyK_ready (rs := [21]) (by kernel_rfl) (by simp) ?_
                        refine AllReadyK.late (o := { dst := none, op := Go.Op.store 63 (Go.Operand.tmp 144) (Go.Operand.tmp 140), type := 0, pos := "law.go:61", after := #[{ on := 20, ground := Go.Ground.data }, { on := 15, ground := Go.Ground.data }, { on := 18, ground := Go.Ground.chain }, { on := 0, ground := Go.Ground.phase }, { on := 1, ground := Go.Ground.phase }, { on := 2, ground := Go.Ground.phase }, { on := 3, ground := Go.Ground.phase }, { on := 4, ground := Go.Ground.phase }, { on := 5, ground := Go.Ground.phase }, { on := 6, ground := Go.Ground.phase }, { on := 7, ground := Go.Ground.phase }, { on := 8, ground := Go.Ground.phase }, { on := 9, ground := Go.Ground.phase }, { on := 10, ground := Go.Ground.phase }, { on := 11, ground := Go.Ground.phase }, { on := 12, ground := Go.Ground.phase }, { on := 13, ground := Go.Ground.phase }, { on := 14, ground := Go.Ground.phase }, { on := 15, ground := Go.Ground.phase }, { on := 16, ground := Go.Ground.phase }, { on := 17, ground := Go.Ground.phase }, { on := 18, ground := Go.Ground.phase }], guard := none }) rfl (by rfl) (fun K hK => ?_)
                        have bs6 := Z4.box.set 2 (.slice (some ⟨gg2, 0, none⟩) (L.length + 1) cc2)
                        have y36 := bs6.cell 3
                        have z36 := bs6.frozen 3
                        clear bs6
                        go_simp
                        refine hK.out _ _ ?_
                        clear hK K
                        (try simp only [Act.put, List.setIfInBounds_toArray, List.set_cons_zero, List.set_cons_succ])
                        refine wpAnyK_done (by kernel_rfl) ?_ _
                        have PYN := Z4.more (⟨x, nx, Q, A4, k4, A5, k5⟩ : Pn) (by rw [hqe]; exact RS4) (by rw [hqf]; exact RT4) P44 P54 hn4 hn5 hI
                        clear Z4 FA4 FB4 RS4 RT4 P44 P54
                        go_wp2_with fail
                        go_roundw
                        case rel => first
                          | exact ⟨i + 1, L.length + 1, S, H, some ⟨gg2, 0, none⟩, some ⟨gg4, 0, none⟩, cc2, cc4, L ++ [(⟨x, nx, Q, A4, k4, A5, k5⟩ : Pn)], by omega, by omega, by omega, by rw [List.length_append, List.length_singleton]; omega, by rw [List.length_append, List.length_singleton], HOW2, by go_num, PYN⟩
                          | ((repeat apply Exists.intro); exact ⟨⟨i + 1, L.length + 1, S, H, some ⟨gg2, 0, none⟩, some ⟨gg4, 0, none⟩, cc2, cc4, L ++ [(⟨x, nx, Q, A4, k4, A5, k5⟩ : Pn)], by omega, by omega, by omega, by rw [List.length_append, List.length_singleton]; omega, by rw [List.length_append, List.length_singleton], HOW2, by go_num, PYN⟩, rfl⟩)
                        case measure => simp [intOf]; omega
                      refine AllReadyK.cons (o := { dst := some 139, op := Go.Op.buildSlice 63 1 #[(0, Go.Operand.tmp 138)], type := 63, pos := "law.go:61", after := #[{ on := 13, ground := Go.Ground.data }], guard := none }) rfl (fun K hK => ?_) AllReadyK.nil
                      go_simp
                      have bz7 : Below (wc.drew.alloc (.cells #[.int .u64 (x : Int), .int .u64 (lm : Int), .int .u64 (nx : Int), .slice A4 Q.length k4] 76)).heap.size (wc.drew.alloc (.cells #[.int .u64 (x : Int), .int .u64 (lm : Int), .int .u64 (nx : Int), .slice A4 Q.length k4] 76)) ((wc.drew.alloc (.cells #[.int .u64 (x : Int), .int .u64 (lm : Int), .int .u64 (nx : Int), .slice A4 Q.length k4] 76)).alloc (.cells #[.int .u64 (x : Int), .int .u64 (nx : Int), .slice A5 Q.length k5] 80)) := (Below.refl _ _).al _
                      have Z7 := Z1.below bz7
                      have FA7 := FA1.below bz7
                      have FB7 := FB1.below bz7
                      have RS7 := own_below RS1 bz7
                      have RT7 := own_below RT1 bz7
                      have P47 := own_below P41 bz7
                      have P57 := own_below P51 bz7
                      have LA7 := LA1.below bz7
                      have LB7 : Bx ((wc.drew.alloc (.cells #[.int .u64 (x : Int), .int .u64 (lm : Int), .int .u64 (nx : Int), .slice A4 Q.length k4] 76)).alloc (.cells #[.int .u64 (x : Int), .int .u64 (nx : Int), .slice A5 Q.length k5] 80)) (wc.drew.heap.size + 1) 80 [.int .u64 (x : Int), .int .u64 (nx : Int), .slice A5 Q.length k5] := (by have h := Bx.new (wc.drew.alloc (.cells #[.int .u64 (x : Int), .int .u64 (lm : Int), .int .u64 (nx : Int), .slice A4 Q.length k4] 76)) 80 #[.int .u64 (x : Int), .int .u64 (nx : Int), .slice A5 Q.length k5] [.int .u64 (x : Int), .int .u64 (nx : Int), .slice A5 Q.length k5] rfl; rw [show (wc.drew.alloc (.cells #[.int .u64 (x : Int), .int .u64 (lm : Int), .int .u64 (nx : Int), .slice A4 Q.length k4] 76)).heap.size = wc.drew.heap.size + 1 by simp] at h; exact h)
                      clear Z1 FA1 FB1 RS1 RT1 P41 P51 LA1
                      refine hK.out _ _ ?_ (fun hHeld => ?_)
                      · exact HS0 _ Z7.box FA7 FB7
                      clear hK K
                      (try simp only [Act.put, List.setIfInBounds_toArray, List.set_cons_zero, List.set_cons_succ])
                      refine wpAnyK_ready (rs := [8]) (by kernel_rfl) (by simp) ?_
                      refine AllReadyK.cons (o := { dst := some 133, op := Go.Op.call { callee := Go.Callee.builtin Go.Builtin.append, args := #[Go.Operand.tmp 130, Go.Operand.tmp 132], argTypes := #[62, 62] }, type := 62, pos := "law.go:61", after := #[{ on := 5, ground := Go.Ground.data }, { on := 7, ground := Go.Ground.data }], guard := none }) rfl (fun K hK => ?_) AllReadyK.nil
                      refine step_append_lies _ rfl (.tmp 130) (.tmp 132) 62 rfl _ 76 _ _ 4 48 Try.underlying62 hi4 hz40 hz41 hz42 rfl (by decide) _ _ _ rfl RS7 _ 1 1 [.int .u64 (x : Int), .int .u64 (lm : Int), .int .u64 (nx : Int), .slice A4 Q.length k4] rfl rfl (bx_news LA7) hon4 (by decide) (by simp only [maxLen]; omega) (by omega) Z7.bo.mine.size _ rfl ?_
                      intro gg8 cc8 v8 RS8 hg8 hat8 hlt8
                      have Z8 := Z7.app RS7 hg8 (by decide) (by decide) (by decide) (by decide) (by decide) (by decide)
                      have RT8 := app_own RS7 hg8 RT7 (by decide)
                      have P48 := app_own RS7 hg8 P47 (by decide)
                      have P58 := app_own RS7 hg8 P57 (by decide)
                      have FA8 := app_bx' hg8 FA7 (fun k hk => by have := hold1 k hk; omega)
                      have FB8 := app_bx RS7 hg8 FB7 (by decide)
                      have LB8 := app_bx RS7 hg8 LB7 (by decide)
                      clear Z7 FA7 FB7 RS7 RT7 P47 P57 LA7 LB7 hg8 hat8 hlt8
                      refine hK.out _ _ ?_ (fun hHeld => ?_)
                      · exact HS0 _ Z8.box FA8 FB8
                      clear hK K
                      (try simp only [Act.put, List.setIfInBounds_toArray, List.set_cons_zero, List.set_cons_succ])
                      refine wpAnyK_ready (rs := [15]) (by kernel_rfl) (by simp) ?_
                      refine AllReadyK.cons (o := { dst := some 140, op := Go.Op.call { callee := Go.Callee.builtin Go.Builtin.append, args := #[Go.Operand.tmp 137, Go.Operand.tmp 139], argTypes := #[63, 63] }, type := 63, pos := "law.go:61", after := #[{ on := 12, ground := Go.Ground.data }, { on := 14, ground := Go.Ground.data }, { on := 8, ground := Go.Ground.chain }], guard := none }) rfl (fun K hK => ?_) AllReadyK.nil
                      refine step_append_lies _ rfl (.tmp 137) (.tmp 139) 63 rfl _ 80 _ _ 3 40 Try.underlying63 hi3 hz30 hz31 hz32 rfl (by decide) _ _ _ rfl RT8 _ 1 1 [.int .u64 (x : Int), .int .u64 (nx : Int), .slice A5 Q.length k5] rfl rfl (bx_news LB8) hon5 (by decide) (by simp only [maxLen]; omega) (by omega) Z8.bo.mine.size _ rfl ?_
                      intro gg9 cc9 v9 RT9 hg9 hat9 hlt9
                      have Z9 := Z8.app RT8 hg9 (by decide) (by decide) (by decide) (by decide) (by decide) (by decide)
                      have RS9 := app_own RT8 hg9 RS8 (by decide)
                      have P49 := app_own RT8 hg9 P48 (by decide)
                      have P59 := app_own RT8 hg9 P58 (by decide)
                      have FB9 := app_bx' hg9 FB8 (fun k hk => by have := hold2 k hk; omega)
                      have FA9 := app_bx RT8 hg9 FA8 (by decide)
                      clear Z8 FA8 FB8 RS8 RT8 P48 P58 LB8 hg9 hat9 hlt9
                      refine hK.out _ _ ?_ (fun hHeld => ?_)
                      · exact HS0 _ Z9.box FA9 FB9
                      clear hK K
                      (try simp only [Act.put, List.setIfInBounds_toArray, List.set_cons_zero, List.set_cons_succ])
                      refine wpAnyK_takeW (i := 16) (oi := { dst := some 141, op := Go.Op.nilCheck (Go.Operand.tmp 125), type := 0, pos := "law.go:61", after := #[{ on := 0, ground := Go.Ground.data }, { on := 0, ground := Go.Ground.phase }, { on := 1, ground := Go.Ground.textOnly Go.Departure.lateStores }, { on := 2, ground := Go.Ground.phase }, { on := 3, ground := Go.Ground.phase }, { on := 4, ground := Go.Ground.phase }, { on := 5, ground := Go.Ground.phase }, { on := 6, ground := Go.Ground.phase }, { on := 7, ground := Go.Ground.phase }, { on := 8, ground := Go.Ground.phase }, { on := 9, ground := Go.Ground.textOnly Go.Departure.lateStores }, { on := 10, ground := Go.Ground.textOnly Go.Departure.lateStoresUnsure }, { on := 11, ground := Go.Ground.textOnly Go.Departure.lateStoresUnsure }, { on := 12, ground := Go.Ground.phase }, { on := 13, ground := Go.Ground.textOnly Go.Departure.lateStores }, { on := 14, ground := Go.Ground.textOnly Go.Departure.lateStoresUnsure }, { on := 15, ground := Go.Ground.phase }], guard := none }) (v := ?v17) rfl (by kernel_rfl) (by kernel_rfl) (by kernel_rfl) (by kernel_rfl) (fun _ _ _ h => h) (Or.inl ⟨by rfl, ?hy17⟩) (.inr (by assumption)) ?rest17
                      case hy17 => (intro w' _; go_simp <;> with_reducible rfl)
                      (try simp only [Act.put, List.setIfInBounds_toArray, List.set_cons_zero, List.set_cons_succ])
                      refine wpAnyK_takeW (i := 17) (oi := { dst := some 142, op := Go.Op.fieldAddr 65 (Go.Operand.tmp 141) 2, type := 0, pos := "law.go:61", after := #[{ on := 16, ground := Go.Ground.data }, { on := 0, ground := Go.Ground.phase }, { on := 1, ground := Go.Ground.textOnly Go.Departure.lateStores }, { on := 2, ground := Go.Ground.phase }, { on := 3, ground := Go.Ground.phase }, { on := 4, ground := Go.Ground.phase }, { on := 5, ground := Go.Ground.phase }, { on := 6, ground := Go.Ground.phase }, { on := 7, ground := Go.Ground.phase }, { on := 8, ground := Go.Ground.phase }, { on := 9, ground := Go.Ground.textOnly Go.Departure.lateStores }, { on := 10, ground := Go.Ground.textOnly Go.Departure.lateStoresUnsure }, { on := 11, ground := Go.Ground.textOnly Go.Departure.lateStoresUnsure }, { on := 12, ground := Go.Ground.phase }, { on := 13, ground := Go.Ground.textOnly Go.Departure.lateStores }, { on := 14, ground := Go.Ground.textOnly Go.Departure.lateStoresUnsure }, { on := 15, ground := Go.Ground.phase }], guard := none }) (v := ?v18) rfl (by kernel_rfl) (by kernel_rfl) (by kernel_rfl) (by kernel_rfl) (fun _ _ _ h => h) (Or.inl ⟨by rfl, ?hy18⟩) (.inr (by assumption)) ?rest18
                      case hy18 => (intro w' _; go_simp <;> with_reducible rfl)
                      (try simp only [Act.put, List.setIfInBounds_toArray, List.set_cons_zero, List.set_cons_succ])
                      refine wpAnyK_ready (rs := [18]) (by kernel_rfl) (by simp) ?_
                      refine AllReadyK.late (o := { dst := none, op := Go.Op.store 62 (Go.Operand.tmp 142) (Go.Operand.tmp 133), type := 0, pos := "law.go:61", after := #[{ on := 17, ground := Go.Ground.data }, { on := 8, ground := Go.Ground.data }, { on := 15, ground := Go.Ground.chain }, { on := 0, ground := Go.Ground.phase }, { on := 1, ground := Go.Ground.textOnly Go.Departure.lateStores }, { on := 2, ground := Go.Ground.phase }, { on := 3, ground := Go.Ground.phase }, { on := 4, ground := Go.Ground.phase }, { on := 5, ground := Go.Ground.phase }, { on := 6, ground := Go.Ground.phase }, { on := 7, ground := Go.Ground.phase }, { on := 8, ground := Go.Ground.phase }, { on := 9, ground := Go.Ground.textOnly Go.Departure.lateStores }, { on := 10, ground := Go.Ground.textOnly Go.Departure.lateStoresUnsure }, { on := 11, ground := Go.Ground.textOnly Go.Departure.lateStoresUnsure }, { on := 12, ground := Go.Ground.phase }, { on := 13, ground := Go.Ground.textOnly Go.Departure.lateStores }, { on := 14, ground := Go.Ground.textOnly Go.Departure.lateStoresUnsure }, { on := 15, ground := Go.Ground.phase }], guard := none }) rfl (by rfl) (fun K hK => ?_)
                      have y210 := Z9.box.cell 2
                      have z210 := Z9.box.frozen 2
                      go_simp
                      refine hK.out _ _ ?_
                      clear hK K
                      (try simp only [Act.put, List.setIfInBounds_toArray, List.set_cons_zero, List.set_cons_succ])
                      refine wpAnyK_takeW (i := 19) (oi := { dst := some 143, op := Go.Op.nilCheck (Go.Operand.tmp 126), type := 0, pos := "law.go:61", after := #[{ on := 1, ground := Go.Ground.data }, { on := 0, ground := Go.Ground.phase }, { on := 1, ground := Go.Ground.phase }, { on := 2, ground := Go.Ground.phase }, { on := 3, ground := Go.Ground.phase }, { on := 4, ground := Go.Ground.phase }, { on := 5, ground := Go.Ground.phase }, { on := 6, ground := Go.Ground.phase }, { on := 7, ground := Go.Ground.phase }, { on := 8, ground := Go.Ground.phase }, { on := 9, ground := Go.Ground.phase }, { on := 10, ground := Go.Ground.phase }, { on := 11, ground := Go.Ground.phase }, { on := 12, ground := Go.Ground.phase }, { on := 13, ground := Go.Ground.phase }, { on := 14, ground := Go.Ground.phase }, { on := 15, ground := Go.Ground.phase }, { on := 16, ground := Go.Ground.phase }, { on := 17, ground := Go.Ground.phase }, { on := 18, ground := Go.Ground.phase }], guard := none }) (v := ?v19) rfl (by kernel_rfl) (by kernel_rfl) (by kernel_rfl) (by kernel_rfl) (fun _ _ _ h => h) (Or.inl ⟨by rfl, ?hy19⟩) (.inl rfl) ?rest19
                      case hy19 => (intro w' _; go_simp <;> with_reducible rfl)
                      (try simp only [Act.put, List.setIfInBounds_toArray, List.set_cons_zero, List.set_cons_succ])
                      refine wpAnyK_takeW (i := 20) (oi := { dst := some 144, op := Go.Op.fieldAddr 65 (Go.Operand.tmp 143) 3, type := 0, pos := "law.go:61", after := #[{ on := 19, ground := Go.Ground.data }, { on := 0, ground := Go.Ground.phase }, { on := 1, ground := Go.Ground.phase }, { on := 2, ground := Go.Ground.phase }, { on := 3, ground := Go.Ground.phase }, { on := 4, ground := Go.Ground.phase }, { on := 5, ground := Go.Ground.phase }, { on := 6, ground := Go.Ground.phase }, { on := 7, ground := Go.Ground.phase }, { on := 8, ground := Go.Ground.phase }, { on := 9, ground := Go.Ground.phase }, { on := 10, ground := Go.Ground.phase }, { on := 11, ground := Go.Ground.phase }, { on := 12, ground := Go.Ground.phase }, { on := 13, ground := Go.Ground.phase }, { on := 14, ground := Go.Ground.phase }, { on := 15, ground := Go.Ground.phase }, { on := 16, ground := Go.Ground.phase }, { on := 17, ground := Go.Ground.phase }, { on := 18, ground := Go.Ground.phase }], guard := none }) (v := ?v20) rfl (by kernel_rfl) (by kernel_rfl) (by kernel_rfl) (by kernel_rfl) (fun _ _ _ h => h) (Or.inl ⟨by rfl, ?hy20⟩) (.inl rfl) ?rest20
                      case hy20 => (intro w' _; go_simp <;> with_reducible rfl)
                      (try simp only [Act.put, List.setIfInBounds_toArray, List.set_cons_zero, List.set_cons_succ])
                      refine wpAnyK_ready (rs := [21]) (by kernel_rfl) (by simp) ?_
                      refine AllReadyK.late (o := { dst := none, op := Go.Op.store 63 (Go.Operand.tmp 144) (Go.Operand.tmp 140), type := 0, pos := "law.go:61", after := #[{ on := 20, ground := Go.Ground.data }, { on := 15, ground := Go.Ground.data }, { on := 18, ground := Go.Ground.chain }, { on := 0, ground := Go.Ground.phase }, { on := 1, ground := Go.Ground.phase }, { on := 2, ground := Go.Ground.phase }, { on := 3, ground := Go.Ground.phase }, { on := 4, ground := Go.Ground.phase }, { on := 5, ground := Go.Ground.phase }, { on := 6, ground := Go.Ground.phase }, { on := 7, ground := Go.Ground.phase }, { on := 8, ground := Go.Ground.phase }, { on := 9, ground := Go.Ground.phase }, { on := 10, ground := Go.Ground.phase }, { on := 11, ground := Go.Ground.phase }, { on := 12, ground := Go.Ground.phase }, { on := 13, ground := Go.Ground.phase }, { on := 14, ground := Go.Ground.phase }, { on := 15, ground := Go.Ground.phase }, { on := 16, ground := Go.Ground.phase }, { on := 17, ground := Go.Ground.phase }, { on := 18, ground := Go.Ground.phase }], guard := none }) rfl (by rfl) (fun K hK => ?_)
                      have bs11 := Z9.box.set 2 (.slice (some ⟨gg8, 0, none⟩) (L.length + 1) cc8)
                      have y311 := bs11.cell 3
                      have z311 := bs11.frozen 3
                      clear bs11
                      go_simp
                      refine hK.out _ _ ?_
                      clear hK K
                      (try simp only [Act.put, List.setIfInBounds_toArray, List.set_cons_zero, List.set_cons_succ])
                      refine wpAnyK_done (by kernel_rfl) ?_ _
                      have PYN := Z9.more (⟨x, nx, Q, A4, k4, A5, k5⟩ : Pn) (by rw [hqe]; exact RS9) (by rw [hqf]; exact RT9) P49 P59 hn4 hn5 hI
                      clear Z9 FA9 FB9 RS9 RT9 P49 P59
                      go_wp2_with fail
                      go_roundw
                      case rel => first
                        | exact ⟨i + 1, L.length + 1, S, H, some ⟨gg8, 0, none⟩, some ⟨gg9, 0, none⟩, cc8, cc9, L ++ [(⟨x, nx, Q, A4, k4, A5, k5⟩ : Pn)], by omega, by omega, by omega, by rw [List.length_append, List.length_singleton]; omega, by rw [List.length_append, List.length_singleton], HOW2, by go_num, PYN⟩
                        | ((repeat apply Exists.intro); exact ⟨⟨i + 1, L.length + 1, S, H, some ⟨gg8, 0, none⟩, some ⟨gg9, 0, none⟩, cc8, cc9, L ++ [(⟨x, nx, Q, A4, k4, A5, k5⟩ : Pn)], by omega, by omega, by omega, by rw [List.length_append, List.length_singleton]; omega, by rw [List.length_append, List.length_singleton], HOW2, by go_num, PYN⟩, rfl⟩)
                      case measure => simp [intOf]; omega
                    refine AllReadyK.cons (o := { dst := some 139, op := Go.Op.buildSlice 63 1 #[(0, Go.Operand.tmp 138)], type := 63, pos := "law.go:61", after := #[{ on := 13, ground := Go.Ground.data }], guard := none }) rfl (fun K hK => ?_) AllReadyK.nil
                    go_simp
                    have bz12 : Below wc.drew.heap.size wc.drew (wc.drew.alloc (.cells #[.int .u64 (x : Int), .int .u64 (nx : Int), .slice A5 Q.length k5] 80)) := (Below.refl _ _).al _
                    have Z12 := Z0.below bz12
                    have FA12 := FA0.below bz12
                    have FB12 := FB0.below bz12
                    have RS12 := own_below RS0 bz12
                    have RT12 := own_below RT0 bz12
                    have P412 := own_below P40 bz12
                    have P512 := own_below P50 bz12
                    have LB12 : Bx (wc.drew.alloc (.cells #[.int .u64 (x : Int), .int .u64 (nx : Int), .slice A5 Q.length k5] 80)) (wc.drew.heap.size) 80 [.int .u64 (x : Int), .int .u64 (nx : Int), .slice A5 Q.length k5] := (by have h := Bx.new wc.drew 80 #[.int .u64 (x : Int), .int .u64 (nx : Int), .slice A5 Q.length k5] [.int .u64 (x : Int), .int .u64 (nx : Int), .slice A5 Q.length k5] rfl; exact h)
                    clear Z0 FA0 FB0 RS0 RT0 P40 P50
                    refine hK.out _ _ ?_ (fun hHeld => ?_)
                    · exact HS0 _ Z12.box FA12 FB12
                    clear hK K
                    (try simp only [Act.put, List.setIfInBounds_toArray, List.set_cons_zero, List.set_cons_succ])
                    refine wpAnyK_ready (rs := [7]) (by kernel_rfl) (by simp) ?_
                    refine AllReadyK.cons (o := { dst := some 132, op := Go.Op.buildSlice 62 1 #[(0, Go.Operand.tmp 131)], type := 62, pos := "law.go:61", after := #[{ on := 6, ground := Go.Ground.data }], guard := none }) rfl (fun K hK => ?_) AllReadyK.nil
                    go_simp
                    have bz13 : Below (wc.drew.alloc (.cells #[.int .u64 (x : Int), .int .u64 (nx : Int), .slice A5 Q.length k5] 80)).heap.size (wc.drew.alloc (.cells #[.int .u64 (x : Int), .int .u64 (nx : Int), .slice A5 Q.length k5] 80)) ((wc.drew.alloc (.cells #[.int .u64 (x : Int), .int .u64 (nx : Int), .slice A5 Q.length k5] 80)).alloc (.cells #[.int .u64 (x : Int), .int .u64 (lm : Int), .int .u64 (nx : Int), .slice A4 Q.length k4] 76)) := (Below.refl _ _).al _
                    have Z13 := Z12.below bz13
                    have FA13 := FA12.below bz13
                    have FB13 := FB12.below bz13
                    have RS13 := own_below RS12 bz13
                    have RT13 := own_below RT12 bz13
                    have P413 := own_below P412 bz13
                    have P513 := own_below P512 bz13
                    have LB13 := LB12.below bz13
                    have LA13 : Bx ((wc.drew.alloc (.cells #[.int .u64 (x : Int), .int .u64 (nx : Int), .slice A5 Q.length k5] 80)).alloc (.cells #[.int .u64 (x : Int), .int .u64 (lm : Int), .int .u64 (nx : Int), .slice A4 Q.length k4] 76)) (wc.drew.heap.size + 1) 76 [.int .u64 (x : Int), .int .u64 (lm : Int), .int .u64 (nx : Int), .slice A4 Q.length k4] := (by have h := Bx.new (wc.drew.alloc (.cells #[.int .u64 (x : Int), .int .u64 (nx : Int), .slice A5 Q.length k5] 80)) 76 #[.int .u64 (x : Int), .int .u64 (lm : Int), .int .u64 (nx : Int), .slice A4 Q.length k4] [.int .u64 (x : Int), .int .u64 (lm : Int), .int .u64 (nx : Int), .slice A4 Q.length k4] rfl; rw [show (wc.drew.alloc (.cells #[.int .u64 (x : Int), .int .u64 (nx : Int), .slice A5 Q.length k5] 80)).heap.size = wc.drew.heap.size + 1 by simp] at h; exact h)
                    clear Z12 FA12 FB12 RS12 RT12 P412 P512 LB12
                    refine hK.out _ _ ?_ (fun hHeld => ?_)
                    · exact HS0 _ Z13.box FA13 FB13
                    clear hK K
                    (try simp only [Act.put, List.setIfInBounds_toArray, List.set_cons_zero, List.set_cons_succ])
                    refine wpAnyK_ready (rs := [8]) (by kernel_rfl) (by simp) ?_
                    refine AllReadyK.cons (o := { dst := some 133, op := Go.Op.call { callee := Go.Callee.builtin Go.Builtin.append, args := #[Go.Operand.tmp 130, Go.Operand.tmp 132], argTypes := #[62, 62] }, type := 62, pos := "law.go:61", after := #[{ on := 5, ground := Go.Ground.data }, { on := 7, ground := Go.Ground.data }], guard := none }) rfl (fun K hK => ?_) AllReadyK.nil
                    refine step_append_lies _ rfl (.tmp 130) (.tmp 132) 62 rfl _ 76 _ _ 4 48 Try.underlying62 hi4 hz40 hz41 hz42 rfl (by decide) _ _ _ rfl RS13 _ 1 1 [.int .u64 (x : Int), .int .u64 (lm : Int), .int .u64 (nx : Int), .slice A4 Q.length k4] rfl rfl (bx_news LA13) hon4 (by decide) (by simp only [maxLen]; omega) (by omega) Z13.bo.mine.size _ rfl ?_
                    intro gg14 cc14 v14 RS14 hg14 hat14 hlt14
                    have Z14 := Z13.app RS13 hg14 (by decide) (by decide) (by decide) (by decide) (by decide) (by decide)
                    have RT14 := app_own RS13 hg14 RT13 (by decide)
                    have P414 := app_own RS13 hg14 P413 (by decide)
                    have P514 := app_own RS13 hg14 P513 (by decide)
                    have FA14 := app_bx' hg14 FA13 (fun k hk => by have := hold1 k hk; omega)
                    have FB14 := app_bx RS13 hg14 FB13 (by decide)
                    have LB14 := app_bx RS13 hg14 LB13 (by decide)
                    clear Z13 FA13 FB13 RS13 RT13 P413 P513 LA13 LB13 hg14 hat14 hlt14
                    refine hK.out _ _ ?_ (fun hHeld => ?_)
                    · exact HS0 _ Z14.box FA14 FB14
                    clear hK K
                    (try simp only [Act.put, List.setIfInBounds_toArray, List.set_cons_zero, List.set_cons_succ])
                    refine wpAnyK_ready (rs := [15]) (by kernel_rfl) (by simp) ?_
                    refine AllReadyK.cons (o := { dst := some 140, op := Go.Op.call { callee := Go.Callee.builtin Go.Builtin.append, args := #[Go.Operand.tmp 137, Go.Operand.tmp 139], argTypes := #[63, 63] }, type := 63, pos := "law.go:61", after := #[{ on := 12, ground := Go.Ground.data }, { on := 14, ground := Go.Ground.data }, { on := 8, ground := Go.Ground.chain }], guard := none }) rfl (fun K hK => ?_) AllReadyK.nil
                    refine step_append_lies _ rfl (.tmp 137) (.tmp 139) 63 rfl _ 80 _ _ 3 40 Try.underlying63 hi3 hz30 hz31 hz32 rfl (by decide) _ _ _ rfl RT14 _ 1 1 [.int .u64 (x : Int), .int .u64 (nx : Int), .slice A5 Q.length k5] rfl rfl (bx_news LB14) hon5 (by decide) (by simp only [maxLen]; omega) (by omega) Z14.bo.mine.size _ rfl ?_
                    intro gg15 cc15 v15 RT15 hg15 hat15 hlt15
                    have Z15 := Z14.app RT14 hg15 (by decide) (by decide) (by decide) (by decide) (by decide) (by decide)
                    have RS15 := app_own RT14 hg15 RS14 (by decide)
                    have P415 := app_own RT14 hg15 P414 (by decide)
                    have P515 := app_own RT14 hg15 P514 (by decide)
                    have FB15 := app_bx' hg15 FB14 (fun k hk => by have := hold2 k hk; omega)
                    have FA15 := app_bx RT14 hg15 FA14 (by decide)
                    clear Z14 FA14 FB14 RS14 RT14 P414 P514 LB14 hg15 hat15 hlt15
                    refine hK.out _ _ ?_ (fun hHeld => ?_)
                    · exact HS0 _ Z15.box FA15 FB15
                    clear hK K
                    (try simp only [Act.put, List.setIfInBounds_toArray, List.set_cons_zero, List.set_cons_succ])
                    refine wpAnyK_takeW (i := 16) (oi := { dst := some 141, op := Go.Op.nilCheck (Go.Operand.tmp 125), type := 0, pos := "law.go:61", after := #[{ on := 0, ground := Go.Ground.data }, { on := 0, ground := Go.Ground.phase }, { on := 1, ground := Go.Ground.textOnly Go.Departure.lateStores }, { on := 2, ground := Go.Ground.phase }, { on := 3, ground := Go.Ground.phase }, { on := 4, ground := Go.Ground.phase }, { on := 5, ground := Go.Ground.phase }, { on := 6, ground := Go.Ground.phase }, { on := 7, ground := Go.Ground.phase }, { on := 8, ground := Go.Ground.phase }, { on := 9, ground := Go.Ground.textOnly Go.Departure.lateStores }, { on := 10, ground := Go.Ground.textOnly Go.Departure.lateStoresUnsure }, { on := 11, ground := Go.Ground.textOnly Go.Departure.lateStoresUnsure }, { on := 12, ground := Go.Ground.phase }, { on := 13, ground := Go.Ground.textOnly Go.Departure.lateStores }, { on := 14, ground := Go.Ground.textOnly Go.Departure.lateStoresUnsure }, { on := 15, ground := Go.Ground.phase }], guard := none }) (v := ?v21) rfl (by kernel_rfl) (by kernel_rfl) (by kernel_rfl) (by kernel_rfl) (fun _ _ _ h => h) (Or.inl ⟨by rfl, ?hy21⟩) (.inr (by assumption)) ?rest21
                    case hy21 => (intro w' _; go_simp <;> with_reducible rfl)
                    (try simp only [Act.put, List.setIfInBounds_toArray, List.set_cons_zero, List.set_cons_succ])
                    refine wpAnyK_takeW (i := 17) (oi := { dst := some 142, op := Go.Op.fieldAddr 65 (Go.Operand.tmp 141) 2, type := 0, pos := "law.go:61", after := #[{ on := 16, ground := Go.Ground.data }, { on := 0, ground := Go.Ground.phase }, { on := 1, ground := Go.Ground.textOnly Go.Departure.lateStores }, { on := 2, ground := Go.Ground.phase }, { on := 3, ground := Go.Ground.phase }, { on := 4, ground := Go.Ground.phase }, { on := 5, ground := Go.Ground.phase }, { on := 6, ground := Go.Ground.phase }, { on := 7, ground := Go.Ground.phase }, { on := 8, ground := Go.Ground.phase }, { on := 9, ground := Go.Ground.textOnly Go.Departure.lateStores }, { on := 10, ground := Go.Ground.textOnly Go.Departure.lateStoresUnsure }, { on := 11, ground := Go.Ground.textOnly Go.Departure.lateStoresUnsure }, { on := 12, ground := Go.Ground.phase }, { on := 13, ground := Go.Ground.textOnly Go.Departure.lateStores }, { on := 14, ground := Go.Ground.textOnly Go.Departure.lateStoresUnsure }, { on := 15, ground := Go.Ground.phase }], guard := none }) (v := ?v22) rfl (by kernel_rfl) (by kernel_rfl) (by kernel_rfl) (by kernel_rfl) (fun _ _ _ h => h) (Or.inl ⟨by rfl, ?hy22⟩) (.inr (by assumption)) ?rest22
                    case hy22 => (intro w' _; go_simp <;> with_reducible rfl)
                    (try simp only [Act.put, List.setIfInBounds_toArray, List.set_cons_zero, List.set_cons_succ])
                    refine wpAnyK_ready (rs := [18]) (by kernel_rfl) (by simp) ?_
                    refine AllReadyK.late (o := { dst := none, op := Go.Op.store 62 (Go.Operand.tmp 142) (Go.Operand.tmp 133), type := 0, pos := "law.go:61", after := #[{ on := 17, ground := Go.Ground.data }, { on := 8, ground := Go.Ground.data }, { on := 15, ground := Go.Ground.chain }, { on := 0, ground := Go.Ground.phase }, { on := 1, ground := Go.Ground.textOnly Go.Departure.lateStores }, { on := 2, ground := Go.Ground.phase }, { on := 3, ground := Go.Ground.phase }, { on := 4, ground := Go.Ground.phase }, { on := 5, ground := Go.Ground.phase }, { on := 6, ground := Go.Ground.phase }, { on := 7, ground := Go.Ground.phase }, { on := 8, ground := Go.Ground.phase }, { on := 9, ground := Go.Ground.textOnly Go.Departure.lateStores }, { on := 10, ground := Go.Ground.textOnly Go.Departure.lateStoresUnsure }, { on := 11, ground := Go.Ground.textOnly Go.Departure.lateStoresUnsure }, { on := 12, ground := Go.Ground.phase }, { on := 13, ground := Go.Ground.textOnly Go.Departure.lateStores }, { on := 14, ground := Go.Ground.textOnly Go.Departure.lateStoresUnsure }, { on := 15, ground := Go.Ground.phase }], guard := none }) rfl (by rfl) (fun K hK => ?_)
                    have y216 := Z15.box.cell 2
                    have z216 := Z15.box.frozen 2
                    go_simp
                    refine hK.out _ _ ?_
                    clear hK K
                    (try simp only [Act.put, List.setIfInBounds_toArray, List.set_cons_zero, List.set_cons_succ])
                    refine wpAnyK_takeW (i := 19) (oi := { dst := some 143, op := Go.Op.nilCheck (Go.Operand.tmp 126), type := 0, pos := "law.go:61", after := #[{ on := 1, ground := Go.Ground.data }, { on := 0, ground := Go.Ground.phase }, { on := 1, ground := Go.Ground.phase }, { on := 2, ground := Go.Ground.phase }, { on := 3, ground := Go.Ground.phase }, { on := 4, ground := Go.Ground.phase }, { on := 5, ground := Go.Ground.phase }, { on := 6, ground := Go.Ground.phase }, { on := 7, ground := Go.Ground.phase }, { on := 8, ground := Go.Ground.phase }, { on := 9, ground := Go.Ground.phase }, { on := 10, ground := Go.Ground.phase }, { on := 11, ground := Go.Ground.phase }, { on := 12, ground := Go.Ground.phase }, { on := 13, ground := Go.Ground.phase }, { on := 14, ground := Go.Ground.phase }, { on := 15, ground := Go.Ground.phase }, { on := 16, ground := Go.Ground.phase }, { on := 17, ground := Go.Ground.phase }, { on := 18, ground := Go.Ground.phase }], guard := none }) (v := ?v23) rfl (by kernel_rfl) (by kernel_rfl) (by kernel_rfl) (by kernel_rfl) (fun _ _ _ h => h) (Or.inl ⟨by rfl, ?hy23⟩) (.inl rfl) ?rest23
                    case hy23 => (intro w' _; go_simp <;> with_reducible rfl)
                    (try simp only [Act.put, List.setIfInBounds_toArray, List.set_cons_zero, List.set_cons_succ])
                    refine wpAnyK_takeW (i := 20) (oi := { dst := some 144, op := Go.Op.fieldAddr 65 (Go.Operand.tmp 143) 3, type := 0, pos := "law.go:61", after := #[{ on := 19, ground := Go.Ground.data }, { on := 0, ground := Go.Ground.phase }, { on := 1, ground := Go.Ground.phase }, { on := 2, ground := Go.Ground.phase }, { on := 3, ground := Go.Ground.phase }, { on := 4, ground := Go.Ground.phase }, { on := 5, ground := Go.Ground.phase }, { on := 6, ground := Go.Ground.phase }, { on := 7, ground := Go.Ground.phase }, { on := 8, ground := Go.Ground.phase }, { on := 9, ground := Go.Ground.phase }, { on := 10, ground := Go.Ground.phase }, { on := 11, ground := Go.Ground.phase }, { on := 12, ground := Go.Ground.phase }, { on := 13, ground := Go.Ground.phase }, { on := 14, ground := Go.Ground.phase }, { on := 15, ground := Go.Ground.phase }, { on := 16, ground := Go.Ground.phase }, { on := 17, ground := Go.Ground.phase }, { on := 18, ground := Go.Ground.phase }], guard := none }) (v := ?v24) rfl (by kernel_rfl) (by kernel_rfl) (by kernel_rfl) (by kernel_rfl) (fun _ _ _ h => h) (Or.inl ⟨by rfl, ?hy24⟩) (.inl rfl) ?rest24
                    case hy24 => (intro w' _; go_simp <;> with_reducible rfl)
                    (try simp only [Act.put, List.setIfInBounds_toArray, List.set_cons_zero, List.set_cons_succ])
                    refine wpAnyK_ready (rs := [21]) (by kernel_rfl) (by simp) ?_
                    refine AllReadyK.late (o := { dst := none, op := Go.Op.store 63 (Go.Operand.tmp 144) (Go.Operand.tmp 140), type := 0, pos := "law.go:61", after := #[{ on := 20, ground := Go.Ground.data }, { on := 15, ground := Go.Ground.data }, { on := 18, ground := Go.Ground.chain }, { on := 0, ground := Go.Ground.phase }, { on := 1, ground := Go.Ground.phase }, { on := 2, ground := Go.Ground.phase }, { on := 3, ground := Go.Ground.phase }, { on := 4, ground := Go.Ground.phase }, { on := 5, ground := Go.Ground.phase }, { on := 6, ground := Go.Ground.phase }, { on := 7, ground := Go.Ground.phase }, { on := 8, ground := Go.Ground.phase }, { on := 9, ground := Go.Ground.phase }, { on := 10, ground := Go.Ground.phase }, { on := 11, ground := Go.Ground.phase }, { on := 12, ground := Go.Ground.phase }, { on := 13, ground := Go.Ground.phase }, { on := 14, ground := Go.Ground.phase }, { on := 15, ground := Go.Ground.phase }, { on := 16, ground := Go.Ground.phase }, { on := 17, ground := Go.Ground.phase }, { on := 18, ground := Go.Ground.phase }], guard := none }) rfl (by rfl) (fun K hK => ?_)
                    have bs17 := Z15.box.set 2 (.slice (some ⟨gg14, 0, none⟩) (L.length + 1) cc14)
                    have y317 := bs17.cell 3
                    have z317 := bs17.frozen 3
                    clear bs17
                    go_simp
                    refine hK.out _ _ ?_
                    clear hK K
                    (try simp only [Act.put, List.setIfInBounds_toArray, List.set_cons_zero, List.set_cons_succ])
                    refine wpAnyK_done (by kernel_rfl) ?_ _
                    have PYN := Z15.more (⟨x, nx, Q, A4, k4, A5, k5⟩ : Pn) (by rw [hqe]; exact RS15) (by rw [hqf]; exact RT15) P415 P515 hn4 hn5 hI
                    clear Z15 FA15 FB15 RS15 RT15 P415 P515
                    go_wp2_with fail
                    go_roundw
                    case rel => first
                      | exact ⟨i + 1, L.length + 1, S, H, some ⟨gg14, 0, none⟩, some ⟨gg15, 0, none⟩, cc14, cc15, L ++ [(⟨x, nx, Q, A4, k4, A5, k5⟩ : Pn)], by omega, by omega, by omega, by rw [List.length_append, List.length_singleton]; omega, by rw [List.length_append, List.length_singleton], HOW2, by go_num, PYN⟩
                      | ((repeat apply Exists.intro); exact ⟨⟨i + 1, L.length + 1, S, H, some ⟨gg14, 0, none⟩, some ⟨gg15, 0, none⟩, cc14, cc15, L ++ [(⟨x, nx, Q, A4, k4, A5, k5⟩ : Pn)], by omega, by omega, by omega, by rw [List.length_append, List.length_singleton]; omega, by rw [List.length_append, List.length_singleton], HOW2, by go_num, PYN⟩, rfl⟩)
                    case measure => simp [intOf]; omega
            · have t5 : ((d : Int) == 5) = false := beq_eq_false_iff_ne.2 (by omega)
              have t6 : ((d : Int) == 6) = false := beq_eq_false_iff_ne.2 (by omega)
              obtain ⟨ra, rb, hrab⟩ : ∃ a b : Int, begR 1 S = .tuple #[.int .u64 a, .int .i64 b] := by unfold begR; split <;> exact ⟨_, _, rfl⟩
              have hbl : begL 1 S = S ++ [1] := by unfold begL; rw [if_pos (by omega)]
              have HC := bo_begin SW.bo
              have HE := fun W H1 (hh : Ha w.heap.size w W g r 1 S (begL 1 S) H1) => ha_begin hh
              rw [hrab, hbl] at HC HE
              replace HC := Lib.hid HC
              replace HE := Lib.hid HE
              rw [hp] at HC HE
              clear hrab hbl
              go_wp2_with fail
              refine (HC.out).mono ?_
              rintro e w3 ⟨rfl, H3, B3, g3⟩
              have bx3 := g3.fr.bx SW.box SW.pH
              have e0 := bx3.cell 0
              have e1 := bx3.cell 1
              clear y0 y1 c0 c1' q0 q1 HC
              go_wp2_with fail
              refine (HE.out _ _ B3).mono ?_
              rintro e w4 ⟨rfl, H4, B4, g4⟩
              rw [← hp] at B4
              have S4 := SW.step (g3.trans g4) B4 fun q hq => sinv_begin (SW.inv q hq)
              clear B3 g3 g4 bx3 e0 e1 SW HE
              go_wp2_with fail
              go_roundw
              case rel => exact ⟨i + 1, N, _, _, A1, A2, c1, c2, L, by omega, by omega, by simp; omega, by omega, HNL.out, HOW.out, by go_num, S4⟩
              case measure => simp [intOf]; omega
    · rcases (show i = l.length ∨ (i < l.length ∧ i = mm) by omega) with hil | ⟨hlt2, hil⟩
      · subst hil
        have HF := Lib.hid hS
        have HNL := Lib.hid hNL
        clear r0 S0 hS hNL
        go_wp2_with fail
        refine bodyPost_ret (v := .tuple #[.pointer (some ⟨p, 0, none⟩), .bool true]) (by simp [results, Try.results28, go_sem]) rfl ?_
        exact ⟨p, g, r, S, H, A1, A2, c1, c2, L, rfl, by rw [← HNL.out]; exact HF.out, by omega, by omega, hown⟩
      · obtain ⟨ad, rfl, q0, q1⟩ := op10_at (Rd.below r0 (hS.bo.mine.below.mono (Nat.le_refl _))) hlt2
        have ix := idx_op10 ad l.length cc i hlt2
        generalize l[i] = o at *
        have hmi : (mm : Int) ≤ (i : Int) := by omega
        have HF := Lib.hid (hS.below ((Below.refl _ _).al (.cells #[.int .u8 (o.do_ : Int), .int .u64 (o.xid : Int)] 89)))
        have HNL := Lib.hid hNL
        clear r0 S0 hS hil hNL
        go_wp2_with fail
        refine bodyPost_ret (v := .tuple #[.pointer (some ⟨p, 0, none⟩), .bool true]) (by simp [results, Try.results28, go_sem]) rfl ?_
        exact ⟨p, g, r, S, H, A1, A2, c1, c2, L, rfl, by rw [← HNL.out]; exact HF.out, by omega, by omega, hown⟩
end Go.Proofs.Ytjkjomooklhdbaa
