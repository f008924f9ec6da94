/-
  The document's snapshots (ref10): Take, Least.
-/
import Derived.Test.YtbmkhopmhmmibaaSnapB
import Derived.Test.YtbmkhopmhmmibaaRef9C
namespace Go.Proofs.Ytbmkhopmhmmibaa
open Go.RowKit
set_option linter.unusedVariables false

def rsv (own nx : Nat) (v : Value) : Value := .agg #[.int .u64 (own : Int), .int .u64 (nx : Int), v]
theorem others_take (R : List Nat) (own : Nat) {k : Nat} (hk : k < R.length) : others (R.take (k + 1)) own = others (R.take k) own ++ (if R[k] = own then [] else [R[k]]) := by
  unfold others
  rw [← List.take_append_getElem hk, List.filter_append]
  congr 1
  by_cases h : R[k] = own
  · rw [if_pos h]; simp [h]
  · rw [if_neg h]; simp [h]
theorem below_set3 {w W : World} {b : Nat} {u0 u1 u2 : Value} (h : Below w.heap.size w W) (hb : w.heap.size ≤ b) : Below w.heap.size w (((W.setCell ⟨b, 0, none⟩ u0).setCell ⟨b, 1, none⟩ u1).setCell ⟨b, 2, none⟩ u2) :=
  ((h.setCell hb _).setCell hb _).setCell hb _
set_option maxRecDepth 100000 in
set_option maxHeartbeats 4000000 in
theorem rtake_any (w : World) (g f own : Nat) (S : List Nat) (G : Nat → Prop) (h : RG w g f S G) (hmax : f + S.length ≤ 1099511627777) :
    Calls Try.prog 16 #[.pointer (some ⟨g, 0, none⟩), .int .u64 (own : Int)] w fun e w' => ∃ v', e = .returned (rsv own (f + S.length) v') ∧ w'.ownsRow w.heap.size 28 1 v' (others (runs f S) own).length (ucells .u64 (others (runs f S) own)) ∧ Below w.heap.size w w' := by
  obtain ⟨i0, hi0, hz0, hz1, hz2⟩ := info_parts4 info_u64
  have hrl := runs_length f S
  obtain ⟨R, hR⟩ : ∃ R, R = runs f S := ⟨_, rfl⟩
  obtain ⟨nx, hnx⟩ : ∃ nx, nx = f + S.length := ⟨_, rfl⟩
  have HN : ∀ W, RG W g f S G → Calls Try.prog 41 #[.pointer (some ⟨g, 0, none⟩)] W fun e w' => e = .returned (.int .u64 (nx : Int)) ∧ ∃ n, w' = W.drewN n := fun W hW => by rw [hnx]; exact rg_next W g f S G hW
  have HA : ∀ W, RG W g f S G → Calls Try.prog 45 #[.pointer (some ⟨g, 0, none⟩)] W fun e w' => ∃ v', e = .returned v' ∧ w'.ownsRow W.heap.size 28 1 v' R.length (ucells .u64 R) ∧ Below W.heap.size W w' := fun W hW => by rw [hR]; exact rg_all W g f S G hW
  rw [← hR, ← hnx]
  rw [← hR] at hrl
  have hRl : R.length ≤ 1099511627777 := by omega
  replace HN := Lib.hid HN
  replace HA := Lib.hid HA
  clear hR hnx hrl
  go_enter Try.func16, Try.ntmps16
  go_wp2_with fail
  have r0 := Bx.new w 53 #[.int .u64 0, .int .u64 0, .slice none 0 0] [.int .u64 0, .int .u64 0, .slice none 0 0] rfl
  have h0 := h.below ((Below.refl w.heap.size w).al (.cells #[.int .u64 0, .int .u64 0, .slice none 0 0] 53))
  have x0 : Below w.heap.size w (w.alloc (.cells #[.int .u64 0, .int .u64 0, .slice none 0 0] 53)) := (Below.refl _ _).al _
  clear h
  generalize w.alloc (.cells #[.int .u64 0, .int .u64 0, .slice none 0 0] 53) = W0 at *
  refine (HN.out _ h0).mono ?_
  rintro e w1 ⟨rfl, n1, hw1⟩
  have r1 := r0.below (below_n _ n1)
  have h1 := h0.below (below_n _ n1)
  have x1 := x0.next (below_n _ n1)
  rw [← hw1] at r1 h1 x1
  clear hw1 r0 h0 x0 HN
  have b2 := Bx.new w1 53 #[.int .u64 (own : Int), .int .u64 (nx : Int), .slice none 0 0] [.int .u64 (own : Int), .int .u64 (nx : Int), .slice none 0 0] rfl
  have h2 := h1.below ((Below.refl w1.heap.size w1).al (.cells #[.int .u64 (own : Int), .int .u64 (nx : Int), .slice none 0 0] 53))
  have r2 := r1.below ((Below.refl w1.heap.size w1).al (.cells #[.int .u64 (own : Int), .int .u64 (nx : Int), .slice none 0 0] 53))
  have x2 := x1.next ((Below.refl w1.heap.size w1).al (.cells #[.int .u64 (own : Int), .int .u64 (nx : Int), .slice none 0 0] 53))
  have hsl := r1.lt
  clear r1 h1 x1
  go_wp2_with fail
  generalize w1.alloc (.cells #[.int .u64 (own : Int), .int .u64 (nx : Int), .slice none 0 0] 53) = W2 at *
  generalize w1.heap.size = sb at *
  refine (HA.out _ h2).mono ?_
  rintro e w3 ⟨v3, rfl, o3, b3⟩
  have r3 := r2.below b3
  have s3 := b2.below b3
  have x3 := x2.next b3
  have hW2 := b2.lt
  have hx2 := x2.size
  obtain ⟨A3, k3, hv3, _, _, _⟩ := own_form o3
  subst hv3
  have hne : sb ≠ w.heap.size := by omega
  have hb0 : w.heap.size ≤ W2.heap.size := hx2
  have HO3 := Lib.hid o3
  have H3 := Lib.hid (show ∀ k, (Value.slice A3 R.length k3).ownBlock = some k → W2.heap.size ≤ k ∧ k < w3.heap.size from fun k e => o3.lt k e)
  clear r2 b2 x2 h2 b3 HA o3
  go_wp2
  go_loopw [15] (fun iv wr => ∃ (k : Nat) (N : Nat) (A : Option Addr) (c : Nat), k ≤ R.length ∧ iv = .int .i64 (k : Int) ∧ N = (others (R.take k) own).length ∧ Bx wr sb 53 [.int .u64 (own : Int), .int .u64 (nx : Int), .slice A N c] ∧ wr.ownsRow w3.heap.size 28 1 (.slice A N c) (others (R.take k) own).length (ucells .u64 (others (R.take k) own)) ∧ wr.ownsRow W2.heap.size 28 1 (.slice A3 R.length k3) R.length (ucells .u64 R) ∧ Bx wr w.heap.size 53 [.int .u64 0, .int .u64 0, .slice none 0 0] ∧ Below w.heap.size w wr ∧ w3.heap.size ≤ wr.heap.size) (fun iv _ => R.length - (intOf iv).toNat)
  case atStart => exact ⟨0, 0, none, 0, Nat.zero_le _, rfl, rfl, s3, World.ownsRow_nil _ _ _ _, HO3.out, r3, x3, Nat.le_refl _⟩
  case round =>
    obtain ⟨k, N, A, c, hk, rfl, hN, sK, oK, aK, rK, xK, zK⟩ := hrel
    by_cases hlt : k < R.length
    · obtain ⟨gq, cq, hvq, _, _, _⟩ := own_shape aK (by omega)
      injection hvq with hA3 hL3 hk3
      clear hL3
      subst hA3 hk3
      have hcell := (aK.cellAt k (by omega)).trans (ucells_get .u64 R k hlt)
      have ix := idx_u64 gq R.length k3 k hlt
      have hot := others_take R own hlt
      generalize R[k] = y at *
      by_cases hy : y = own
      · have hyb : ((y : Int) == (own : Int)) = true := by rw [hy]; simp
        rw [if_pos hy, List.append_nil] at hot
        have HOT := Lib.hid hot
        clear hot hy
        go_wp2
        go_roundw
        case rel => exact ⟨k + 1, N, A, c, by omega, by go_num, by rw [HOT.out]; exact hN, sK, by rw [HOT.out]; exact oK, aK, rK, xK, zK⟩
        case measure => simp [intOf]; omega
      · have hyb : ((y : Int) == (own : Int)) = false := beq_eq_false_iff_ne.2 (by omega)
        rw [if_neg hy] at hot
        have HOT := Lib.hid hot
        have hol : (others (R.take k) own).length ≤ R.length := by
          have h1 : (others (R.take k) own).length ≤ (R.take k).length := List.length_filter_le _ _
          rw [List.length_take] at h1
          omega
        clear hot hy
        obtain ⟨Q, hQ⟩ : ∃ Q, Q = others (R.take k) own := ⟨_, rfl⟩
        rw [← hQ] at hN oK hol HOT
        have HN := Lib.hid hN
        have HQ := Lib.hid hQ
        have H3g := H3.out gq rfl
        have sA := sK.alloc (.cells #[.int .u64 (y : Int)] 28)
        have rA := rK.alloc (.cells #[.int .u64 (y : Int)] 28)
        have oA := World.ownsRow.alloc oK (.cells #[.int .u64 (y : Int)] 28)
        have aA := World.ownsRow.alloc aK (.cells #[.int .u64 (y : Int)] 28)
        have xA := xK.next ((Below.refl wr.heap.size wr).al (.cells #[.int .u64 (y : Int)] 28))
        have d2 : wr.cell? ⟨sb, 2, none⟩ = some (.slice A N c) := sK.cell 2
        have hxs := xK.size
        have hAs : (wr.alloc (.cells #[.int .u64 (y : Int)] 28)).heap.size = wr.heap.size + 1 := by simp
        clear hN hQ sK rK oK aK xK
        go_wp2_with (at_builtin; refine wpList_append_src _ rfl (.tmp 23) (.tmp 25) 48 48 rfl w3.heap.size 28 _ _ 1 8 Try.underlying48 hi0 hz0 hz1 hz2 rfl _ _ _ rfl oA _ 1 (ucells .u64 [y]) rfl (src_rd Try.underlying48 _ (rd_lit (by first | rfl | simp) rfl rfl) (by decide) (ucells_one _ _)) (by simp only [maxLen]; omega) (by omega) (by simp; omega) ?_; intro v5 w5 ho5 hg5 ha5; obtain ⟨g5, c5, rfl, _, _, _⟩ := own_shape ho5 (by omega); have f5 : Fr (fun k => (Value.slice A N c).ownBlock = some k) _ w5 := Fr.of_own hg5 (fun k e => e); have s5 := f5.bx sA (fun e => by have := (oA.lt _ e).1; omega); have r5 := f5.bx rA (fun e => by have := (oA.lt _ e).1; omega); have a5 := f5.own aA (fun k e e' => by have h1 := (oA.lt _ e').1; have h2 := H3.out _ e; omega); have x5 := xA.trans (f5.below (fun k e => by have := (oA.lt _ e).1; omega) xA.size); have z5 := f5.size; have e2 := s5.cell 2; have z2 := s5.frozen 2; have fs : Fr (fun k => k = sb) w5 (w5.setCell ⟨sb, 2, none⟩ (.slice (some ⟨g5, 0, none⟩) (Q.length + 1) c5)) := Fr.set (S := fun k => k = sb) (Fr.refl _ _) (.inl rfl) 2 _; have s6 := s5.set 2 (.slice (some ⟨g5, 0, none⟩) (Q.length + 1) c5); have r6 := fs.bx r5 (fun e => hne e.symm); have a6 := fs.own a5 (fun k e e' => by have h2 := H3.out _ e; omega); have o6 := fs.own ho5 (fun k e e' => by have h1 := (ho5.lt _ e).1; omega); have x6 := x5.trans (fs.below (B := w.heap.size) (fun k e => by omega) x5.size); have S6 := Lib.hid s6; have R6 := Lib.hid r6; have A6 := Lib.hid a6; have O6 := Lib.hid o6; have X6 := Lib.hid x6; have Z6 : w3.heap.size ≤ w5.heap.size := (by omega); clear s5 r5 a5 x5 s6 r6 a6 o6 x6 fs ho5 hg5 ha5 f5 sA rA oA aA xA)
        go_roundw
        case rel => exact ⟨k + 1, Q.length + 1, some ⟨g5, 0, none⟩, c5, by omega, by go_num, by rw [HOT.out, List.length_append]; rfl, S6.out, by
          rw [HOT.out, List.length_append, ucells_append]
          exact O6.out, A6.out, R6.out, X6.out, by simpa [World.setCell] using Z6⟩
        case measure => simp [intOf]; omega
    · obtain rfl : k = R.length := by omega
      rw [List.take_length] at hN oK
      obtain ⟨Q, hQ⟩ : ∃ Q, Q = others R own := ⟨_, rfl⟩
      have HQ := Lib.hid hQ
      rw [← hQ] at hN oK
      clear hQ
      have k0 : wr.cell? ⟨sb, 0, none⟩ = some (.int .u64 (own : Int)) := sK.cell 0
      have k1 : wr.cell? ⟨sb, 1, none⟩ = some (.int .u64 (nx : Int)) := sK.cell 1
      have k2 : wr.cell? ⟨sb, 2, none⟩ = some (.slice A N c) := sK.cell 2
      have d0 := rK.cell 0
      have d1 := rK.cell 1
      have d2 := rK.cell 2
      have z0 := rK.frozen 0
      have z1 := rK.frozen 1
      have z2 := rK.frozen 2
      have bz := ((rK.set 0 (.int .u64 (own : Int))).set 1 (.int .u64 (nx : Int))).set 2 (.slice A N c)
      have fz : Fr (fun k => k = w.heap.size) wr (((wr.setCell ⟨w.heap.size, 0, none⟩ (.int .u64 (own : Int))).setCell ⟨w.heap.size, 1, none⟩ (.int .u64 (nx : Int))).setCell ⟨w.heap.size, 2, none⟩ (.slice A N c)) := Fr.set (Fr.set (Fr.set (S := fun k => k = w.heap.size) (Fr.refl _ _) (.inl rfl) 0 _) (.inl rfl) 1 _) (.inl rfl) 2 _
      have hw3 : w.heap.size < w3.heap.size := r3.lt
      have oz := own_le (fz.own oK fun k e e' => by have := (oK.lt _ e).1; omega) (Nat.le_of_lt hw3)
      have xz := below_set3 (u0 := .int .u64 (own : Int)) (u1 := .int .u64 (nx : Int)) (u2 := .slice A N c) xK (Nat.le_refl w.heap.size)
      have HNN := Lib.hid hN
      clear fz oK hN r3 s3
      go_wp2
      generalize ((wr.setCell ⟨w.heap.size, 0, none⟩ (.int .u64 (own : Int))).setCell ⟨w.heap.size, 1, none⟩ (.int .u64 (nx : Int))).setCell ⟨w.heap.size, 2, none⟩ (.slice A N c) = W at *
      have j0 : W.cell? ⟨w.heap.size, 0, none⟩ = some (.int .u64 (own : Int)) := bz.cell 0
      have j1 : W.cell? ⟨w.heap.size, 1, none⟩ = some (.int .u64 (nx : Int)) := bz.cell 1
      have j2 : W.cell? ⟨w.heap.size, 2, none⟩ = some (.slice A N c) := bz.cell 2
      refine bodyPost_ret (v := rsv own nx (.slice A N c)) (by simp [rsv, results, Try.results16, go_sem, j0, j1, j2]) rfl ?_
      rw [← HQ.out]
      exact ⟨_, rfl, oz, xz⟩
end Go.Proofs.Ytbmkhopmhmmibaa
