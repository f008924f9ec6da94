/-
  KeyJoins: the walk: where the library's tables hold what its text lays, the law answers true; of what was there nothing has turned.
-/
import Derived.Test.YtdlgobakoomkpaaDoorKeyD
import Derived.RegionTactic
import Derived.ChangeAlike
namespace Go.Proofs.YtdlgobakoomkpaaDoor.keyJoins
open Go.RowKit

theorem front6 {w : World} {A : Option Addr} {l : List Val} (h : Vrd w A l) : Vrd w A (l.take 6) := by
  by_cases hl : 6 ≤ l.length
  · exact h.front hl
  · rw [List.take_of_length_le (by omega)]; exact h
set_option maxHeartbeats 2000000 in
theorem walk_yy (A0 A1 : Option Addr) (c0 c1 : Nat) (l0 l1 : List Val) (w : World) (hE : Env w) (r0 : Vrd w A0 (l0.take 6)) (r1 : Vrd w A1 (l1.take 6))
    (n0 : l0.length ≤ c0) (n1 : l1.length ≤ c1) (m0 : c0 ≤ 9223372036854775807) (m1 : c1 ≤ 9223372036854775807) (o0 : ∀ x ∈ l0.take 6, ValOk x) (o1 : ∀ x ∈ l1.take 6, ValOk x)
    (hA : (l0.take 6).all rightB = true) (hB : (l1.take 6).all rightB = true) :
    Calls Tryd.prog 7 #[.slice A0 l0.length c0, .slice A1 l1.length c1] w fun e w' => e = .returned (.bool true) ∧ Below w.heap.size w w' := by
  obtain ⟨i0, hi0, hz0, hz1, hz2⟩ := info_parts info_u8
  obtain ⟨i4, hi4, hv0, hv1, hv2⟩ := info_parts info_val
  have e0 : (l0.take 6).length = min l0.length 6 := by rw [List.length_take, Nat.min_comm]
  have e1 : (l1.take 6).length = min l1.length 6 := by rw [List.length_take, Nat.min_comm]
  generalize l0.take 6 = la at *
  generalize l1.take 6 = lb at *
  have f0 : min (l0.length : Int) 6 = (la.length : Int) := by omega
  have f1 : min (l1.length : Int) 6 = (lb.length : Int) := by omega
  have g0 : la.length ≤ 6 := by omega
  have g1 : lb.length ≤ 6 := by omega
  have g2 : la.length ≤ l0.length := by omega
  have g3 : lb.length ≤ l1.length := by omega
  clear e0 e1
  have hab : (la ++ lb).all rightB = true := by rw [List.all_append, hA, hB]; rfl
  go_enter Tryd.func7, Tryd.ntmps7
  go_wp2_with fail
  refine (awake3_any _ hE).mono ?_
  rintro e w1 ⟨rfl, hb1⟩
  have y0 := r0.below hb1
  have y1 := r1.below hb1
  go_wp2
  go_region
  all_goals
    have x1 : Below w.heap.size w w1.drew := hb1.drew
    go_wp2_with fail
    refine (kbytes_yes A0 c0 la hA w1.drew (by omega) y0.drew o0 (hE.next x1)).mono ?_
    rintro e w2 ⟨v2, rfl, ho2, hb2⟩
    obtain ⟨B2, d2, rfl, hn2, hd2, hB2⟩ := byt_slice ho2
    have x2 := x1.next hb2
    have y1 := y1.drew.below hb2
    have y0 := y0.drew.below hb2
    go_wp2_with fail
    refine (kbytes_yes A1 c1 lb hB w2 (by omega) y1 o1 (hE.next x2)).mono ?_
    rintro e w3 ⟨v3, rfl, ho3, hb3⟩
    obtain ⟨B3, d3, rfl, hn3, hd3, hB3⟩ := byt_slice ho3
    have x3 := x2.next hb3
    have y1 := y1.below hb3
    have y0 := y0.below hb3
    have ho2 := own_below ho2 hb3
    have z3 := hb3.size
    have z2 := hb2.size
    go_wp2_with (first | (at_builtin; refine wpList_append_src _ rfl (.tmp 34) (.tmp 35) 22 22 rfl w3.heap.size 43 _ _ 4 40 Tryd.underlying22 hi4 hv0 hv1 hv2 rfl _ 0 [] rfl (made_nil w3 _ 4) _ la.length (vcells la) rfl (src_rd Tryd.underlying22 _ (Rd.alloc y0 _) (by decide) (vcells_one _)) (by simp only [maxLen]; omega) (by omega) (by simp) ?_; intro v4 w4 ho4 hg4 ha4; have hb4 : Below w3.heap.size w3 w4 := ((Below.refl _ _).alloc (Nat.le_refl _) _).trans (grown_below (made_nil w3 _ 4) hg4 (by simp))) | (at_builtin; refine wpList_append_src _ rfl (.tmp 36) (.tmp 37) 22 22 rfl w3.heap.size 43 _ _ 4 40 Tryd.underlying22 hi4 hv0 hv1 hv2 rfl v4 _ _ rfl ho4 _ lb.length (vcells lb) rfl (src_rd Tryd.underlying22 _ (Rd.below y1 hb4) (by decide) (vcells_one _)) (by simp only [maxLen]; omega) (by omega) hb4.size ?_; intro v5 w5 ho5 hg5 ha5; have hb5 : Below w3.heap.size w3 w5 := hb4.trans (grown_below ho4 hg5 hb4.size); have x5 := x3.next hb5; obtain ⟨A5, d5, rfl, hn5, hd5, hB5⟩ := vls_slice (vls_of (m := la ++ lb) ho5 (by simp [vcells_append])); simp only [List.length_append] at hn5))
    have gk := kbytes_yes A5 d5 (la ++ lb) hab w5 (by rw [List.length_append]; omega) hB5 (fun x hx => (List.mem_append.1 hx).elim (o0 x) (o1 x)) (hE.next x5)
    rw [List.length_append] at gk
    refine gk.mono ?_
    rintro e w6 ⟨v6, rfl, ho6, hb6⟩
    obtain ⟨B6, d6, rfl, hn6, hd6, hB6⟩ := byt_slice ho6
    have x6 := x5.next hb6
    clear gk
    have z6 := hb6.size
    have hq := own_below ho2 (hb5.trans (hb6.mono hb5.size))
    have l1 := encs_len la hA
    have l2 := encs_len lb hB
    have k3 : Brd w6 B3 (encs lb) := (hB3.below hb5).below hb6
    go_wp2_with (at_builtin; refine wpList_append_srcg _ (by rfl) (.tmp 59) (.tmp 60) 24 24 rfl w1.drew.heap.size 5 _ _ 1 1 Tryd.underlying24 hi0 hz0 hz1 hz2 rfl _ _ _ rfl hq _ (encs lb).length (bcells (encs lb)) rfl (src_rd Tryd.underlying24 _ k3 (by decide) (bcells_one _)) (by simp only [maxLen]; omega) (by omega) (Nat.le_trans hb2.size (Nat.le_trans z3 (Nat.le_trans hb5.size z6))) ?_; intro v7 w7 ho7 hg7 ha7; obtain ⟨B7, d7, rfl, hn7, hd7, hB7⟩ := byt_slice (byt_of (m := encs la ++ encs lb) ho7 (by rw [bcells_append])); simp only [List.length_append] at hn7; have hB6' : Brd w7 B6 (encs (la ++ lb)) := own_other ho6 hg7 (fun k hk => Nat.lt_of_lt_of_le (ho2.lt k hk).2 (hb5.size)))
    have gs := same3_any B6 B7 d6 d7 (encs (la ++ lb)) (encs la ++ encs lb) w7 hB6' hB7
    rw [encs_append, List.length_append] at gs
    rw [encs_append, List.length_append]
    refine gs.mono ?_
    rintro e w8 ⟨rfl, hw8⟩
    have hw := hw8.symm
    subst hw
    have hs : leqB (encs la ++ encs lb) (encs la ++ encs lb) = true := by simp [leqB]
    rw [hs]
    clear gs
    go_wp2
    go_ret
    exact ⟨rfl, x6.trans (grown_below (own_le hq x1.size) hg7 x6.size)⟩
set_option maxHeartbeats 2000000 in
theorem walk_yn (A0 A1 : Option Addr) (c0 c1 : Nat) (l0 l1 : List Val) (w : World) (hE : Env w) (r0 : Vrd w A0 (l0.take 6)) (r1 : Vrd w A1 (l1.take 6))
    (n0 : l0.length ≤ c0) (n1 : l1.length ≤ c1) (m0 : c0 ≤ 9223372036854775807) (m1 : c1 ≤ 9223372036854775807) (o0 : ∀ x ∈ l0.take 6, ValOk x) (o1 : ∀ x ∈ l1.take 6, ValOk x)
    (hA : (l0.take 6).all rightB = true) (hB : (l1.take 6).all rightB = false) :
    Calls Tryd.prog 7 #[.slice A0 l0.length c0, .slice A1 l1.length c1] w fun e w' => e = .returned (.bool true) ∧ Below w.heap.size w w' := by
  obtain ⟨i4, hi4, hv0, hv1, hv2⟩ := info_parts info_val
  have e0 : (l0.take 6).length = min l0.length 6 := by rw [List.length_take, Nat.min_comm]
  have e1 : (l1.take 6).length = min l1.length 6 := by rw [List.length_take, Nat.min_comm]
  generalize l0.take 6 = la at *
  generalize l1.take 6 = lb at *
  have f0 : min (l0.length : Int) 6 = (la.length : Int) := by omega
  have f1 : min (l1.length : Int) 6 = (lb.length : Int) := by omega
  have g0 : la.length ≤ 6 := by omega
  have g1 : lb.length ≤ 6 := by omega
  have g2 : la.length ≤ l0.length := by omega
  have g3 : lb.length ≤ l1.length := by omega
  clear e0 e1
  have hab : (la ++ lb).all rightB = false := by rw [List.all_append, hA, hB]; rfl
  go_enter Tryd.func7, Tryd.ntmps7
  go_wp2_with fail
  refine (awake3_any _ hE).mono ?_
  rintro e w1 ⟨rfl, hb1⟩
  have y0 := r0.below hb1
  have y1 := r1.below hb1
  go_wp2
  go_region
  all_goals
    have x1 : Below w.heap.size w w1.drew := hb1.drew
    go_wp2_with fail
    refine (kbytes_yes A0 c0 la hA w1.drew (by omega) y0.drew o0 (hE.next x1)).mono ?_
    rintro e w2 ⟨v2, rfl, ho2, hb2⟩
    obtain ⟨B2, d2, rfl, hn2, hd2, hB2⟩ := byt_slice ho2
    have x2 := x1.next hb2
    have y1 := y1.drew.below hb2
    have y0 := y0.drew.below hb2
    go_wp2_with fail
    refine (kbytes_no A1 c1 lb hB w2 (by omega) y1 o1 (hE.next x2)).mono ?_
    rintro e w3 ⟨v3, rfl, ho3, hb3⟩
    obtain ⟨B3, d3, rfl, hn3, hd3, hB3⟩ := byt_slice ho3
    have x3 := x2.next hb3
    have y1 := y1.below hb3
    have y0 := y0.below hb3
    have ho2 := own_below ho2 hb3
    have z3 := hb3.size
    have z2 := hb2.size
    go_wp2_with (first | (at_builtin; refine wpList_append_src _ rfl (.tmp 34) (.tmp 35) 22 22 rfl w3.heap.size 43 _ _ 4 40 Tryd.underlying22 hi4 hv0 hv1 hv2 rfl _ 0 [] rfl (made_nil w3 _ 4) _ la.length (vcells la) rfl (src_rd Tryd.underlying22 _ (Rd.alloc y0 _) (by decide) (vcells_one _)) (by simp only [maxLen]; omega) (by omega) (by simp) ?_; intro v4 w4 ho4 hg4 ha4; have hb4 : Below w3.heap.size w3 w4 := ((Below.refl _ _).alloc (Nat.le_refl _) _).trans (grown_below (made_nil w3 _ 4) hg4 (by simp))) | (at_builtin; refine wpList_append_src _ rfl (.tmp 36) (.tmp 37) 22 22 rfl w3.heap.size 43 _ _ 4 40 Tryd.underlying22 hi4 hv0 hv1 hv2 rfl v4 _ _ rfl ho4 _ lb.length (vcells lb) rfl (src_rd Tryd.underlying22 _ (Rd.below y1 hb4) (by decide) (vcells_one _)) (by simp only [maxLen]; omega) (by omega) hb4.size ?_; intro v5 w5 ho5 hg5 ha5; have hb5 : Below w3.heap.size w3 w5 := hb4.trans (grown_below ho4 hg5 hb4.size); have x5 := x3.next hb5; obtain ⟨A5, d5, rfl, hn5, hd5, hB5⟩ := vls_slice (vls_of (m := la ++ lb) ho5 (by simp [vcells_append])); simp only [List.length_append] at hn5))
    have gk := kbytes_no A5 d5 (la ++ lb) hab w5 (by rw [List.length_append]; omega) hB5 (fun x hx => (List.mem_append.1 hx).elim (o0 x) (o1 x)) (hE.next x5)
    rw [List.length_append] at gk
    refine gk.mono ?_
    rintro e w6 ⟨v6, rfl, ho6, hb6⟩
    obtain ⟨B6, d6, rfl, hn6, hd6, hB6⟩ := byt_slice ho6
    have x6 := x5.next hb6
    clear gk
    go_wp2
    go_ret
    exact ⟨rfl, x6⟩
set_option maxHeartbeats 2000000 in
theorem walk_ny (A0 A1 : Option Addr) (c0 c1 : Nat) (l0 l1 : List Val) (w : World) (hE : Env w) (r0 : Vrd w A0 (l0.take 6)) (r1 : Vrd w A1 (l1.take 6))
    (n0 : l0.length ≤ c0) (n1 : l1.length ≤ c1) (m0 : c0 ≤ 9223372036854775807) (m1 : c1 ≤ 9223372036854775807) (o0 : ∀ x ∈ l0.take 6, ValOk x) (o1 : ∀ x ∈ l1.take 6, ValOk x)
    (hA : (l0.take 6).all rightB = false) (hB : (l1.take 6).all rightB = true) :
    Calls Tryd.prog 7 #[.slice A0 l0.length c0, .slice A1 l1.length c1] w fun e w' => e = .returned (.bool true) ∧ Below w.heap.size w w' := by
  obtain ⟨i4, hi4, hv0, hv1, hv2⟩ := info_parts info_val
  have e0 : (l0.take 6).length = min l0.length 6 := by rw [List.length_take, Nat.min_comm]
  have e1 : (l1.take 6).length = min l1.length 6 := by rw [List.length_take, Nat.min_comm]
  generalize l0.take 6 = la at *
  generalize l1.take 6 = lb at *
  have f0 : min (l0.length : Int) 6 = (la.length : Int) := by omega
  have f1 : min (l1.length : Int) 6 = (lb.length : Int) := by omega
  have g0 : la.length ≤ 6 := by omega
  have g1 : lb.length ≤ 6 := by omega
  have g2 : la.length ≤ l0.length := by omega
  have g3 : lb.length ≤ l1.length := by omega
  clear e0 e1
  have hab : (la ++ lb).all rightB = false := by rw [List.all_append, hA, hB]; rfl
  go_enter Tryd.func7, Tryd.ntmps7
  go_wp2_with fail
  refine (awake3_any _ hE).mono ?_
  rintro e w1 ⟨rfl, hb1⟩
  have y0 := r0.below hb1
  have y1 := r1.below hb1
  go_wp2
  go_region
  all_goals
    have x1 : Below w.heap.size w w1.drew := hb1.drew
    go_wp2_with fail
    refine (kbytes_no A0 c0 la hA w1.drew (by omega) y0.drew o0 (hE.next x1)).mono ?_
    rintro e w2 ⟨v2, rfl, ho2, hb2⟩
    obtain ⟨B2, d2, rfl, hn2, hd2, hB2⟩ := byt_slice ho2
    have x2 := x1.next hb2
    have y1 := y1.drew.below hb2
    have y0 := y0.drew.below hb2
    go_wp2_with fail
    refine (kbytes_yes A1 c1 lb hB w2 (by omega) y1 o1 (hE.next x2)).mono ?_
    rintro e w3 ⟨v3, rfl, ho3, hb3⟩
    obtain ⟨B3, d3, rfl, hn3, hd3, hB3⟩ := byt_slice ho3
    have x3 := x2.next hb3
    have y1 := y1.below hb3
    have y0 := y0.below hb3
    have ho2 := own_below ho2 hb3
    have z3 := hb3.size
    have z2 := hb2.size
    go_wp2_with (first | (at_builtin; refine wpList_append_src _ rfl (.tmp 34) (.tmp 35) 22 22 rfl w3.heap.size 43 _ _ 4 40 Tryd.underlying22 hi4 hv0 hv1 hv2 rfl _ 0 [] rfl (made_nil w3 _ 4) _ la.length (vcells la) rfl (src_rd Tryd.underlying22 _ (Rd.alloc y0 _) (by decide) (vcells_one _)) (by simp only [maxLen]; omega) (by omega) (by simp) ?_; intro v4 w4 ho4 hg4 ha4; have hb4 : Below w3.heap.size w3 w4 := ((Below.refl _ _).alloc (Nat.le_refl _) _).trans (grown_below (made_nil w3 _ 4) hg4 (by simp))) | (at_builtin; refine wpList_append_src _ rfl (.tmp 36) (.tmp 37) 22 22 rfl w3.heap.size 43 _ _ 4 40 Tryd.underlying22 hi4 hv0 hv1 hv2 rfl v4 _ _ rfl ho4 _ lb.length (vcells lb) rfl (src_rd Tryd.underlying22 _ (Rd.below y1 hb4) (by decide) (vcells_one _)) (by simp only [maxLen]; omega) (by omega) hb4.size ?_; intro v5 w5 ho5 hg5 ha5; have hb5 : Below w3.heap.size w3 w5 := hb4.trans (grown_below ho4 hg5 hb4.size); have x5 := x3.next hb5; obtain ⟨A5, d5, rfl, hn5, hd5, hB5⟩ := vls_slice (vls_of (m := la ++ lb) ho5 (by simp [vcells_append])); simp only [List.length_append] at hn5))
    have gk := kbytes_no A5 d5 (la ++ lb) hab w5 (by rw [List.length_append]; omega) hB5 (fun x hx => (List.mem_append.1 hx).elim (o0 x) (o1 x)) (hE.next x5)
    rw [List.length_append] at gk
    refine gk.mono ?_
    rintro e w6 ⟨v6, rfl, ho6, hb6⟩
    obtain ⟨B6, d6, rfl, hn6, hd6, hB6⟩ := byt_slice ho6
    have x6 := x5.next hb6
    clear gk
    go_wp2
    go_ret
    exact ⟨rfl, x6⟩
set_option maxHeartbeats 2000000 in
theorem walk_nn (A0 A1 : Option Addr) (c0 c1 : Nat) (l0 l1 : List Val) (w : World) (hE : Env w) (r0 : Vrd w A0 (l0.take 6)) (r1 : Vrd w A1 (l1.take 6))
    (n0 : l0.length ≤ c0) (n1 : l1.length ≤ c1) (m0 : c0 ≤ 9223372036854775807) (m1 : c1 ≤ 9223372036854775807) (o0 : ∀ x ∈ l0.take 6, ValOk x) (o1 : ∀ x ∈ l1.take 6, ValOk x)
    (hA : (l0.take 6).all rightB = false) (hB : (l1.take 6).all rightB = false) :
    Calls Tryd.prog 7 #[.slice A0 l0.length c0, .slice A1 l1.length c1] w fun e w' => e = .returned (.bool true) ∧ Below w.heap.size w w' := by
  obtain ⟨i4, hi4, hv0, hv1, hv2⟩ := info_parts info_val
  have e0 : (l0.take 6).length = min l0.length 6 := by rw [List.length_take, Nat.min_comm]
  have e1 : (l1.take 6).length = min l1.length 6 := by rw [List.length_take, Nat.min_comm]
  generalize l0.take 6 = la at *
  generalize l1.take 6 = lb at *
  have f0 : min (l0.length : Int) 6 = (la.length : Int) := by omega
  have f1 : min (l1.length : Int) 6 = (lb.length : Int) := by omega
  have g0 : la.length ≤ 6 := by omega
  have g1 : lb.length ≤ 6 := by omega
  have g2 : la.length ≤ l0.length := by omega
  have g3 : lb.length ≤ l1.length := by omega
  clear e0 e1
  have hab : (la ++ lb).all rightB = false := by rw [List.all_append, hA, hB]; rfl
  go_enter Tryd.func7, Tryd.ntmps7
  go_wp2_with fail
  refine (awake3_any _ hE).mono ?_
  rintro e w1 ⟨rfl, hb1⟩
  have y0 := r0.below hb1
  have y1 := r1.below hb1
  go_wp2
  go_region
  all_goals
    have x1 : Below w.heap.size w w1.drew := hb1.drew
    go_wp2_with fail
    refine (kbytes_no A0 c0 la hA w1.drew (by omega) y0.drew o0 (hE.next x1)).mono ?_
    rintro e w2 ⟨v2, rfl, ho2, hb2⟩
    obtain ⟨B2, d2, rfl, hn2, hd2, hB2⟩ := byt_slice ho2
    have x2 := x1.next hb2
    have y1 := y1.drew.below hb2
    have y0 := y0.drew.below hb2
    go_wp2_with fail
    refine (kbytes_no A1 c1 lb hB w2 (by omega) y1 o1 (hE.next x2)).mono ?_
    rintro e w3 ⟨v3, rfl, ho3, hb3⟩
    obtain ⟨B3, d3, rfl, hn3, hd3, hB3⟩ := byt_slice ho3
    have x3 := x2.next hb3
    have y1 := y1.below hb3
    have y0 := y0.below hb3
    have ho2 := own_below ho2 hb3
    have z3 := hb3.size
    have z2 := hb2.size
    go_wp2_with (first | (at_builtin; refine wpList_append_src _ rfl (.tmp 34) (.tmp 35) 22 22 rfl w3.heap.size 43 _ _ 4 40 Tryd.underlying22 hi4 hv0 hv1 hv2 rfl _ 0 [] rfl (made_nil w3 _ 4) _ la.length (vcells la) rfl (src_rd Tryd.underlying22 _ (Rd.alloc y0 _) (by decide) (vcells_one _)) (by simp only [maxLen]; omega) (by omega) (by simp) ?_; intro v4 w4 ho4 hg4 ha4; have hb4 : Below w3.heap.size w3 w4 := ((Below.refl _ _).alloc (Nat.le_refl _) _).trans (grown_below (made_nil w3 _ 4) hg4 (by simp))) | (at_builtin; refine wpList_append_src _ rfl (.tmp 36) (.tmp 37) 22 22 rfl w3.heap.size 43 _ _ 4 40 Tryd.underlying22 hi4 hv0 hv1 hv2 rfl v4 _ _ rfl ho4 _ lb.length (vcells lb) rfl (src_rd Tryd.underlying22 _ (Rd.below y1 hb4) (by decide) (vcells_one _)) (by simp only [maxLen]; omega) (by omega) hb4.size ?_; intro v5 w5 ho5 hg5 ha5; have hb5 : Below w3.heap.size w3 w5 := hb4.trans (grown_below ho4 hg5 hb4.size); have x5 := x3.next hb5; obtain ⟨A5, d5, rfl, hn5, hd5, hB5⟩ := vls_slice (vls_of (m := la ++ lb) ho5 (by simp [vcells_append])); simp only [List.length_append] at hn5))
    have gk := kbytes_no A5 d5 (la ++ lb) hab w5 (by rw [List.length_append]; omega) hB5 (fun x hx => (List.mem_append.1 hx).elim (o0 x) (o1 x)) (hE.next x5)
    rw [List.length_append] at gk
    refine gk.mono ?_
    rintro e w6 ⟨v6, rfl, ho6, hb6⟩
    obtain ⟨B6, d6, rfl, hn6, hd6, hB6⟩ := byt_slice ho6
    have x6 := x5.next hb6
    clear gk
    go_wp2
    go_ret
    exact ⟨rfl, x6⟩
theorem walk (A0 A1 : Option Addr) (c0 c1 : Nat) (l0 l1 : List Val) (w : World) (hE : Env w) (r0 : Vrd w A0 l0) (r1 : Vrd w A1 l1)
    (n0 : l0.length ≤ c0) (n1 : l1.length ≤ c1) (m0 : c0 ≤ 9223372036854775807) (m1 : c1 ≤ 9223372036854775807) (o0 : ∀ x ∈ l0, ValOk x) (o1 : ∀ x ∈ l1, ValOk x) :
    Calls Tryd.prog 7 #[.slice A0 l0.length c0, .slice A1 l1.length c1] w fun e w' => e = .returned (.bool true) ∧ Below w.heap.size w w' := by
  have q0 : Vrd w A0 (l0.take 6) := front6 r0
  have q1 : Vrd w A1 (l1.take 6) := front6 r1
  have p0 := ok_take o0 6
  have p1 := ok_take o1 6
  cases hA : (l0.take 6).all rightB <;> cases hB : (l1.take 6).all rightB
  · exact walk_nn A0 A1 c0 c1 l0 l1 w hE q0 q1 n0 n1 m0 m1 p0 p1 hA hB
  · exact walk_ny A0 A1 c0 c1 l0 l1 w hE q0 q1 n0 n1 m0 m1 p0 p1 hA hB
  · exact walk_yn A0 A1 c0 c1 l0 l1 w hE q0 q1 n0 n1 m0 m1 p0 p1 hA hB
  · exact walk_yy A0 A1 c0 c1 l0 l1 w hE q0 q1 n0 n1 m0 m1 p0 p1 hA hB
end Go.Proofs.YtdlgobakoomkpaaDoor.keyJoins
