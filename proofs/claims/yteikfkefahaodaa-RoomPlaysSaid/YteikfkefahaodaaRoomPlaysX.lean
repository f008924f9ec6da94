/-
  RoomPlays: the walk with two maps (the law's other half).
-/
import Derived.Test.YteikfkefahaodaaRoomPlaysW
import Derived.Test.YteikfkefahaodaaRoomT
namespace Go.Proofs.Yteikfkefahaodaa.roomPlays
open Go.RowKit Go.ChangeShapes Go.WideShapes Go.ChangeAt Go.Deep
set_option linter.unusedVariables false

set_option maxRecDepth 100000 in
set_option maxHeartbeats 4000000 in
theorem walk_two (A : Option Addr) (c : Nat) (l : List Step) (w : World) (r0 : Ord w A l) (n0 : l.length ≤ c) (m0 : c ≤ 9223372036854775807) :
    Calls Try.prog 3 #[.bool false, .slice A l.length c] w fun e w' => e = .returned (.bool true) ∧ Below w.heap.size w w' := by
  go_enter Try.func3, Try.ntmps3
  go_wp2_with fail
  refine (awake6_any _).mono ?_
  rintro e w1 ⟨rfl, hb1⟩
  have hz1 := hb1.size
  go_wp2_with fail
  refine (newroom_any w1 w.heap.size).mono ?_
  rintro e w2 ⟨rfl, hr2, hb2, hw2⟩
  have hz2 : w1.heap.size ≤ w2.heap.size := hb2.size
  clear hw2
  have hx2 : Below w.heap.size w w2 := hb1.trans (hb2.mono hz1)
  have hT0 : Two w (w2.alloc (.cells #[.slice none 0 0] 29)) w.heap.size w1.heap.size w.heap.size w2.heap.size w.heap.size w1.heap.size w2.heap.size (.slice none 0 0) (.slice none 0 0) [] [] :=
    ⟨hr2.alloc _, refm_new w2 _ rfl rfl, fun k e => by (cases e), hx2.alloc hx2.size _, Nat.le_refl _, hz1, Nat.le_refl _, hx2.size, Nat.le_refl _, by simp; omega, by simp; omega⟩
  go_wp2
  go_loopw [21] (fun iv wr => ∃ (k : Nat) (L : List Int) (v1 v2 : Value), k ≤ l.length ∧ iv = .int .i64 (k : Int) ∧ Two w wr w.heap.size w1.heap.size w.heap.size w2.heap.size w.heap.size w1.heap.size w2.heap.size v1 v2 L L ∧ L.length ≤ 256) (fun iv _ => l.length - (intOf iv).toNat)
  case atStart => exact ⟨0, [], _, _, Nat.zero_le _, rfl, by first | exact hT0 | exact hT0.heap _, by simp⟩
  case round =>
    obtain ⟨k, L, v1, v2, hk, rfl, hT, hL⟩ := hrel
    have hb := hT.below
    have hz := hb.size
    by_cases hlt : k < l.length
    · obtain ⟨ad, rfl, q0, q1, q2⟩ := Ord.at_ (Rd.below r0 (hb.mono (Nat.le_refl _))) hlt
      have ix := idx_op ad l.length c k hlt
      generalize l[k] = o at *
      by_cases h300 : k < 300
      · clear r0 hT0
        have k1 := hT.room.lt
        have k2 := hT.refm.box.lt w2.heap.size rfl
        have k3 := hT.room.row.lt
        have k4 := hT.refm.row.lt
        go_wp2_with fail
        have b := Bx.new wr 31 #[.int .i64 o.page, .int .i64 o.room, .int .i64 o.need] [.int .i64 o.page, .int .i64 o.room, .int .i64 o.need] rfl
        have TW := hT.alloc (.cells #[.int .i64 o.page, .int .i64 o.room, .int .i64 o.need] 31)
        have hsW : wr.heap.size < (wr.alloc (.cells #[.int .i64 o.page, .int .i64 o.room, .int .i64 o.need] 31)).heap.size := by simp
        have s1 : wr.heap.size ≠ w1.heap.size := by omega
        have s2 : wr.heap.size ≠ w2.heap.size := by omega
        have s3 : some wr.heap.size ≠ v1.ownBlock := fun e => by have := (k3 _ e.symm).2; omega
        have s4 : some wr.heap.size ≠ v2.ownBlock := fun e => by have := (k4 _ e.symm).2; omega
        clear k1 k2 k3 k4
        generalize wr.alloc (.cells #[.int .i64 o.page, .int .i64 o.room, .int .i64 o.need] 31) = W at *
        generalize wr.heap.size = sl at *
        have c0 : W.drew.cell? ⟨sl, 0, none⟩ = some (.int .i64 o.page) := b.cell 0
        have c1 : W.drew.cell? ⟨sl, 1, none⟩ = some (.int .i64 o.room) := b.cell 1
        have c2 : W.drew.cell? ⟨sl, 2, none⟩ = some (.int .i64 o.need) := b.cell 2
        have TD := TW.drew
        have HS := set_all _ _ _ _ _ _ o.page o.room TD.room TD.t1 hL
        go_region_held3 (fun w' => w'.cell? ⟨sl, 0, none⟩ = some (.int .i64 o.page) ∧ w'.cell? ⟨sl, 1, none⟩ = some (.int .i64 o.room) ∧ w'.cell? ⟨sl, 2, none⟩ = some (.int .i64 o.need)) (first | assumption | exact c0 | exact c1 | exact c2 | simp [*, go_sem])
          (first
            | (go_at_call 6; (with_reducible refine HS.mono ?_); rintro e w6 ⟨rfl, v1', o1, R1⟩; have T1 := TD.set1 o1 R1; have d0 := o1.held hsW s1 s3 c0; have d1 := o1.held hsW s1 s3 c1; have d2 := o1.held hsW s1 s3 c2; have hs6 := Nat.lt_of_lt_of_le hsW o1.size; have hS : _ ∧ _ ∧ _ := ⟨d0, d1, d2⟩)
            | (go_at_call 7; (with_reducible refine (rset_all _ _ _ _ _ _ o.page o.room T1.refm T1.t2 hL).mono ?_); rintro e w7 ⟨rfl, v2', o2, R2⟩; have T2 := T1.set2 o2 R2; have f0 := o2.held hs6 s2 s4 d0; have f1 := o2.held hs6 s2 s4 d1; have f2 := o2.held hs6 s2 s4 d2; have hS : _ ∧ _ ∧ _ := ⟨f0, f1, f2⟩))
        go_wp2_with (first
          | (go_at_call 8; (with_reducible refine (find_any _ _ _ _ _ _ o.need T2.room).mono ?_); rintro e w8 ⟨i, ok, rfl, hF, hw8⟩; have hw := hw8.symm; subst hw)
          | (go_at_call 9; (with_reducible refine (rfind_any _ _ _ _ _ _ o.need T2.refm).mono ?_); rintro e w9 ⟨i', ok', rfl, hF', hw9⟩; have hw := hw9.symm; subst hw; obtain ⟨ei, eo⟩ := found_one hF hF'; subst ei; subst eo))
        refine wp_region_still_lit (by kernel_rfl) (by kernel_rfl) ?_
        have TV := T2.heap (w7.drawn + 1)
        have V0 : ({ w7 with drawn := w7.drawn + 1 } : World).cell? ⟨sl, 0, none⟩ = _ := f0
        have V2 : ({ w7 with drawn := w7.drawn + 1 } : World).cell? ⟨sl, 2, none⟩ = _ := f2
        clear o1 R1 T1 o2 R2 T2 d0 d1 d2 f0 f1 f2 TW TD HS c0 c1 c2 hT
        generalize ({ w7 with drawn := w7.drawn + 1 } : World) = V at *
        obtain ⟨A2, p2, rfl, _, _, _⟩ := TV.refm.form
        repeat (first | (with_reducible refine wpStill_step ?_; intro K hK; go_simp; with_reducible refine hK _ ?_; clear hK K) | (with_reducible refine wpStill_step ?_; intro K hK; go_simp; with_reducible refine ⟨_, (get_any _ _ _ _ _ _ o.need TV.room), hK _ ?_⟩; clear hK K) | (with_reducible refine wpStill_step ?_; intro K hK; go_simp; with_reducible refine ⟨_, (rget_any _ _ _ _ _ _ o.need TV.refm), hK _ ?_⟩; clear hK K) | (with_reducible refine wpStill_step ?_; intro K hK; go_simp; with_reducible refine ⟨_, (get_any _ _ _ _ _ _ o.page TV.room), hK _ ?_⟩; clear hK K) | (with_reducible refine wpStill_step ?_; intro K hK; go_simp; with_reducible refine ⟨_, (rget_any _ _ _ _ _ _ o.page TV.refm), hK _ ?_⟩; clear hK K))
        with_reducible refine wpStill_nil ?_
        go_wp2_with fail
        refine wp_region_still_lit (by kernel_rfl) (by kernel_rfl) ?_
        have TX := TV.heap (V.drawn + 1)
        clear TV
        generalize ({ V with drawn := V.drawn + 1 } : World) = X at *
        have X0 := TX.refm.cell
        repeat (first | (with_reducible refine wpStill_step ?_; intro K hK; go_simp; with_reducible refine hK _ ?_; clear hK K) | (with_reducible refine wpStill_step ?_; intro K hK; go_simp; with_reducible refine ⟨_, (pages_any _ _ _ _ _ _ TX.room), hK _ ?_⟩; clear hK K))
        with_reducible refine wpStill_nil ?_
        go_wp2
        go_roundw
        case rel => exact ⟨k + 1, setN L o.page o.room, _, _, by omega, by go_num, TX, setN_len hL⟩
        case measure => simp [intOf]; omega
      · clear r0
        go_wp2
        go_ret
        exact ⟨rfl, by repeat (first | exact hb | refine Below.drew ?_ | refine bal ?_ _ | refine bdN ?_ _)⟩
    · obtain rfl : k = l.length := by omega
      clear r0
      go_wp2
      go_ret
      exact ⟨rfl, hb⟩
theorem walk (nn : Bool) (A : Option Addr) (c : Nat) (l : List Step) (w : World) (r0 : Ord w A l) (n0 : l.length ≤ c) (m0 : c ≤ 9223372036854775807) :
    Calls Try.prog 3 #[.bool nn, .slice A l.length c] w fun e w' => e = .returned (.bool true) ∧ Below w.heap.size w w' := by
  cases nn
  · exact walk_two A c l w r0 n0 m0
  · exact walk_nil A c l w r0 n0 m0
end Go.Proofs.Yteikfkefahaodaa.roomPlays
