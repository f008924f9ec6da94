/-
  The document's own answer for room (ref06): Set of the next page, Find.
-/
import Derived.Test.YteikfkefahaodaaRoomF
namespace Go.Proofs.Yteikfkefahaodaa
open Go.RowKit

theorem int_nil (w : World) (e : TypeId) (size : Nat) : (w.alloc (.cells #[] e)).ownsRow w.heap.size e size (.slice (some ⟨w.heap.size, 0, none⟩) 0 0) 0 [] :=
  World.ownsRow_made w #[] 0 (Nat.le_refl _) (by unfold maxLen; omega) (by simp)
set_option maxRecDepth 100000 in
set_option maxHeartbeats 2000000 in
theorem rset_app (w : World) (base br g : Nat) (v : Value) (l : List Int) (r : Int) (h : Refm w base br g v l) (hbase : br ≤ w.heap.size) (h1 : l.length < 256) :
    Calls Try.prog 7 #[.pointer (some ⟨g, 0, none⟩), .int .i64 (l.length : Int), .int .i64 r] w fun e w' => e = .returned (.int .i64 0) ∧ ∃ v', Only w w' g v v' ∧ Refm w' base br g v' (l ++ [cap r]) := by
  obtain ⟨i0, hi0, hz0, hz1, hz2⟩ := info_parts4 info_int
  have hc := h.cell
  have hbox := h.box
  obtain ⟨A, c, hv, hn, hm, hr⟩ := h.form
  subst hv
  have hg : g < w.heap.size := (hbox.lt g rfl).2
  have h3 : ¬ (255 : Int) < (l.length : Int) := by omega
  clear h
  rcases cap_cases r with ⟨hr0, e⟩ | ⟨⟨hr0, hr0'⟩, e⟩ | ⟨hr0, e⟩
  · rw [e]
    clear e
    go_enter Try.func7, Try.ntmps7
    go_wp2_with (first
      | (at_builtin; refine wpList_append_src _ rfl (.tmp 34) (.tmp 38) 27 27 rfl w.heap.size 3 _ _ 1 8 Try.underlying27 hi0 hz0 hz1 hz2 rfl _ 0 [] rfl (int_nil w _ 1) _ l.length (icells l) rfl (src_rd Try.underlying27 _ (Rd.alloc hr _) (by decide) (icells_one _)) (by simp only [maxLen]; omega) (by omega) (by simp) ?_; intro v1 w1 ho1 hg1 ha1; have hb1 : Below w.heap.size w w1 := ((Below.refl _ _).alloc (Nat.le_refl _) (.cells #[] 3)).trans (grown_below (int_nil w _ 1) hg1 (by simp)); have hz1' := hb1.size; have hx1 := own_below hbox hb1; have q0 : w1.cell? ⟨g, 0, none⟩ = some (.slice A l.length c) := (hx1.cellAt 0 (by omega)).trans rfl)
      | (at_builtin; refine wpList_append_src _ rfl (.tmp 39) (.tmp 41) 27 27 rfl w.heap.size 3 _ _ 1 8 Try.underlying27 hi0 hz0 hz1 hz2 rfl _ _ _ rfl (World.ownsRow.alloc ho1 _) _ 1 (icells [(-1)]) rfl (src_rd Try.underlying27 _ (rd_lit (by first | rfl | simp) rfl rfl) (by decide) (icells_one _)) (by simp only [maxLen]; omega) (by omega) (by simp; omega) ?_; intro v2 w2 ho2 hg2 ha2; have hb2 : Below w.heap.size w w2 := (hb1.alloc hz1' (.cells #[.int .i64 (-1)] 3)).trans (grown_below (World.ownsRow.alloc ho1 (.cells #[.int .i64 (-1)] 3)) hg2 (by simp; omega)); have hx2 := own_below hbox hb2; obtain ⟨g2, c2, rfl, hgg, hnn, hmm⟩ := int_shape ho2 (by omega); have q1 : w2.cell? ⟨g, 0, none⟩ = some (.slice A l.length c) := (hx2.cellAt 0 (by omega)).trans rfl; have q2 := hx2.frozenAt 0; have ho3 : w2.ownsRow br 3 1 (.slice (some ⟨g2, 0, none⟩) (0 + l.length + 1) c2) (l ++ [(-1)]).length (icells (l ++ [(-1)])) := (by have := own_le ho2 hbase; rw [List.length_append, icells_append]; simpa using this); have hO : Only w w2 g (.slice A l.length c) (.slice (some ⟨g2, 0, none⟩) (0 + l.length + 1) c2) := ⟨hb2.os, hb2.tape, hb2.output, hb2.size, fun k hk _ _ => hb2.block k hk, .inr ⟨g2, rfl, hgg⟩⟩; have hpb := rput_box hx2 ho3))
    go_ret
    rw [Nat.zero_add] at hpb hO
    exact ⟨rfl, _, only_cell hO, ⟨hpb.1, hpb.2⟩⟩
  · rw [e]
    clear e
    have hr1 : ¬ r < -1 := by omega
    have hr2 : ¬ 512 < r := by omega
    go_enter Try.func7, Try.ntmps7
    go_wp2_with (first
      | (at_builtin; refine wpList_append_src _ rfl (.tmp 34) (.tmp 38) 27 27 rfl w.heap.size 3 _ _ 1 8 Try.underlying27 hi0 hz0 hz1 hz2 rfl _ 0 [] rfl (int_nil w _ 1) _ l.length (icells l) rfl (src_rd Try.underlying27 _ (Rd.alloc hr _) (by decide) (icells_one _)) (by simp only [maxLen]; omega) (by omega) (by simp) ?_; intro v1 w1 ho1 hg1 ha1; have hb1 : Below w.heap.size w w1 := ((Below.refl _ _).alloc (Nat.le_refl _) (.cells #[] 3)).trans (grown_below (int_nil w _ 1) hg1 (by simp)); have hz1' := hb1.size; have hx1 := own_below hbox hb1; have q0 : w1.cell? ⟨g, 0, none⟩ = some (.slice A l.length c) := (hx1.cellAt 0 (by omega)).trans rfl)
      | (at_builtin; refine wpList_append_src _ rfl (.tmp 39) (.tmp 41) 27 27 rfl w.heap.size 3 _ _ 1 8 Try.underlying27 hi0 hz0 hz1 hz2 rfl _ _ _ rfl (World.ownsRow.alloc ho1 _) _ 1 (icells [r]) rfl (src_rd Try.underlying27 _ (rd_lit (by first | rfl | simp) rfl rfl) (by decide) (icells_one _)) (by simp only [maxLen]; omega) (by omega) (by simp; omega) ?_; intro v2 w2 ho2 hg2 ha2; have hb2 : Below w.heap.size w w2 := (hb1.alloc hz1' (.cells #[.int .i64 r] 3)).trans (grown_below (World.ownsRow.alloc ho1 (.cells #[.int .i64 r] 3)) hg2 (by simp; omega)); have hx2 := own_below hbox hb2; obtain ⟨g2, c2, rfl, hgg, hnn, hmm⟩ := int_shape ho2 (by omega); have q1 : w2.cell? ⟨g, 0, none⟩ = some (.slice A l.length c) := (hx2.cellAt 0 (by omega)).trans rfl; have q2 := hx2.frozenAt 0; have ho3 : w2.ownsRow br 3 1 (.slice (some ⟨g2, 0, none⟩) (0 + l.length + 1) c2) (l ++ [r]).length (icells (l ++ [r])) := (by have := own_le ho2 hbase; rw [List.length_append, icells_append]; simpa using this); have hO : Only w w2 g (.slice A l.length c) (.slice (some ⟨g2, 0, none⟩) (0 + l.length + 1) c2) := ⟨hb2.os, hb2.tape, hb2.output, hb2.size, fun k hk _ _ => hb2.block k hk, .inr ⟨g2, rfl, hgg⟩⟩; have hpb := rput_box hx2 ho3))
    go_ret
    rw [Nat.zero_add] at hpb hO
    exact ⟨rfl, _, only_cell hO, ⟨hpb.1, hpb.2⟩⟩
  · rw [e]
    clear e
    have hr1 : ¬ r < -1 := by omega
    go_enter Try.func7, Try.ntmps7
    go_wp2_with (first
      | (at_builtin; refine wpList_append_src _ rfl (.tmp 34) (.tmp 38) 27 27 rfl w.heap.size 3 _ _ 1 8 Try.underlying27 hi0 hz0 hz1 hz2 rfl _ 0 [] rfl (int_nil w _ 1) _ l.length (icells l) rfl (src_rd Try.underlying27 _ (Rd.alloc hr _) (by decide) (icells_one _)) (by simp only [maxLen]; omega) (by omega) (by simp) ?_; intro v1 w1 ho1 hg1 ha1; have hb1 : Below w.heap.size w w1 := ((Below.refl _ _).alloc (Nat.le_refl _) (.cells #[] 3)).trans (grown_below (int_nil w _ 1) hg1 (by simp)); have hz1' := hb1.size; have hx1 := own_below hbox hb1; have q0 : w1.cell? ⟨g, 0, none⟩ = some (.slice A l.length c) := (hx1.cellAt 0 (by omega)).trans rfl)
      | (at_builtin; refine wpList_append_src _ rfl (.tmp 39) (.tmp 41) 27 27 rfl w.heap.size 3 _ _ 1 8 Try.underlying27 hi0 hz0 hz1 hz2 rfl _ _ _ rfl (World.ownsRow.alloc ho1 _) _ 1 (icells [512]) rfl (src_rd Try.underlying27 _ (rd_lit (by first | rfl | simp) rfl rfl) (by decide) (icells_one _)) (by simp only [maxLen]; omega) (by omega) (by simp; omega) ?_; intro v2 w2 ho2 hg2 ha2; have hb2 : Below w.heap.size w w2 := (hb1.alloc hz1' (.cells #[.int .i64 512] 3)).trans (grown_below (World.ownsRow.alloc ho1 (.cells #[.int .i64 512] 3)) hg2 (by simp; omega)); have hx2 := own_below hbox hb2; obtain ⟨g2, c2, rfl, hgg, hnn, hmm⟩ := int_shape ho2 (by omega); have q1 : w2.cell? ⟨g, 0, none⟩ = some (.slice A l.length c) := (hx2.cellAt 0 (by omega)).trans rfl; have q2 := hx2.frozenAt 0; have ho3 : w2.ownsRow br 3 1 (.slice (some ⟨g2, 0, none⟩) (0 + l.length + 1) c2) (l ++ [512]).length (icells (l ++ [512])) := (by have := own_le ho2 hbase; rw [List.length_append, icells_append]; simpa using this); have hO : Only w w2 g (.slice A l.length c) (.slice (some ⟨g2, 0, none⟩) (0 + l.length + 1) c2) := ⟨hb2.os, hb2.tape, hb2.output, hb2.size, fun k hk _ _ => hb2.block k hk, .inr ⟨g2, rfl, hgg⟩⟩; have hpb := rput_box hx2 ho3))
    go_ret
    rw [Nat.zero_add] at hpb hO
    exact ⟨rfl, _, only_cell hO, ⟨hpb.1, hpb.2⟩⟩
theorem rfind_any (w : World) (base br g : Nat) (v : Value) (l : List Int) (need : Int) (h : Refm w base br g v l) :
    Calls Try.prog 9 #[.pointer (some ⟨g, 0, none⟩), .int .i64 need] w fun e w' => FindEnd w l (max need 0) e w' := by
  have hc := h.cell
  have hrow := h.row
  obtain ⟨A, c, hv, hn, hm, hr⟩ := h.form
  have hmc : (need < 0 ∧ max need 0 = 0) ∨ (0 ≤ need ∧ max need 0 = need) := by omega
  clear h
  subst hv
  rcases hmc with ⟨hmn, e⟩ | ⟨hmn, e⟩
  · rw [e]
    clear e
    go_enter Try.func9, Try.ntmps9
    go_wp2
    go_loop [15] (fun s => ∃ k : Nat, k ≤ l.length ∧ s = .int .i64 (k : Int) ∧ ∀ j, j < k → l.getD j 0 < (0 : Int)) (fun s => l.length - (intOf s).toNat)
    case atStart => exact ⟨0, Nat.zero_le _, rfl, fun j hj => by omega⟩
    case round =>
      obtain ⟨k, hk, rfl, hall⟩ := hrel
      have HA := Lib.hid hall
      clear hall
      by_cases hlt : k < l.length
      · obtain ⟨g1, c1, hv, hg1, hn1, hm1⟩ := int_shape hrow (by omega)
        injection hv with hA hl hc1
        subst hA hc1
        have hix := idx_int g1 l.length c k hlt
        have hcell := (hrow.cellAt k (by omega)).trans (icells_get l k hlt)
        have hgd : l.getD k 0 = l[k] := by rw [List.getD_eq_getElem?_getD, List.getElem?_eq_getElem hlt]; rfl
        have HG := Lib.hid hgd
        clear hgd
        generalize l[k] = x at *
        by_cases hx : (0 : Int) ≤ x
        · have hp1 : need ≤ x := by omega
          have hp2 : 0 ≤ x := by omega
          clear hr
          go_wp2
          refine bodyPost_ret (v := .tuple #[.int .i64 (k : Int), .bool true]) (by simp [results, Try.results9, go_sem]) rfl ?_
          exact ⟨k, true, rfl, ⟨fun _ => ⟨hlt, by rw [HG.out]; exact hx, HA.out⟩, fun h => by cases h⟩, rfl⟩
        · by_cases hxn : need ≤ x
          · clear hr
            go_wp2
            go_round
            case rel => exact ⟨k + 1, by omega, by go_num, fun j hj => by
              by_cases e : j = k
              · subst e; rw [HG.out]; omega
              · exact HA.out j (by omega)⟩
            case measure => simp [intOf]; omega
          · clear hr
            go_wp2
            go_round
            case rel => exact ⟨k + 1, by omega, by go_num, fun j hj => by
              by_cases e : j = k
              · subst e; rw [HG.out]; omega
              · exact HA.out j (by omega)⟩
            case measure => simp [intOf]; omega
      · obtain rfl : k = l.length := by omega
        clear hr
        go_wp2
        refine bodyPost_ret (v := .tuple #[.int .i64 0, .bool false]) (by simp [results, Try.results9, go_sem]) rfl ?_
        exact ⟨0, false, rfl, ⟨fun h => (by cases h), fun _ => ⟨rfl, HA.out⟩⟩, rfl⟩
  · rw [e]
    clear e
    go_enter Try.func9, Try.ntmps9
    go_wp2
    go_loop [15] (fun s => ∃ k : Nat, k ≤ l.length ∧ s = .int .i64 (k : Int) ∧ ∀ j, j < k → l.getD j 0 < need) (fun s => l.length - (intOf s).toNat)
    case atStart => exact ⟨0, Nat.zero_le _, rfl, fun j hj => by omega⟩
    case round =>
      obtain ⟨k, hk, rfl, hall⟩ := hrel
      have HA := Lib.hid hall
      clear hall
      by_cases hlt : k < l.length
      · obtain ⟨g1, c1, hv, hg1, hn1, hm1⟩ := int_shape hrow (by omega)
        injection hv with hA hl hc1
        subst hA hc1
        have hix := idx_int g1 l.length c k hlt
        have hcell := (hrow.cellAt k (by omega)).trans (icells_get l k hlt)
        have hgd : l.getD k 0 = l[k] := by rw [List.getD_eq_getElem?_getD, List.getElem?_eq_getElem hlt]; rfl
        have HG := Lib.hid hgd
        clear hgd
        generalize l[k] = x at *
        by_cases hx : need ≤ x
        · have hp1 : need ≤ x := by omega
          have hp2 : 0 ≤ x := by omega
          clear hr
          go_wp2
          refine bodyPost_ret (v := .tuple #[.int .i64 (k : Int), .bool true]) (by simp [results, Try.results9, go_sem]) rfl ?_
          exact ⟨k, true, rfl, ⟨fun _ => ⟨hlt, by rw [HG.out]; exact hx, HA.out⟩, fun h => by cases h⟩, rfl⟩
        · clear hr
          go_wp2
          go_round
          case rel => exact ⟨k + 1, by omega, by go_num, fun j hj => by
            by_cases e : j = k
            · subst e; rw [HG.out]; omega
            · exact HA.out j (by omega)⟩
          case measure => simp [intOf]; omega
      · obtain rfl : k = l.length := by omega
        clear hr
        go_wp2
        refine bodyPost_ret (v := .tuple #[.int .i64 0, .bool false]) (by simp [results, Try.results9, go_sem]) rfl ?_
        exact ⟨0, false, rfl, ⟨fun h => (by cases h), fun _ => ⟨rfl, HA.out⟩⟩, rfl⟩
end Go.Proofs.Yteikfkefahaodaa
