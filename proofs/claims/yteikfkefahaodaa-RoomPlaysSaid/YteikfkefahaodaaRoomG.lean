/-
  The document's own answer for room (ref06): Set of the next page, Find.
-/
import Derived.Test.YteikfkefahaodaaRoomF
namespace Go.Proofs.Yteikfkefahaodaa
open Go.RowKit

theorem int_nil (w : World) (e : TypeId) (size : Nat) : (w.alloc (.cells #[] e)).ownsRow w.heap.size e size (.slice (some ⟨w.heap.size, 0, none⟩) 0 0) 0 [] :=
  World.ownsRow_made w #[] 0 (Nat.le_refl _) (by unfold maxLen; omega) (by simp)
theorem rfind_any (w : World) (base br g : Nat) (v : Value) (l : List Int) (need : Int) (h : Refm w base br g v l) :
    Calls Try.prog 9 #[.pointer (some ⟨g, 0, none⟩), .int .i64 need] w fun e w' => FindEnd w l (max need 0) e w' := by
  have hc := h.cell
  have hrow := h.row
  obtain ⟨A, c, hv, hn, hm, hr⟩ := h.form
  have hmc : (need < 0 ∧ max need 0 = 0) ∨ (0 ≤ need ∧ max need 0 = need) := by omega
  clear h
  subst hv
  rcases hmc with ⟨hmn, e⟩ | ⟨hmn, e⟩
  · rw [e]
    clear e
    go_enter Try.func9, Try.ntmps9
    go_wp2
    go_loop [15] (fun s => ∃ k : Nat, k ≤ l.length ∧ s = .int .i64 (k : Int) ∧ ∀ j, j < k → l.getD j 0 < (0 : Int)) (fun s => l.length - (intOf s).toNat)
    case atStart => exact ⟨0, Nat.zero_le _, rfl, fun j hj => by omega⟩
    case round =>
      obtain ⟨k, hk, rfl, hall⟩ := hrel
      have HA := Lib.hid hall
      clear hall
      by_cases hlt : k < l.length
      · obtain ⟨g1, c1, hv, hg1, hn1, hm1⟩ := int_shape hrow (by omega)
        injection hv with hA hl hc1
        subst hA hc1
        have hix := idx_int g1 l.length c k hlt
        have hcell := (hrow.cellAt k (by omega)).trans (icells_get l k hlt)
        have hgd : l.getD k 0 = l[k] := by rw [List.getD_eq_getElem?_getD, List.getElem?_eq_getElem hlt]; rfl
        have HG := Lib.hid hgd
        clear hgd
        generalize l[k] = x at *
        by_cases hx : (0 : Int) ≤ x
        · have hp1 : need ≤ x := by omega
          have hp2 : 0 ≤ x := by omega
          clear hr
          go_wp2
          refine bodyPost_ret (v := .tuple #[.int .i64 (k : Int), .bool true]) (by simp [results, Try.results9, go_sem]) rfl ?_
          exact ⟨k, true, rfl, ⟨fun _ => ⟨hlt, by rw [HG.out]; exact hx, HA.out⟩, fun h => by cases h⟩, rfl⟩
        · by_cases hxn : need ≤ x
          · clear hr
            go_wp2
            go_round
            case rel => exact ⟨k + 1, by omega, by go_num, fun j hj => by
              by_cases e : j = k
              · subst e; rw [HG.out]; omega
              · exact HA.out j (by omega)⟩
            case measure => simp [intOf]; omega
          · clear hr
            go_wp2
            go_round
            case rel => exact ⟨k + 1, by omega, by go_num, fun j hj => by
              by_cases e : j = k
              · subst e; rw [HG.out]; omega
              · exact HA.out j (by omega)⟩
            case measure => simp [intOf]; omega
      · obtain rfl : k = l.length := by omega
        clear hr
        go_wp2
        refine bodyPost_ret (v := .tuple #[.int .i64 0, .bool false]) (by simp [results, Try.results9, go_sem]) rfl ?_
        exact ⟨0, false, rfl, ⟨fun h => (by cases h), fun _ => ⟨rfl, HA.out⟩⟩, rfl⟩
  · rw [e]
    clear e
    go_enter Try.func9, Try.ntmps9
    go_wp2
    go_loop [15] (fun s => ∃ k : Nat, k ≤ l.length ∧ s = .int .i64 (k : Int) ∧ ∀ j, j < k → l.getD j 0 < need) (fun s => l.length - (intOf s).toNat)
    case atStart => exact ⟨0, Nat.zero_le _, rfl, fun j hj => by omega⟩
    case round =>
      obtain ⟨k, hk, rfl, hall⟩ := hrel
      have HA := Lib.hid hall
      clear hall
      by_cases hlt : k < l.length
      · obtain ⟨g1, c1, hv, hg1, hn1, hm1⟩ := int_shape hrow (by omega)
        injection hv with hA hl hc1
        subst hA hc1
        have hix := idx_int g1 l.length c k hlt
        have hcell := (hrow.cellAt k (by omega)).trans (icells_get l k hlt)
        have hgd : l.getD k 0 = l[k] := by rw [List.getD_eq_getElem?_getD, List.getElem?_eq_getElem hlt]; rfl
        have HG := Lib.hid hgd
        clear hgd
        generalize l[k] = x at *
        by_cases hx : need ≤ x
        · have hp1 : need ≤ x := by omega
          have hp2 : 0 ≤ x := by omega
          clear hr
          go_wp2
          refine bodyPost_ret (v := .tuple #[.int .i64 (k : Int), .bool true]) (by simp [results, Try.results9, go_sem]) rfl ?_
          exact ⟨k, true, rfl, ⟨fun _ => ⟨hlt, by rw [HG.out]; exact hx, HA.out⟩, fun h => by cases h⟩, rfl⟩
        · clear hr
          go_wp2
          go_round
          case rel => exact ⟨k + 1, by omega, by go_num, fun j hj => by
            by_cases e : j = k
            · subst e; rw [HG.out]; omega
            · exact HA.out j (by omega)⟩
          case measure => simp [intOf]; omega
      · obtain rfl : k = l.length := by omega
        clear hr
        go_wp2
        refine bodyPost_ret (v := .tuple #[.int .i64 0, .bool false]) (by simp [results, Try.results9, go_sem]) rfl ?_
        exact ⟨0, false, rfl, ⟨fun h => (by cases h), fun _ => ⟨rfl, HA.out⟩⟩, rfl⟩
end Go.Proofs.Yteikfkefahaodaa
