/-
  Package room: Set, Find, Get.
-/
import Derived.Test.YtpnkmkenmpbekaaRoomA
namespace Go.Proofs.Ytpnkmkenmpbekaa
open Go.RowKit

section
variable {w : World} {base : Nat}
theorem int_shape {v : Value} {n : Nat} {xs : List Value} (h : w.ownsRow base 3 1 v n xs) (h0 : 0 < n) : ∃ g c, v = .slice (some ⟨g, 0, none⟩) n c ∧ base ≤ g ∧ n ≤ c ∧ c ≤ 9223372036854775807 := by
  rcases h.2 with ⟨_, h0'⟩ | ⟨g, cap, cur, rfl, hb, _, hc, hm, _⟩
  · omega
  · exact ⟨g, cap, rfl, hb, hc, by unfold maxLen at hm; omega⟩
end
theorem idx_int (g n c k : Nat) (h : k < n) (W : World) : (Instr.indexAt 115 (.slice (some ⟨g, 0, none⟩) n c) (.int .i64 (k : Int))).run Try.prog W = .ok (.pointer (some ⟨g, k, none⟩)) W := by
  rw [run_indexAt_slice (h := by kernel_rfl), if_pos (by omega)]
  rw [show Try.prog.elem 115 = 3 by kernel_rfl, show (sizeOf 3).run Try.prog W = .ok 1 W by kernel_rfl]
  simp [Result.andThen, Addr.add_lit]
theorem put_box {w : World} {base br g n : Nat} {v v' : Value} {xs : List Value} (hb : w.ownsRow base 119 1 (.slice (some ⟨g, 0, none⟩) 1 1) 1 [v]) (hr : w.ownsRow br 3 1 v' n xs) :
    (w.setCell ⟨g, 0, none⟩ v').ownsRow base 119 1 (.slice (some ⟨g, 0, none⟩) 1 1) 1 [v'] ∧ (w.setCell ⟨g, 0, none⟩ v').ownsRow br 3 1 v' n xs := by
  have h1 := hb.stored 0 v'
  exact ⟨h1.1, hr.kept h1.2 (rows_apart hr hb (by decide))⟩
theorem put_row {w : World} {base br g g1 n c k : Nat} {v : Value} {u : Int} {l : List Int} (hb : w.ownsRow base 119 1 (.slice (some ⟨g, 0, none⟩) 1 1) 1 [v]) (hr : w.ownsRow br 3 1 (.slice (some ⟨g1, 0, none⟩) n c) n (icells l)) :
    (w.setCell ⟨g1, k, none⟩ (.int .i64 u)).ownsRow base 119 1 (.slice (some ⟨g, 0, none⟩) 1 1) 1 [v] ∧ (w.setCell ⟨g1, k, none⟩ (.int .i64 u)).ownsRow br 3 1 (.slice (some ⟨g1, 0, none⟩) n c) n (icells (l.set k u)) := by
  have h1 := hr.stored k (.int .i64 u)
  refine ⟨hb.kept h1.2 (rows_apart hb hr (by decide)), ?_⟩
  have e : icells (l.set k u) = (icells l).set k (.int .i64 u) := by unfold icells; rw [List.map_set]
  rw [e]
  exact h1.1
theorem set_arg (w : World) (g : Nat) (p r : Int) (h : p < 0 ∨ 256 ≤ p) :
    Calls Try.prog 15 #[.pointer (some ⟨g, 0, none⟩), .int .i64 p, .int .i64 r] w fun e w' => e = .returned (.int .i64 1) ∧ w' = w := by
  rcases h with h | h
  · go_enter Try.func15, Try.ntmps15
    go_wp2
    go_ret
    exact ⟨rfl, rfl⟩
  · go_enter Try.func15, Try.ntmps15
    go_wp2
    go_ret
    exact ⟨rfl, rfl⟩
theorem set_nil (w : World) (p r : Int) :
    Calls Try.prog 15 #[.pointer none, .int .i64 p, .int .i64 r] w fun e w' => e = .returned (.int .i64 15) ∧ w' = w := by
  go_enter Try.func15, Try.ntmps15
  go_wp2
  go_ret
  exact ⟨rfl, rfl⟩
theorem set_form (w : World) (base br g : Nat) (v : Value) (l : List Int) (p r : Int) (h : Room w base br g v l) (h0 : 0 ≤ p) (h1 : p < 256) (h2 : (l.length : Int) < p) :
    Calls Try.prog 15 #[.pointer (some ⟨g, 0, none⟩), .int .i64 p, .int .i64 r] w fun e w' => e = .returned (.int .i64 3) ∧ w' = w := by
  have hc := h.cell
  obtain ⟨A, c, rfl, hn, hm, hr⟩ := h.form
  clear hr h
  go_enter Try.func15, Try.ntmps15
  go_wp2
  go_ret
  exact ⟨rfl, rfl⟩
theorem set_last (l : List Int) (u : Int) : (l ++ [0]).set l.length u = l ++ [u] := by simp
theorem cap_cases (r : Int) : (r < -1 ∧ cap r = -1) ∨ ((-1 ≤ r ∧ r ≤ 512) ∧ cap r = r) ∨ (512 < r ∧ cap r = 512) := by
  unfold cap; omega
set_option maxHeartbeats 1000000 in
theorem set_put (w : World) (base br g : Nat) (v : Value) (l : List Int) (p : Nat) (r : Int) (h : Room w base br g v l) (h1 : p < 256) (h2 : p < l.length) :
    Calls Try.prog 15 #[.pointer (some ⟨g, 0, none⟩), .int .i64 (p : Int), .int .i64 r] w fun e w' => e = .returned (.int .i64 0) ∧ But br g w w' ∧ Room w' base br g v (l.set p (cap r)) := by
  have hc := h.cell
  obtain ⟨g1, c, rfl, hg1, hn, hm⟩ := int_shape h.row (by omega)
  have hix := idx_int g1 l.length c p h2
  have hcell := (h.row.cellAt p (by omega)).trans (icells_get l p h2)
  have hfr := h.row.frozenAt p
  have hput := put_row (k := p) (u := cap r) h.box h.row
  have hB := But.set (But.refl (B := br) (g := g) (a := w)) (p := ⟨g1, p, none⟩) hg1 (.int .i64 (cap r))
  have HP := Lib.hid hput
  have HB := Lib.hid hB
  have hne : ((p : Int) == (l.length : Int)) = false := beq_eq_false_iff_ne.2 (by omega)
  clear h hput hB
  rcases cap_cases r with ⟨hr, e⟩ | ⟨hr, e⟩ | ⟨hr, e⟩
  all_goals
    rw [e] at HP HB ⊢
    go_enter Try.func15, Try.ntmps15
    go_wp2
    go_ret
    exact ⟨rfl, HB.out, ⟨HP.out.1, by rw [List.length_set]; exact HP.out.2⟩⟩
set_option maxRecDepth 100000 in
set_option maxHeartbeats 1000000 in
theorem set_app (w : World) (base br g : Nat) (v : Value) (l : List Int) (r : Int) (h : Room w base br g v l) (hbase : br ≤ w.heap.size) (h1 : l.length < 256) :
    Calls Try.prog 15 #[.pointer (some ⟨g, 0, none⟩), .int .i64 (l.length : Int), .int .i64 r] w fun e w' => e = .returned (.int .i64 0) ∧ But br g w w' ∧ ∃ v', Room w' base br g v' (l ++ [cap r]) := by
  obtain ⟨i0, hi0, hz0, hz1, hz2⟩ := info_parts4 info_int
  have hc := h.cell
  have hrow := h.row
  have hbox := h.box
  have hvb := rows_apart hbox hrow (by decide)
  obtain ⟨A, c, hv, hn, hm, hr⟩ := h.form
  subst hv
  clear h hr
  rcases cap_cases r with ⟨hr, e⟩ | ⟨hr, e⟩ | ⟨hr, e⟩
  all_goals
    rw [e]
    clear e
    go_enter Try.func15, Try.ntmps15
    go_wp2_with (at_builtin; refine wpList_append_src _ rfl (.tmp 33) (.tmp 34) 115 115 rfl br 3 _ _ 1 8 Try.underlying115 hi0 hz0 hz1 hz2 rfl _ _ _ rfl (World.ownsRow.alloc hrow _) _ 1 (icells [0]) rfl (src_rd Try.underlying115 _ (rd_lit (by first | rfl | simp) rfl rfl) (by decide) (icells_one _)) (by simp only [maxLen]; omega) (by omega) (by simp; omega) ?_; intro v1 w1 ho1 hg1 ha1; have hb1 : w1.ownsRow base 119 1 (.slice (some ⟨g, 0, none⟩) 1 1) 1 [.slice A l.length c] := (World.ownsRow.alloc hbox (.cells #[.int .i64 0] 3)).kept hg1 hvb; obtain ⟨g1, c1, rfl, hgg, hnn, hmm⟩ := int_shape ho1 (by omega); have hpb := put_box hb1 ho1; have q0 := (hb1.cellAt 0 (by omega)); have q1 := hb1.frozenAt 0; have hix := idx_int g1 (l.length + 1) c1 l.length (by omega); have ho1' : w1.ownsRow br 3 1 (.slice (some ⟨g1, 0, none⟩) (l.length + 1) c1) (l.length + 1) (icells (l ++ [0])) := (by rw [icells_append]; exact ho1); have hpb' := put_box hb1 ho1'; have q2 := (hpb'.2.cellAt l.length (by omega)).trans (icells_get (l ++ [0]) l.length (by simp)); have q3 := hpb'.2.frozenAt l.length; have hB : Below br w w1 := ((Below.refl br w).alloc hbase (.cells #[.int .i64 0] 3)).trans (grown_below (World.ownsRow.alloc hrow (.cells #[.int .i64 0] 3)) hg1 (by simp; omega)); have HPR := Lib.hid (fun u => put_row (k := l.length) (u := u) hpb'.1 hpb'.2); have hq0 : w1.cell? ⟨g, 0, none⟩ = some (.slice A l.length c) := q0; clear hpb hpb' ho1 ho1' q0)
    go_ret
    refine ⟨rfl, ((But.of hB).setg 0 _).set (p := ⟨g1, l.length, none⟩) hgg _, .slice (some ⟨g1, 0, none⟩) (l.length + 1) c1, ?_⟩
    first
      | exact ⟨(HPR.out (-1)).1, by have h := (HPR.out (-1)).2; rw [set_last] at h; rw [List.length_append]; exact h⟩
      | exact ⟨(HPR.out r).1, by have h := (HPR.out r).2; rw [set_last] at h; rw [List.length_append]; exact h⟩
      | exact ⟨(HPR.out 512).1, by have h := (HPR.out 512).2; rw [set_last] at h; rw [List.length_append]; exact h⟩
theorem get_any (w : World) (base br g : Nat) (v : Value) (l : List Int) (p : Int) (h : Room w base br g v l) :
    Calls Try.prog 16 #[.pointer (some ⟨g, 0, none⟩), .int .i64 p] w fun e w' => e = .returned (.int .i64 (getI l p)) ∧ w' = w := by
  have gp := pages_any w base br g v l h
  have GP := Lib.hid gp
  by_cases h0 : p < 0
  · rw [show getI l p = -1 from if_pos (.inl h0)]
    clear h gp
    go_enter Try.func16, Try.ntmps16
    go_wp2
    go_ret
    exact ⟨rfl, rfl⟩
  · by_cases h1 : (l.length : Int) ≤ p
    · rw [show getI l p = -1 from if_pos (.inr h1)]
      clear h gp
      go_enter Try.func16, Try.ntmps16
      go_wp2_with (go_at_call 17; (with_reducible refine (GP.out).mono ?_); rintro e w1 ⟨rfl, hw1⟩; have hw := hw1.symm; subst hw)
      go_ret
      exact ⟨rfl, rfl⟩
    · obtain ⟨k, rfl⟩ : ∃ k : Nat, p = (k : Int) := ⟨p.toNat, by omega⟩
      have hk : k < l.length := by omega
      have hgi : getI l (k : Int) = l[k] := by
        unfold getI
        rw [if_neg (by omega), Int.toNat_natCast, List.getD_eq_getElem?_getD, List.getElem?_eq_getElem hk]; rfl
      rw [hgi]
      have hc := h.cell
      obtain ⟨g1, c, rfl, hg1, hn, hm⟩ := int_shape h.row (by omega)
      have hix := idx_int g1 l.length c k hk
      have hcell := (h.row.cellAt k (by omega)).trans (icells_get l k hk)
      generalize l[k] = x at *
      clear h gp hgi
      go_enter Try.func16, Try.ntmps16
      go_wp2_with (go_at_call 17; (with_reducible refine (GP.out).mono ?_); rintro e w1 ⟨rfl, hw1⟩; have hw := hw1.symm; subst hw)
      go_ret
      exact ⟨rfl, rfl⟩
/-- What Find answers: the first room that is enough. -/
def Found (l : List Int) (m : Int) (i : Nat) (ok : Bool) : Prop :=
  (ok = true → i < l.length ∧ m ≤ l.getD i 0 ∧ ∀ j, j < i → l.getD j 0 < m) ∧ (ok = false → i = 0 ∧ ∀ j, j < l.length → l.getD j 0 < m)
def FindEnd (w : World) (l : List Int) (m : Int) (e : Ending) (w' : World) : Prop := ∃ (i : Nat) (ok : Bool), e = .returned (.tuple #[.int .i64 (i : Int), .bool ok]) ∧ Found l m i ok ∧ w' = w
theorem find_any (w : World) (base br g : Nat) (v : Value) (l : List Int) (need : Int) (h : Room w base br g v l) :
    Calls Try.prog 62 #[.pointer (some ⟨g, 0, none⟩), .int .i64 need] w fun e w' => FindEnd w l (max need 0) e w' := by
  have hc := h.cell
  have hrow := h.row
  obtain ⟨A, c, hv, hn, hm, hr⟩ := h.form
  have hmc : (need < 0 ∧ max need 0 = 0) ∨ (0 ≤ need ∧ max need 0 = need) := by omega
  clear h
  subst hv
  rcases hmc with ⟨hmn, e⟩ | ⟨hmn, e⟩
  · rw [e]
    clear e
    go_enter Try.func62, Try.ntmps62
    go_wp2
    go_loop [17] (fun s => ∃ k : Nat, k ≤ l.length ∧ s = .int .i64 (k : Int) ∧ ∀ j, j < k → l.getD j 0 < (0 : Int)) (fun s => l.length - (intOf s).toNat)
    case atStart => exact ⟨0, Nat.zero_le _, rfl, fun j hj => by omega⟩
    case round =>
      obtain ⟨k, hk, rfl, hall⟩ := hrel
      have HA := Lib.hid hall
      clear hall
      by_cases hlt : k < l.length
      · obtain ⟨g1, c1, hv, hg1, hn1, hm1⟩ := int_shape hrow (by omega)
        injection hv with hA hl hc1
        subst hA hc1
        have hix := idx_int g1 l.length c k hlt
        have hcell := (hrow.cellAt k (by omega)).trans (icells_get l k hlt)
        have hgd : l.getD k 0 = l[k] := by rw [List.getD_eq_getElem?_getD, List.getElem?_eq_getElem hlt]; rfl
        have HG := Lib.hid hgd
        clear hgd
        generalize l[k] = x at *
        by_cases hx : (0 : Int) ≤ x
        · clear hr
          go_wp2
          refine bodyPost_ret (v := .tuple #[.int .i64 (k : Int), .bool true]) (by simp [results, Try.results62, go_sem]) rfl ?_
          exact ⟨k, true, rfl, ⟨fun _ => ⟨hlt, by rw [HG.out]; exact hx, HA.out⟩, fun h => by cases h⟩, rfl⟩
        · clear hr
          go_wp2
          go_round
          case rel => exact ⟨k + 1, by omega, by go_num, fun j hj => by
            by_cases e : j = k
            · subst e; rw [HG.out]; omega
            · exact HA.out j (by omega)⟩
          case measure => simp [intOf]; omega
      · obtain rfl : k = l.length := by omega
        clear hr
        go_wp2
        refine bodyPost_ret (v := .tuple #[.int .i64 0, .bool false]) (by simp [results, Try.results62, go_sem]) rfl ?_
        exact ⟨0, false, rfl, ⟨fun h => (by cases h), fun _ => ⟨rfl, HA.out⟩⟩, rfl⟩
  · rw [e]
    clear e
    go_enter Try.func62, Try.ntmps62
    go_wp2
    go_loop [17] (fun s => ∃ k : Nat, k ≤ l.length ∧ s = .int .i64 (k : Int) ∧ ∀ j, j < k → l.getD j 0 < need) (fun s => l.length - (intOf s).toNat)
    case atStart => exact ⟨0, Nat.zero_le _, rfl, fun j hj => by omega⟩
    case round =>
      obtain ⟨k, hk, rfl, hall⟩ := hrel
      have HA := Lib.hid hall
      clear hall
      by_cases hlt : k < l.length
      · obtain ⟨g1, c1, hv, hg1, hn1, hm1⟩ := int_shape hrow (by omega)
        injection hv with hA hl hc1
        subst hA hc1
        have hix := idx_int g1 l.length c k hlt
        have hcell := (hrow.cellAt k (by omega)).trans (icells_get l k hlt)
        have hgd : l.getD k 0 = l[k] := by rw [List.getD_eq_getElem?_getD, List.getElem?_eq_getElem hlt]; rfl
        have HG := Lib.hid hgd
        clear hgd
        generalize l[k] = x at *
        by_cases hx : need ≤ x
        · clear hr
          go_wp2
          refine bodyPost_ret (v := .tuple #[.int .i64 (k : Int), .bool true]) (by simp [results, Try.results62, go_sem]) rfl ?_
          exact ⟨k, true, rfl, ⟨fun _ => ⟨hlt, by rw [HG.out]; exact hx, HA.out⟩, fun h => by cases h⟩, rfl⟩
        · clear hr
          go_wp2
          go_round
          case rel => exact ⟨k + 1, by omega, by go_num, fun j hj => by
            by_cases e : j = k
            · subst e; rw [HG.out]; omega
            · exact HA.out j (by omega)⟩
          case measure => simp [intOf]; omega
      · obtain rfl : k = l.length := by omega
        clear hr
        go_wp2
        refine bodyPost_ret (v := .tuple #[.int .i64 0, .bool false]) (by simp [results, Try.results62, go_sem]) rfl ?_
        exact ⟨0, false, rfl, ⟨fun h => (by cases h), fun _ => ⟨rfl, HA.out⟩⟩, rfl⟩
end Go.Proofs.Ytpnkmkenmpbekaa
