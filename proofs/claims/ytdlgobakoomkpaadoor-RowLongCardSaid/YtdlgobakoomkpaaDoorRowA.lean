/-
  Kinds of columns: which may be, as package row and the document's answer tell; the law's own list of kinds.
-/
import Derived.Test.YtdlgobakoomkpaaDoorBin
import Derived.Deep.RegionHeld3
namespace Go.Proofs.YtdlgobakoomkpaaDoor
open Go.RowKit

def kin (b : UInt8) : Bool := decide (1 ≤ b.toNat ∧ b.toNat ≤ 3)
def kok (l : List UInt8) : Bool := decide (1 ≤ l.length ∧ l.length ≤ 8) && l.all kin
theorem kok_no {l : List UInt8} {k : Nat} (hk : k < l.length) (h : kin l[k] = false) : kok l = false := by
  unfold kok
  have hf : l.all kin = false := Bool.eq_false_iff.2 fun e => by
    rw [List.all_eq_true.1 e _ (List.getElem_mem hk)] at h
    cases h
  rw [hf, Bool.and_false]
theorem kok_len {l : List UInt8} (h : ¬ (1 ≤ l.length ∧ l.length ≤ 8)) : kok l = false := by
  unfold kok
  rw [decide_eq_false h, Bool.false_and]
theorem kok_yes {l : List UInt8} (h : 1 ≤ l.length ∧ l.length ≤ 8) (ha : l.all kin = true) : kok l = true := by
  unfold kok
  rw [decide_eq_true h, ha]
  rfl
theorem kin_snoc {l : List UInt8} {k : Nat} (hk : k < l.length) (h : kin l[k] = true) (ha : (l.take k).all kin = true) : (l.take (k + 1)).all kin = true := by
  rw [List.take_succ_eq_append_getElem hk, List.all_append, ha]
  simp [h]
theorem kin_cases (b : UInt8) : (b.toNat = 1 ∨ b.toNat = 2 ∨ b.toNat = 3) ∧ kin b = true ∨ (b.toNat < 1 ∨ 3 < b.toNat) ∧ kin b = false := by
  by_cases h : 1 ≤ b.toNat ∧ b.toNat ≤ 3
  · exact .inl ⟨by omega, decide_eq_true h⟩
  · exact .inr ⟨by omega, decide_eq_false h⟩

set_option maxHeartbeats 1000000 in
theorem r04right_any (A : Option Addr) (c : Nat) (l : List UInt8) (w : World) (ha : Brd w A l) (hl : l.length ≤ 9223372036854775807) :
    Calls Tryd.prog 48 #[.slice A l.length c] w fun e w' => e = .returned (.bool (kok l)) ∧ w' = w := by
  go_enter Tryd.func48, Tryd.ntmps48
  go_wp2
  go_loop [7] (fun i => ∃ k : Nat, k ≤ l.length ∧ i = .int .i64 k ∧ (l.take k).all kin = true) (fun i => l.length - (intOf i).toNat)
  case atStart => exact ⟨0, Nat.zero_le _, rfl, rfl⟩
  case round =>
    obtain ⟨k, hk, rfl, hall⟩ := hrel
    by_cases hlt : k < l.length
    · obtain ⟨ad, rfl, hcell⟩ := ha.at_ hlt
      have hno := kok_no hlt
      have hsn := fun h => kin_snoc hlt h hall
      have hb := l[k].toNat_lt
      have hc := kin_cases l[k]
      generalize kin l[k] = y at *
      generalize l[k].toNat = b at *
      clear hall ha
      rcases hc with ⟨hb3, rfl⟩ | ⟨hb3, rfl⟩
      · have HS := Lib.hid (hsn rfl)
        clear hno hsn
        have hb4 : 1 ≤ b ∧ b ≤ 3 := by omega
        clear hb3
        go_wp2
        go_round
        case rel => exact ⟨k + 1, by omega, by go_num, HS.out⟩
        case measure => simp [intOf]; omega
      · have HN := Lib.hid (hno rfl)
        clear hno hsn
        rcases hb3 with hb3 | hb3
        · go_wp2
          go_ret
          exact ⟨by rw [HN.out]; rfl, rfl⟩
        · go_wp2
          go_ret
          exact ⟨by rw [HN.out]; rfl, rfl⟩
    · obtain rfl : k = l.length := by omega
      rw [List.take_length] at hall
      by_cases h18 : 1 ≤ l.length ∧ l.length ≤ 8
      · have HY := Lib.hid (kok_yes h18 hall)
        obtain ⟨h1, h8⟩ := h18
        have g8 : decide ((l.length : Int) ≤ 8) = true := decide_eq_true (by omega)
        clear hall
        go_wp2
        go_ret
        exact ⟨by rw [HY.out]; first | rfl | (show Ending.returned (.bool (decide ((l.length : Int) ≤ 8))) = _; rw [g8]), rfl⟩
      · have HN := Lib.hid (kok_len h18)
        clear hall
        by_cases h1 : 1 ≤ l.length
        · have h8 : ¬ l.length ≤ 8 := fun h => h18 ⟨h1, h⟩
          have g8 : decide ((l.length : Int) ≤ 8) = false := decide_eq_false (by omega)
          clear h18
          go_wp2
          go_ret
          exact ⟨by rw [HN.out]; first | rfl | (show Ending.returned (.bool (decide ((l.length : Int) ≤ 8))) = _; rw [g8]), rfl⟩
        · clear h18
          go_wp2
          go_ret
          exact ⟨by rw [HN.out]; rfl, rfl⟩

set_option maxHeartbeats 1000000 in
theorem rowright_any (A : Option Addr) (c : Nat) (l : List UInt8) (w : World) (ha : Brd w A l) (hl : l.length ≤ 9223372036854775807) :
    Calls Tryd.prog 49 #[.slice A l.length c] w fun e w' => e = .returned (.bool (kok l)) ∧ w' = w := by
  by_cases h18 : 1 ≤ l.length ∧ l.length ≤ 8
  · have HY := fun h => kok_yes h18 h
    obtain ⟨h1, h8⟩ := h18
    go_enter Tryd.func49, Tryd.ntmps49
    go_wp2
    go_loop [15] (fun i => ∃ k : Nat, k ≤ l.length ∧ i = .int .i64 k ∧ (l.take k).all kin = true) (fun i => l.length - (intOf i).toNat)
    case atStart => exact ⟨0, Nat.zero_le _, rfl, rfl⟩
    case round =>
      obtain ⟨k, hk, rfl, hall⟩ := hrel
      by_cases hlt : k < l.length
      · obtain ⟨ad, rfl, hcell⟩ := ha.at_ hlt
        have hno := kok_no hlt
        have hsn := fun h => kin_snoc hlt h hall
        have hb := l[k].toNat_lt
        have hc := kin_cases l[k]
        generalize kin l[k] = y at *
        generalize l[k].toNat = b at *
        clear hall ha HY
        rcases hc with ⟨hb3, rfl⟩ | ⟨hb3, rfl⟩
        · have HS := Lib.hid (hsn rfl)
          clear hno hsn
          rcases hb3 with rfl | rfl | rfl
          all_goals
            go_wp2
            go_round
            case rel => exact ⟨k + 1, by omega, by go_num, HS.out⟩
            case measure => simp [intOf]; omega
        · have HN := Lib.hid (hno rfl)
          clear hno hsn
          have n1 : ((b : Int) == 1) = false := by simp; omega
          have n2 : ((b : Int) == 2) = false := by simp; omega
          have n3 : ((b : Int) == 3) = false := by simp; omega
          clear hb3
          go_wp2
          go_ret
          exact ⟨by rw [HN.out]; rfl, rfl⟩
      · obtain rfl : k = l.length := by omega
        rw [List.take_length] at hall
        have HY := Lib.hid (HY hall)
        clear hall
        go_wp2
        go_ret
        exact ⟨by rw [HY.out]; rfl, rfl⟩
  · have HN := Lib.hid (kok_len h18)
    go_enter Tryd.func49, Tryd.ntmps49
    by_cases h1 : 1 ≤ l.length
    · have h8 : ¬ l.length ≤ 8 := fun h => h18 ⟨h1, h⟩
      clear h18
      go_wp2
      go_ret
      exact ⟨by rw [HN.out]; rfl, rfl⟩
    · clear h18
      go_wp2
      go_ret
      exact ⟨by rw [HN.out]; rfl, rfl⟩

theorem info_kind : (Tryd.prog.info? 41).map (fun i => (i.zero, i.size, i.bytes)) = some (some (.int .u8 0), 1, 1) := by kernel_rfl
/-- Kinds of the call's own, at a value. -/
def Kds (w : World) (base : Nat) (v : Value) (l : List UInt8) : Prop := w.ownsRow base 41 1 v l.length (bcells l)
theorem kds_of {w : World} {base n : Nat} {v : Value} {xs : List Value} {m : List UInt8} (h : w.ownsRow base 41 1 v n xs) (hx : xs = bcells m) : Kds w base v m := by
  have h1 := h.1
  subst hx
  rw [bcells_length, Nat.mul_one] at h1
  subst h1
  exact h
theorem kds_slice {w : World} {base : Nat} {v : Value} {l : List UInt8} (h : Kds w base v l) : ∃ A c, v = .slice A l.length c ∧ l.length ≤ c ∧ c ≤ 9223372036854775807 ∧ Brd w A l := by
  obtain ⟨A, c, hv, hc, hm, hr⟩ := own_form h
  unfold maxLen at hm
  exact ⟨A, c, hv, hc, hm, hr⟩

set_option maxHeartbeats 1000000 in
theorem appendBool_any (x : Bool) (v : Value) (l : List UInt8) (base : Nat) (w : World) (hown : Byt w base v l) (hbase : base ≤ w.heap.size) (hl : l.length ≤ 70368744177664) :
    Calls Tryd.prog 59 #[v, .bool x] w fun e w' => ∃ v', e = .returned v' ∧ Byt w' base v' (l ++ [if x then 1 else 0]) ∧ Upd w w' v v' := by
  obtain ⟨i0, hi0, hz0, hz1, hz2⟩ := info_parts info_u8
  cases x
  · go_enter Tryd.func59, Tryd.ntmps59
    go_wp2_with (at_builtin; refine wpList_append_src _ rfl (.tmp 9) (.tmp 10) 24 24 rfl base 5 _ _ 1 1 Tryd.underlying24 hi0 hz0 hz1 hz2 rfl _ _ _ rfl (hown.alloc _) _ 1 (bcells [0]) rfl (src_rd Tryd.underlying24 _ (rd_lit (by simp) rfl rfl) (by decide) (bcells_one _)) (by simp only [maxLen]; omega) (by omega) (by simp; omega) ?_; intro v1 w1 hown1 hg1 ha1)
    go_ret
    exact ⟨_, rfl, byt_app hown1, ((Upd.refl _ _).alloc _).app hg1 ha1⟩
  · go_enter Tryd.func59, Tryd.ntmps59
    go_wp2_with (at_builtin; refine wpList_append_src _ rfl (.tmp 6) (.tmp 7) 24 24 rfl base 5 _ _ 1 1 Tryd.underlying24 hi0 hz0 hz1 hz2 rfl _ _ _ rfl (hown.alloc _) _ 1 (bcells [1]) rfl (src_rd Tryd.underlying24 _ (rd_lit (by simp) rfl rfl) (by decide) (bcells_one _)) (by simp only [maxLen]; omega) (by omega) (by simp; omega) ?_; intro v1 w1 hown1 hg1 ha1)
    go_ret
    exact ⟨_, rfl, byt_app hown1, ((Upd.refl _ _).alloc _).app hg1 ha1⟩
end Go.Proofs.YtdlgobakoomkpaaDoor
