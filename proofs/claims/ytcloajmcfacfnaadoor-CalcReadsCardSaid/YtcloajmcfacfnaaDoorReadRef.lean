/-
  The document's own reading of digits (ref01.Read): the number, or 0 and the error; the world is left alone.
-/
import Derived.Test.YtcloajmcfacfnaaDoorReadRefP
import Derived.Test.YtcloajmcfacfnaaDoorCellA
import Derived.Test.YtcloajmcfacfnaaDoorOrder
namespace Go.Proofs.YtcloajmcfacfnaaDoor
open Go.RowKit

/-- What is left of the text behind some noughts: its digits write the same number. -/
structure Same (l t : List UInt8) : Prop where
  d : digs t = true
  n : num t = num l
def sz (v : Value) : Nat := match v with | .string b => b.size | _ => 0
theorem tail_eq (t : ByteArray) (h : 0 < t.size) : t.data.toList = (t[0]'h) :: (t.extract 1 t.size).data.toList := by
  have e : (t.extract 1 t.size).data.toList = t.data.toList.drop 1 := by
    rw [ByteArray.data_extract, Array.toList_extract, List.extract_eq_take_drop]
    apply List.take_of_length_le
    simp
  rw [e]
  have := List.drop_eq_getElem_cons (l := t.data.toList) (i := 0) (by simpa using h)
  exact this
theorem ret_2 {a b c d : Int} (h1 : a = c) (h2 : b = d) : Ending.returned (.tuple #[.int .i64 a, .int .i64 b]) = .returned (.tuple #[.int .i64 c, .int .i64 d]) := by rw [h1, h2]

theorem Same.over {l : List UInt8} {t : ByteArray} (h : Same l t.data.toList) (_h1 : 1 ≤ t.size) (hb : 19 < t.size) (hgo : t.size = 1 ∨ ¬ t[0]'(by omega) = 48) : ¬ In64 (num l) := by
  have e := tail_eq t (by omega)
  have hd := h.d
  rw [← h.n]
  rw [e] at hd ⊢
  have := far hd (by rcases hgo with g | g; omega; exact g) (by simp; omega)
  intro hc
  have := hc.2
  omega
theorem top_is : ([57, 50, 50, 51, 51, 55, 50, 48, 51, 54, 56, 53, 52, 55, 55, 53, 56, 48, 55] : List UInt8) = top19 := rfl
theorem Same.over19 {l : List UInt8} {t : ByteArray} (h : Same l t.data.toList) (hb : t.size = 19) (hx : Op.bytesLess t.toList ([57, 50, 50, 51, 51, 55, 50, 48, 51, 54, 56, 53, 52, 55, 55, 53, 56, 48, 55] : List UInt8) = false) (hy : (t.toList == ([57, 50, 50, 51, 51, 55, 50, 48, 51, 54, 56, 53, 52, 55, 55, 53, 56, 48, 55] : List UInt8)) = false) : ¬ In64 (num l) := by
  rw [less_iff, ByteArray.toList_eq, top_is] at hx
  rw [ByteArray.toList_eq, top_is] at hy
  have hlt : top19 < t.data.toList := by
    apply Classical.byContradiction
    intro hc
    have := llt_tri _ _ (of_decide_eq_false hx) hc
    rw [this] at hy
    simp at hy
  have := (at19 h.d (by simpa using hb)).2 hlt
  rw [h.n] at this
  intro hc
  have := hc.2
  omega
theorem Same.fit19 {l : List UInt8} {t : ByteArray} (h : Same l t.data.toList) (hb : t.size = 19) (hx : Op.bytesLess t.toList ([57, 50, 50, 51, 51, 55, 50, 48, 51, 54, 56, 53, 52, 55, 55, 53, 56, 48, 55] : List UInt8) = true ∨ (t.toList == ([57, 50, 50, 51, 51, 55, 50, 48, 51, 54, 56, 53, 52, 55, 55, 53, 56, 48, 55] : List UInt8)) = true) : num t.data.toList ≤ 9223372036854775807 := by
  rw [less_iff, ByteArray.toList_eq, top_is] at hx
  apply Classical.byContradiction
  intro hc
  have hlt := (at19 h.d (by simpa using hb)).1 (by omega)
  rcases hx with hx | hx
  · exact llt_irrefl _ (llt_trans _ _ _ (of_decide_eq_true hx) hlt)
  · have e : t.data.toList = top19 := by simpa using hx
    rw [e] at hlt
    exact llt_irrefl _ hlt
theorem Same.fit {l : List UInt8} {t : ByteArray} (h : Same l t.data.toList) (hb : t.size ≤ 18) : num t.data.toList ≤ 9223372036854775807 := near h.d (by simpa using hb)
theorem digit_at {t : ByteArray} (h : digs t.data.toList = true) (k : Nat) (hk : k < t.size) : 48 ≤ (t[k]'hk).toNat ∧ (t[k]'hk).toNat ≤ 57 := by
  unfold digs at h
  have := List.all_eq_true.1 h (t[k]'hk) (by
    have : t[k]'hk = t.data.toList[k]'(by simpa using hk) := rfl
    rw [this]; exact List.getElem_mem _)
  exact of_decide_eq_true this

set_option maxHeartbeats 2000000 in
theorem rread_any (s : ByteArray) (hs : s.size ≤ 9223372036854775807) (w : World) :
    Calls Tryd.prog 12 #[.string s] w fun e w' => e = .returned (.tuple #[.int .i64 (readv s.data.toList), .int .i64 (reade s.data.toList)]) ∧ w = w' := by
  by_cases he : s.size = 0
  · have hE : s.data.toList = [] := List.eq_nil_of_length_eq_zero (by simpa using he)
    rw [readv_bad (.inl hE), reade_bad (.inl hE)]
    have he1 : ((s.size : Int) == 0) = true := by rw [he]; rfl
    clear hE
    go_enter Tryd.func12, Tryd.ntmps12
    go_wp2
    go_ret2
    exact ⟨rfl, rfl⟩
  · have he1 : ((s.size : Int) == 0) = false := beq_eq_false_iff_ne.2 (by omega)
    have hne : s.data.toList ≠ [] := fun h => he (by simpa using congrArg List.length h)
    have HNE := Lib.hid hne
    have hpos : 0 < s.size := by omega
    clear he hne
    go_enter Tryd.func12, Tryd.ntmps12
    go_wp2
    go_loop [4] (fun i => ∃ k : Nat, k ≤ s.size ∧ i = .int .i64 k ∧ Hid (digs (s.data.toList.take k) = true)) (fun i => s.size - (intOf i).toNat)
    case atStart => exact ⟨0, Nat.zero_le _, rfl, Lib.hid rfl⟩
    case round =>
      obtain ⟨k, hk, rfl, hd⟩ := hrel
      by_cases hlt : k < s.size
      · have HT := Lib.hid (take_snoc s k hlt)
        by_cases h1 : (s[k]'hlt).toNat < 48
        · have HB := Lib.hid (show digs s.data.toList = false from digs_take (k := k + 1) (by rw [HT.out, digs_snoc]; simp [dig]; omega))
          go_wp2
          go_ret2
          rw [readv_bad (.inr HB.out), reade_bad (.inr HB.out)]
          exact ⟨rfl, rfl⟩
        · by_cases h2 : 57 < (s[k]'hlt).toNat
          · have HB := Lib.hid (show digs s.data.toList = false from digs_take (k := k + 1) (by rw [HT.out, digs_snoc]; simp [dig]; omega))
            go_wp2
            go_ret2
            rw [readv_bad (.inr HB.out), reade_bad (.inr HB.out)]
            exact ⟨rfl, rfl⟩
          · have h3 : 48 ≤ (s[k]'hlt).toNat := by omega
            have h4 : (s[k]'hlt).toNat ≤ 57 := by omega
            have HG := Lib.hid (show digs (s.data.toList.take (k + 1)) = true by rw [HT.out, digs_snoc, hd.out]; simp [dig]; omega)
            clear h1 h2
            go_wp2
            go_round
            case rel => exact ⟨k + 1, by omega, by go_num, HG⟩
            case measure => simp [intOf]; omega
      · have hall : s.data.toList.take k = s.data.toList := List.take_of_length_le (by simp; omega)
        have HD := Lib.hid (show digs s.data.toList = true by rw [← hall]; exact hd.out)
        have HG := Lib.hid (show ¬ (s.data.toList = [] ∨ digs s.data.toList = false) by rw [HD.out]; simpa using HNE.out)
        clear hall hd
        go_wp2
        go_loop [0] (fun v => ∃ t : ByteArray, v = .string t ∧ t.size ≤ s.size ∧ 1 ≤ t.size ∧ Hid (Same s.data.toList t.data.toList)) (fun v => sz v)
        case atStart => exact ⟨s, rfl, Nat.le_refl _, hpos, Lib.hid ⟨HD.out, rfl⟩⟩
        case round =>
          obtain ⟨t, rfl, ht, ht1, hsm⟩ := hrel
          have HTL := Lib.hid (tail_eq t (by omega))
          by_cases g1 : 1 < t.size
          · by_cases g2 : t[0]'(by omega) = 48
            · have g3 : (((t[0]'(by omega)).toNat : Int) == 48) = true := by rw [g2]; rfl
              have hn : Same s.data.toList (t.extract 1 t.size).data.toList := by
                have h := hsm.out
                rw [HTL.out, g2] at h
                exact ⟨(digs_cons h.d).2, by rw [← h.n, num_nought]⟩
              have HN := Lib.hid hn
              clear g2 hn HTL
              go_wp2
              go_round
              case rel => exact ⟨_, rfl, by simp; omega, by simp; omega, HN⟩
              case measure => simp [sz]; omega
            · have g3 : (((t[0]'(by omega)).toNat : Int) == 48) = false := beq_eq_false_iff_ne.2 (fun e => g2 (UInt8.toNat_inj.1 (by simp; omega)))
              have HGO := Lib.hid (show t.size = 1 ∨ ¬ t[0]'(by omega) = 48 from .inr g2)
              clear g2 HTL
              by_cases b1 : 19 < t.size
              · have HF := Lib.hid (hsm.out.over ht1 b1 HGO.out)
                clear hsm
                go_wp2
                go_ret2
                exact ⟨ret_2 (by rw [readv_good HG.out, okv_out HF.out]) (by rw [reade_good HG.out, oke_out HF.out]), rfl⟩
              · by_cases b2 : t.size = 19
                · have q0 : ((t.size : Int) == 19) = true := beq_iff_eq.2 (by omega)
                  cases x : Op.bytesLess t.toList ([57, 50, 50, 51, 51, 55, 50, 48, 51, 54, 56, 53, 52, 55, 55, 53, 56, 48, 55] : List UInt8) with
                  | true =>
                    have hfit := hsm.out.fit19 b2 (.inl x)
                    clear b2
                    go_wp2
                    go_loop [5, 6] (fun n i => ∃ (k : Nat) (m : Int), k ≤ t.size ∧ i = .int .i64 k ∧ n = .int .i64 m ∧ 0 ≤ m ∧ m ≤ 9223372036854775807 ∧ Hid (m = num (t.data.toList.take k))) (fun _ i => t.size - (intOf i).toNat)
                    case atStart => exact ⟨0, 0, Nat.zero_le _, rfl, rfl, by omega, by omega, Lib.hid rfl⟩
                    case round =>
                      obtain ⟨k, m, hk, rfl, rfl, m0, m1, hm⟩ := hrel
                      by_cases hlt : k < t.size
                      · have hdg := digit_at hsm.out.d k hlt
                        have hN : m * 10 + (((t[k]'hlt).toNat : Int) - 48) = num (t.data.toList.take (k + 1)) := by rw [take_snoc t k hlt, num_snoc, ← hm.out]
                        have hle := num_take_le hsm.out.d (k + 1)
                        have HN := Lib.hid hN
                        have hmx : 10 * m + (((t[k]'hlt).toNat : Int) - 48) ≤ 9223372036854775807 := by omega
                        obtain ⟨d0, d1⟩ := hdg
                        have hmx2 : 10 * m ≤ 9223372036854775807 := by omega
                        clear hN hle
                        go_wp2
                        go_round
                        case rel => exact ⟨k + 1, 10 * m + (((t[k]'hlt).toNat : Int) - 48), by omega, by go_num, rfl, by omega, hmx, Lib.hid (by rw [← HN.out]; omega)⟩
                        case measure => simp [intOf]; omega
                      · have HR := Lib.hid (show m = num s.data.toList by rw [hm.out, List.take_of_length_le (by simp; omega), hsm.out.n])
                        have hin : In64 (num s.data.toList) := by rw [← HR.out]; exact in64 (by omega) m1
                        have HI := Lib.hid hin
                        clear hin
                        go_wp2
                        go_ret2
                        exact ⟨ret_2 (by rw [readv_good HG.out, okv_in HI.out, HR.out]) (by rw [reade_good HG.out, oke_in HI.out]), rfl⟩
                  | false =>
                    cases y : (t.toList == ([57, 50, 50, 51, 51, 55, 50, 48, 51, 54, 56, 53, 52, 55, 55, 53, 56, 48, 55] : List UInt8)) with
                    | true =>
                      have hfit := hsm.out.fit19 b2 (.inr y)
                      clear b2
                      go_wp2
                      go_loop [5, 6] (fun n i => ∃ (k : Nat) (m : Int), k ≤ t.size ∧ i = .int .i64 k ∧ n = .int .i64 m ∧ 0 ≤ m ∧ m ≤ 9223372036854775807 ∧ Hid (m = num (t.data.toList.take k))) (fun _ i => t.size - (intOf i).toNat)
                      case atStart => exact ⟨0, 0, Nat.zero_le _, rfl, rfl, by omega, by omega, Lib.hid rfl⟩
                      case round =>
                        obtain ⟨k, m, hk, rfl, rfl, m0, m1, hm⟩ := hrel
                        by_cases hlt : k < t.size
                        · have hdg := digit_at hsm.out.d k hlt
                          have hN : m * 10 + (((t[k]'hlt).toNat : Int) - 48) = num (t.data.toList.take (k + 1)) := by rw [take_snoc t k hlt, num_snoc, ← hm.out]
                          have hle := num_take_le hsm.out.d (k + 1)
                          have HN := Lib.hid hN
                          have hmx : 10 * m + (((t[k]'hlt).toNat : Int) - 48) ≤ 9223372036854775807 := by omega
                          obtain ⟨d0, d1⟩ := hdg
                          have hmx2 : 10 * m ≤ 9223372036854775807 := by omega
                          clear hN hle
                          go_wp2
                          go_round
                          case rel => exact ⟨k + 1, 10 * m + (((t[k]'hlt).toNat : Int) - 48), by omega, by go_num, rfl, by omega, hmx, Lib.hid (by rw [← HN.out]; omega)⟩
                          case measure => simp [intOf]; omega
                        · have HR := Lib.hid (show m = num s.data.toList by rw [hm.out, List.take_of_length_le (by simp; omega), hsm.out.n])
                          have hin : In64 (num s.data.toList) := by rw [← HR.out]; exact in64 (by omega) m1
                          have HI := Lib.hid hin
                          clear hin
                          go_wp2
                          go_ret2
                          exact ⟨ret_2 (by rw [readv_good HG.out, okv_in HI.out, HR.out]) (by rw [reade_good HG.out, oke_in HI.out]), rfl⟩
                    | false =>
                      have HF := Lib.hid (hsm.out.over19 b2 x y)
                      clear b2 hsm
                      go_wp2
                      go_ret2
                      exact ⟨ret_2 (by rw [readv_good HG.out, okv_out HF.out]) (by rw [reade_good HG.out, oke_out HF.out]), rfl⟩
                · have q0 : ((t.size : Int) == 19) = false := beq_eq_false_iff_ne.2 (by omega)
                  have hfit := hsm.out.fit (by omega)
                  clear b2
                  go_wp2
                  go_loop [5, 6] (fun n i => ∃ (k : Nat) (m : Int), k ≤ t.size ∧ i = .int .i64 k ∧ n = .int .i64 m ∧ 0 ≤ m ∧ m ≤ 9223372036854775807 ∧ Hid (m = num (t.data.toList.take k))) (fun _ i => t.size - (intOf i).toNat)
                  case atStart => exact ⟨0, 0, Nat.zero_le _, rfl, rfl, by omega, by omega, Lib.hid rfl⟩
                  case round =>
                    obtain ⟨k, m, hk, rfl, rfl, m0, m1, hm⟩ := hrel
                    by_cases hlt : k < t.size
                    · have hdg := digit_at hsm.out.d k hlt
                      have hN : m * 10 + (((t[k]'hlt).toNat : Int) - 48) = num (t.data.toList.take (k + 1)) := by rw [take_snoc t k hlt, num_snoc, ← hm.out]
                      have hle := num_take_le hsm.out.d (k + 1)
                      have HN := Lib.hid hN
                      have hmx : 10 * m + (((t[k]'hlt).toNat : Int) - 48) ≤ 9223372036854775807 := by omega
                      obtain ⟨d0, d1⟩ := hdg
                      have hmx2 : 10 * m ≤ 9223372036854775807 := by omega
                      clear hN hle
                      go_wp2
                      go_round
                      case rel => exact ⟨k + 1, 10 * m + (((t[k]'hlt).toNat : Int) - 48), by omega, by go_num, rfl, by omega, hmx, Lib.hid (by rw [← HN.out]; omega)⟩
                      case measure => simp [intOf]; omega
                    · have HR := Lib.hid (show m = num s.data.toList by rw [hm.out, List.take_of_length_le (by simp; omega), hsm.out.n])
                      have hin : In64 (num s.data.toList) := by rw [← HR.out]; exact in64 (by omega) m1
                      have HI := Lib.hid hin
                      clear hin
                      go_wp2
                      go_ret2
                      exact ⟨ret_2 (by rw [readv_good HG.out, okv_in HI.out, HR.out]) (by rw [reade_good HG.out, oke_in HI.out]), rfl⟩
          · have g4 : ¬ 1 < t.size := g1
            have HGO := Lib.hid (show t.size = 1 ∨ ¬ t[0]'(by omega) = 48 from .inl (by omega))
            clear HTL HGO
            have b1 : t.size ≤ 19 := by omega
            have q0 : ((t.size : Int) == 19) = false := beq_eq_false_iff_ne.2 (by omega)
            have hfit := hsm.out.fit (by omega)
            go_wp2
            go_loop [5, 6] (fun n i => ∃ (k : Nat) (m : Int), k ≤ t.size ∧ i = .int .i64 k ∧ n = .int .i64 m ∧ 0 ≤ m ∧ m ≤ 9223372036854775807 ∧ Hid (m = num (t.data.toList.take k))) (fun _ i => t.size - (intOf i).toNat)
            case atStart => exact ⟨0, 0, Nat.zero_le _, rfl, rfl, by omega, by omega, Lib.hid rfl⟩
            case round =>
              obtain ⟨k, m, hk, rfl, rfl, m0, m1, hm⟩ := hrel
              by_cases hlt : k < t.size
              · have hdg := digit_at hsm.out.d k hlt
                have hN : m * 10 + (((t[k]'hlt).toNat : Int) - 48) = num (t.data.toList.take (k + 1)) := by rw [take_snoc t k hlt, num_snoc, ← hm.out]
                have hle := num_take_le hsm.out.d (k + 1)
                have HN := Lib.hid hN
                have hmx : 10 * m + (((t[k]'hlt).toNat : Int) - 48) ≤ 9223372036854775807 := by omega
                obtain ⟨d0, d1⟩ := hdg
                have hmx2 : 10 * m ≤ 9223372036854775807 := by omega
                clear hN hle
                go_wp2
                go_round
                case rel => exact ⟨k + 1, 10 * m + (((t[k]'hlt).toNat : Int) - 48), by omega, by go_num, rfl, by omega, hmx, Lib.hid (by rw [← HN.out]; omega)⟩
                case measure => simp [intOf]; omega
              · have HR := Lib.hid (show m = num s.data.toList by rw [hm.out, List.take_of_length_le (by simp; omega), hsm.out.n])
                have hin : In64 (num s.data.toList) := by rw [← HR.out]; exact in64 (by omega) m1
                have HI := Lib.hid hin
                clear hin
                go_wp2
                go_ret2
                exact ⟨ret_2 (by rw [readv_good HG.out, okv_in HI.out, HR.out]) (by rw [reade_good HG.out, oke_in HI.out]), rfl⟩
end Go.Proofs.YtcloajmcfacfnaaDoor
