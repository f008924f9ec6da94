/-
  The document's own literal (ref02.Literal), of a value.
-/
import Derived.Test.YtcloajmcfacfnaaDoorLit
namespace Go.Proofs.YtcloajmcfacfnaaDoor
open Go.RowKit

/-- What ref's Literal writes. -/
def rlit (v : Val) : List UInt8 :=
  if v.k = 1 then Lib.itoa v.i else if v.k = 2 then 39 :: (dbl v.s.data.toList ++ [39])
  else if v.k = 3 then (if v.b = true then [84, 82, 85, 69] else [70, 65, 76, 83, 69]) else [78, 85, 76, 76]
theorem take_more (s : ByteArray) (k : Nat) (h : k < s.size) : s.data.toList.take (k + 1) = s.data.toList.take k ++ [s[k]'h] := by
  rw [List.take_succ_eq_append_getElem (by simpa using h)]; rfl
theorem dbl_more (s : ByteArray) (k : Nat) (h : k < s.size) : dbl (s.data.toList.take (k + 1)) = dbl (s.data.toList.take k) ++ dbl [s[k]'h] := by
  rw [take_more s k h, dbl_app]
theorem cut_one (s : ByteArray) (k : Nat) (h : k < s.size) : List.take 1 (List.drop k s.data.toList) = [s[k]'h] := by
  rw [List.take_one, List.head?_drop, List.getElem?_eq_getElem (by simpa using h)]
  rfl

set_option maxHeartbeats 1000000 in
theorem rliteral_any (v : Val) (hi : -9223372036854775808 ≤ v.i ∧ v.i ≤ 9223372036854775807) (hs : v.s.size ≤ 1000) (w : World) :
    Calls Tryd.prog 31 #[.agg #[.int .u8 v.k, .int .i64 v.i, .string v.s, .bool v.b]] w fun e w' => e = .returned (.string ⟨(rlit v).toArray⟩) ∧ Below w.heap.size w w' := by
  obtain ⟨k, i, s, b⟩ := v
  unfold rlit
  simp only [] at *
  by_cases h1 : k = 1
  · rw [if_pos h1]
    subst h1
    have hd := rdec_any i hi.1 hi.2
    generalize Lib.itoa i = l at *
    have HD := Lib.hid hd
    clear hi hs hd
    go_enter Tryd.func31, Tryd.ntmps31
    go_wp2_with (go_at_call 14; (with_reducible refine (HD.out _).mono ?_); rintro e w' ⟨rfl, rfl⟩)
    go_ret
    exact ⟨rfl, (by repeat (first | exact Below.refl _ _ | refine Below.drew ?_ | refine below_drewN ?_ _ | refine Below.al ?_ _ | refine Below.next ?_ (by assumption)))⟩
  · rw [if_neg h1]
    have g1 : (k == 1) = false := by simpa using h1
    by_cases h2 : k = 2
    · rw [if_pos h2]
      subst h2
      clear hi h1 g1
      go_enter Tryd.func31, Tryd.ntmps31
      go_wp2
      go_loop [3, 4] (fun t j => ∃ (n : Nat) (l : List UInt8), n ≤ s.size ∧ j = .int .i64 n ∧ t = .string ⟨(39 :: l).toArray⟩ ∧ l.length ≤ 2 * n ∧ Hid (l = dbl (s.data.toList.take n))) (fun _ j => s.size - (intOf j).toNat)
      case atStart => exact ⟨0, [], Nat.zero_le _, rfl, rfl, by simp, Lib.hid rfl⟩
      case round =>
        obtain ⟨n, l, hn, rfl, rfl, hl, hd⟩ := hrel
        by_cases hlt : n < s.size
        · have HT := Lib.hid (dbl_more s n hlt)
          have HC := Lib.hid (cut_one s n hlt)
          by_cases hq : s[n]'hlt = 39
          · have hq1 : (((s[n]'hlt).toNat : Int) == 39) = true := by rw [hq]; rfl
            have HQ := Lib.hid hq
            clear hq
            go_wp2
            refine ⟨⟨n + 1, l ++ [39, 39], by omega, by go_num, congrArg Value.string (str_ext ?_), by simp; omega, Lib.hid ?_⟩, by simp [intOf]; omega⟩
            · simp [HC.out, HQ.out]
            · rw [HT.out, HQ.out, hd.out]; rfl
          · have hq1 : (((s[n]'hlt).toNat : Int) == 39) = false := by
              apply beq_eq_false_iff_ne.2
              intro he
              apply hq
              exact UInt8.toNat_inj.1 (by simp; omega)
            have HQ := Lib.hid (dbl_o hq)
            clear hq
            go_wp2
            refine ⟨⟨n + 1, l ++ [s[n]'hlt], by omega, by go_num, congrArg Value.string (str_ext ?_), by simp; omega, Lib.hid ?_⟩, by simp [intOf]; omega⟩
            · simp [HC.out]
            · rw [HT.out, HQ.out, hd.out]
        · have hall : s.data.toList.take n = s.data.toList := List.take_of_length_le (by simp; omega)
          have HF := Lib.hid (show l = dbl s.data.toList by rw [hd.out, hall])
          clear hall
          go_wp2
          go_ret
          exact ⟨ret_str (by rw [← HF.out]; simp), (by repeat (first | exact Below.refl _ _ | refine Below.drew ?_ | refine below_drewN ?_ _ | refine Below.al ?_ _ | refine Below.next ?_ (by assumption)))⟩
    · rw [if_neg h2]
      have g2 : (k == 2) = false := by simpa using h2
      by_cases h3 : k = 3
      · rw [if_pos h3]
        subst h3
        clear hi hs h1 h2 g1 g2
        cases b
        all_goals
          go_enter Tryd.func31, Tryd.ntmps31
          go_wp2
          go_ret
          exact ⟨rfl, (by repeat (first | exact Below.refl _ _ | refine Below.drew ?_ | refine below_drewN ?_ _ | refine Below.al ?_ _ | refine Below.next ?_ (by assumption)))⟩
      · rw [if_neg h3]
        have g3 : (k == 3) = false := by simpa using h3
        clear hi hs h1 h2 h3
        go_enter Tryd.func31, Tryd.ntmps31
        go_wp2
        go_ret
        exact ⟨rfl, (by repeat (first | exact Below.refl _ _ | refine Below.drew ?_ | refine below_drewN ?_ _ | refine Below.al ?_ _ | refine Below.next ?_ (by assumption)))⟩
end Go.Proofs.YtcloajmcfacfnaaDoor
