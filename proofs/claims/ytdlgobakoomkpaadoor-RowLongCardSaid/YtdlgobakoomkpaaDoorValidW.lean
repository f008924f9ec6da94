/-
  ref02.valid: whole runes, none of them 0.
-/
import Derived.Test.YtdlgobakoomkpaaDoorValidQ
import Derived.Test.YtdlgobakoomkpaaDoorCellB
import Derived.LoopN
namespace Go.Proofs.YtdlgobakoomkpaaDoor
open Go.RowKit

set_option maxRecDepth 100000 in
set_option maxHeartbeats 16000000 in
theorem valid_any (s : ByteArray) (hs : s.size ≤ 9223372036854775000) (w : World) :
    Calls Tryd.prog 45 #[.string s] w fun e w' => e = .returned (.bool (whole s.data.toList)) ∧ w = w' := by
  go_enter Tryd.func45, Tryd.ntmps45
  go_wp2
  go_loop [3] (fun i => ∃ k : Nat, k ≤ s.size ∧ i = .int .i64 k ∧ Hid (whole s.data.toList = whole (s.data.toList.drop k))) (fun i => s.size - (intOf i).toNat)
  case atStart => exact ⟨0, Nat.zero_le _, rfl, Lib.hid rfl⟩
  case round =>
    obtain ⟨k, hk, rfl, hw⟩ := hrel
    by_cases hlt : k < s.size
    · by_cases hz : (s[k]'hlt).toNat = 0
      · have HF := Lib.hid (at_zero s k hlt hz)
        have hz' : (((s[k]'hlt).toNat : Int) == 0) = true := by rw [hz]; rfl
        clear hz
        go_wp2
        go_ret
        rw [hw.out, HF.out]
        exact ⟨rfl, rfl⟩
      · have hz' : (((s[k]'hlt).toNat : Int) == 0) = false := by simp; omega
        by_cases ha : (s[k]'hlt).toNat < 128
        · have HF := Lib.hid (at_ascii s k hlt hz ha)
          clear hz
          go_wp2
          go_round
          case rel => exact ⟨k + 1, by omega, by go_num, Lib.hid (hw.out.trans HF.out)⟩
          case measure => simp [intOf]; omega
        · clear hz
          by_cases hc : 192 ≤ (s[k]'hlt).toNat ∧ (s[k]'hlt).toNat < 224
          · obtain ⟨h0, h0'⟩ := hc
            by_cases hn : s.size - k ≤ 1
            · have HF := Lib.hid (c2_short s k hlt h0 h0' hn)
              go_wp2
              go_ret
              rw [hw.out, HF.out]
              exact ⟨rfl, rfl⟩
            · have hn2 : k + 1 < s.size := by omega
              clear hn
              by_cases p1 : 128 ≤ (s[k + 1]'(by omega)).toNat
              · by_cases q1 : (s[k + 1]'(by omega)).toNat < 192
                · by_cases r0 : 128 ≤ (((s[k]'hlt).toNat - 192) * 64 + ((s[k + 1]'(by omega)).toNat - 128))
                  · have HF := Lib.hid (c2_ok s k hlt h0 h0' hn2 p1 q1 r0)
                    go_wp2
                    refine wp_loop_rounds 2 ?_
                    rw [rounds_succ]
                    go_wp2
                    rw [rounds_succ]
                    go_wp2
                    go_round
                    case rel => exact ⟨k + 2, by omega, by go_num, Lib.hid (hw.out.trans HF.out)⟩
                    case measure => simp [intOf]; omega
                  · have HF := Lib.hid (c2_badr s k hlt h0 h0' hn2 p1 q1 (by omega))
                    go_wp2
                    refine wp_loop_rounds 2 ?_
                    rw [rounds_succ]
                    go_wp2
                    rw [rounds_succ]
                    go_wp2
                    go_ret
                    rw [hw.out, HF.out]
                    exact ⟨rfl, rfl⟩
                · have HF := Lib.hid (c2_bad1 s k hlt h0 h0' hn2 (.inr (by omega)))
                  go_wp2
                  refine wp_loop_rounds 2 ?_
                  rw [rounds_succ]
                  go_wp2
                  go_ret
                  rw [hw.out, HF.out]
                  exact ⟨rfl, rfl⟩
              · have HF := Lib.hid (c2_bad1 s k hlt h0 h0' hn2 (.inl (by omega)))
                go_wp2
                refine wp_loop_rounds 2 ?_
                rw [rounds_succ]
                go_wp2
                go_ret
                rw [hw.out, HF.out]
                exact ⟨rfl, rfl⟩
          · skip
            by_cases hc : 224 ≤ (s[k]'hlt).toNat ∧ (s[k]'hlt).toNat < 240
            · obtain ⟨h0, h0'⟩ := hc
              by_cases hn : s.size - k ≤ 2
              · have HF := Lib.hid (c3_short s k hlt h0 h0' hn)
                go_wp2
                go_ret
                rw [hw.out, HF.out]
                exact ⟨rfl, rfl⟩
              · have hn2 : k + 2 < s.size := by omega
                clear hn
                by_cases p1 : 128 ≤ (s[k + 1]'(by omega)).toNat
                · by_cases q1 : (s[k + 1]'(by omega)).toNat < 192
                  · by_cases p2 : 128 ≤ (s[k + 2]'(by omega)).toNat
                    · by_cases q2 : (s[k + 2]'(by omega)).toNat < 192
                      · by_cases r0 : 2048 ≤ ((((s[k]'hlt).toNat - 224) * 64 + ((s[k + 1]'(by omega)).toNat - 128)) * 64 + ((s[k + 2]'(by omega)).toNat - 128))
                        · by_cases r1 : ((((s[k]'hlt).toNat - 224) * 64 + ((s[k + 1]'(by omega)).toNat - 128)) * 64 + ((s[k + 2]'(by omega)).toNat - 128)) < 55296
                          · have HF := Lib.hid (c3_ok s k hlt h0 h0' hn2 p1 q1 p2 q2 r0 (.inl r1))
                            go_wp2
                            refine wp_loop_rounds 3 ?_
                            rw [rounds_succ]
                            go_wp2
                            rw [rounds_succ]
                            go_wp2
                            rw [rounds_succ]
                            go_wp2
                            go_round
                            case rel => exact ⟨k + 3, by omega, by go_num, Lib.hid (hw.out.trans HF.out)⟩
                            case measure => simp [intOf]; omega
                          · by_cases r2 : 57344 ≤ ((((s[k]'hlt).toNat - 224) * 64 + ((s[k + 1]'(by omega)).toNat - 128)) * 64 + ((s[k + 2]'(by omega)).toNat - 128))
                            · have HF := Lib.hid (c3_ok s k hlt h0 h0' hn2 p1 q1 p2 q2 r0 (.inr r2))
                              go_wp2
                              refine wp_loop_rounds 3 ?_
                              rw [rounds_succ]
                              go_wp2
                              rw [rounds_succ]
                              go_wp2
                              rw [rounds_succ]
                              go_wp2
                              go_round
                              case rel => exact ⟨k + 3, by omega, by go_num, Lib.hid (hw.out.trans HF.out)⟩
                              case measure => simp [intOf]; omega
                            · have HF := Lib.hid (c3_badr s k hlt h0 h0' hn2 p1 q1 p2 q2 (.inr ⟨by omega, by omega⟩))
                              go_wp2
                              refine wp_loop_rounds 3 ?_
                              rw [rounds_succ]
                              go_wp2
                              rw [rounds_succ]
                              go_wp2
                              rw [rounds_succ]
                              go_wp2
                              go_ret
                              rw [hw.out, HF.out]
                              exact ⟨rfl, rfl⟩
                        · have HF := Lib.hid (c3_badr s k hlt h0 h0' hn2 p1 q1 p2 q2 (.inl (by omega)))
                          go_wp2
                          refine wp_loop_rounds 3 ?_
                          rw [rounds_succ]
                          go_wp2
                          rw [rounds_succ]
                          go_wp2
                          rw [rounds_succ]
                          go_wp2
                          go_ret
                          rw [hw.out, HF.out]
                          exact ⟨rfl, rfl⟩
                      · have HF := Lib.hid (c3_bad2 s k hlt h0 h0' hn2 (.inr (by omega)))
                        go_wp2
                        refine wp_loop_rounds 3 ?_
                        rw [rounds_succ]
                        go_wp2
                        rw [rounds_succ]
                        go_wp2
                        go_ret
                        rw [hw.out, HF.out]
                        exact ⟨rfl, rfl⟩
                    · have HF := Lib.hid (c3_bad2 s k hlt h0 h0' hn2 (.inl (by omega)))
                      go_wp2
                      refine wp_loop_rounds 3 ?_
                      rw [rounds_succ]
                      go_wp2
                      rw [rounds_succ]
                      go_wp2
                      go_ret
                      rw [hw.out, HF.out]
                      exact ⟨rfl, rfl⟩
                  · have HF := Lib.hid (c3_bad1 s k hlt h0 h0' hn2 (.inr (by omega)))
                    go_wp2
                    refine wp_loop_rounds 3 ?_
                    rw [rounds_succ]
                    go_wp2
                    go_ret
                    rw [hw.out, HF.out]
                    exact ⟨rfl, rfl⟩
                · have HF := Lib.hid (c3_bad1 s k hlt h0 h0' hn2 (.inl (by omega)))
                  go_wp2
                  refine wp_loop_rounds 3 ?_
                  rw [rounds_succ]
                  go_wp2
                  go_ret
                  rw [hw.out, HF.out]
                  exact ⟨rfl, rfl⟩
            · skip
              by_cases hc : 240 ≤ (s[k]'hlt).toNat ∧ (s[k]'hlt).toNat < 248
              · obtain ⟨h0, h0'⟩ := hc
                by_cases hn : s.size - k ≤ 3
                · have HF := Lib.hid (c4_short s k hlt h0 h0' hn)
                  go_wp2
                  go_ret
                  rw [hw.out, HF.out]
                  exact ⟨rfl, rfl⟩
                · have hn2 : k + 3 < s.size := by omega
                  clear hn
                  by_cases p1 : 128 ≤ (s[k + 1]'(by omega)).toNat
                  · by_cases q1 : (s[k + 1]'(by omega)).toNat < 192
                    · by_cases p2 : 128 ≤ (s[k + 2]'(by omega)).toNat
                      · by_cases q2 : (s[k + 2]'(by omega)).toNat < 192
                        · by_cases p3 : 128 ≤ (s[k + 3]'(by omega)).toNat
                          · by_cases q3 : (s[k + 3]'(by omega)).toNat < 192
                            · by_cases r0 : 65536 ≤ (((((s[k]'hlt).toNat - 240) * 64 + ((s[k + 1]'(by omega)).toNat - 128)) * 64 + ((s[k + 2]'(by omega)).toNat - 128)) * 64 + ((s[k + 3]'(by omega)).toNat - 128))
                              · by_cases r1 : (((((s[k]'hlt).toNat - 240) * 64 + ((s[k + 1]'(by omega)).toNat - 128)) * 64 + ((s[k + 2]'(by omega)).toNat - 128)) * 64 + ((s[k + 3]'(by omega)).toNat - 128)) ≤ 1114111
                                · have HF := Lib.hid (c4_ok s k hlt h0 h0' hn2 p1 q1 p2 q2 p3 q3 r0 r1)
                                  go_wp2
                                  refine wp_loop_rounds 4 ?_
                                  rw [rounds_succ]
                                  go_wp2
                                  rw [rounds_succ]
                                  go_wp2
                                  rw [rounds_succ]
                                  go_wp2
                                  rw [rounds_succ]
                                  go_wp2
                                  go_round
                                  case rel => exact ⟨k + 4, by omega, by go_num, Lib.hid (hw.out.trans HF.out)⟩
                                  case measure => simp [intOf]; omega
                                · have HF := Lib.hid (c4_badr s k hlt h0 h0' hn2 p1 q1 p2 q2 p3 q3 (.inr (by omega)))
                                  go_wp2
                                  refine wp_loop_rounds 4 ?_
                                  rw [rounds_succ]
                                  go_wp2
                                  rw [rounds_succ]
                                  go_wp2
                                  rw [rounds_succ]
                                  go_wp2
                                  rw [rounds_succ]
                                  go_wp2
                                  go_ret
                                  rw [hw.out, HF.out]
                                  exact ⟨rfl, rfl⟩
                              · have HF := Lib.hid (c4_badr s k hlt h0 h0' hn2 p1 q1 p2 q2 p3 q3 (.inl (by omega)))
                                go_wp2
                                refine wp_loop_rounds 4 ?_
                                rw [rounds_succ]
                                go_wp2
                                rw [rounds_succ]
                                go_wp2
                                rw [rounds_succ]
                                go_wp2
                                rw [rounds_succ]
                                go_wp2
                                go_ret
                                rw [hw.out, HF.out]
                                exact ⟨rfl, rfl⟩
                            · have HF := Lib.hid (c4_bad3 s k hlt h0 h0' hn2 (.inr (by omega)))
                              go_wp2
                              refine wp_loop_rounds 4 ?_
                              rw [rounds_succ]
                              go_wp2
                              rw [rounds_succ]
                              go_wp2
                              rw [rounds_succ]
                              go_wp2
                              go_ret
                              rw [hw.out, HF.out]
                              exact ⟨rfl, rfl⟩
                          · have HF := Lib.hid (c4_bad3 s k hlt h0 h0' hn2 (.inl (by omega)))
                            go_wp2
                            refine wp_loop_rounds 4 ?_
                            rw [rounds_succ]
                            go_wp2
                            rw [rounds_succ]
                            go_wp2
                            rw [rounds_succ]
                            go_wp2
                            go_ret
                            rw [hw.out, HF.out]
                            exact ⟨rfl, rfl⟩
                        · have HF := Lib.hid (c4_bad2 s k hlt h0 h0' hn2 (.inr (by omega)))
                          go_wp2
                          refine wp_loop_rounds 4 ?_
                          rw [rounds_succ]
                          go_wp2
                          rw [rounds_succ]
                          go_wp2
                          go_ret
                          rw [hw.out, HF.out]
                          exact ⟨rfl, rfl⟩
                      · have HF := Lib.hid (c4_bad2 s k hlt h0 h0' hn2 (.inl (by omega)))
                        go_wp2
                        refine wp_loop_rounds 4 ?_
                        rw [rounds_succ]
                        go_wp2
                        rw [rounds_succ]
                        go_wp2
                        go_ret
                        rw [hw.out, HF.out]
                        exact ⟨rfl, rfl⟩
                    · have HF := Lib.hid (c4_bad1 s k hlt h0 h0' hn2 (.inr (by omega)))
                      go_wp2
                      refine wp_loop_rounds 4 ?_
                      rw [rounds_succ]
                      go_wp2
                      go_ret
                      rw [hw.out, HF.out]
                      exact ⟨rfl, rfl⟩
                  · have HF := Lib.hid (c4_bad1 s k hlt h0 h0' hn2 (.inl (by omega)))
                    go_wp2
                    refine wp_loop_rounds 4 ?_
                    rw [rounds_succ]
                    go_wp2
                    go_ret
                    rw [hw.out, HF.out]
                    exact ⟨rfl, rfl⟩
              · skip
                by_cases hx : (s[k]'hlt).toNat < 192
                · have HF := Lib.hid (cx_bad s k hlt (.inl ⟨by omega, hx⟩))
                  go_wp2
                  go_ret
                  rw [hw.out, HF.out]
                  exact ⟨rfl, rfl⟩
                · have hx2 : 248 ≤ (s[k]'hlt).toNat := by omega
                  have HF := Lib.hid (cx_bad s k hlt (.inr hx2))
                  go_wp2
                  go_ret
                  rw [hw.out, HF.out]
                  exact ⟨rfl, rfl⟩
    · have hall : s.data.toList.drop k = [] := List.drop_eq_nil_of_le (by simp; omega)
      have HF := Lib.hid (show whole (s.data.toList.drop k) = true by rw [hall]; rfl)
      clear hall
      go_wp2
      go_ret
      rw [hw.out, HF.out]
      exact ⟨rfl, rfl⟩
end Go.Proofs.YtdlgobakoomkpaaDoor
