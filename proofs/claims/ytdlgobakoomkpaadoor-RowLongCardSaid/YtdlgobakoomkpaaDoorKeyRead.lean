/-
  Package key: Read.
-/
import Derived.Test.YtdlgobakoomkpaaDoorKeyR
namespace Go.Proofs.YtdlgobakoomkpaaDoor
open Go.RowKit

theorem kf_cons (b : UInt8) (t : List UInt8) : kf (b :: t) = if b = 1 then (⟨0, 0, ⟨#[]⟩, false⟩, 1)
      else if b = 2 then (if 0 < t.length ∧ (t.getD 0 0).toNat ≤ 1 then (⟨3, 0, ⟨#[]⟩, t.getD 0 0 == 1⟩, 2) else (⟨0, 0, ⟨#[]⟩, false⟩, 0))
      else if b = 3 then (if 8 ≤ t.length then (⟨1, numOf (t.take 8), ⟨#[]⟩, false⟩, 9) else (⟨0, 0, ⟨#[]⟩, false⟩, 0))
      else if b = 4 then (if t.contains 0 = true then (⟨2, 0, ⟨(upto0 t).toArray⟩, false⟩, (upto0 t).length + 2) else (⟨0, 0, ⟨#[]⟩, false⟩, 0))
      else (⟨0, 0, ⟨#[]⟩, false⟩, 0) := rfl
theorem rd1_kf (q : List UInt8) : rd1 q = if (kf q).2 ≠ 0 ∧ rightB (kf q).1 = true then some (kf q) else none := by
  cases q with
  | nil => rfl
  | cons b t =>
    rw [rd1_cons, kf_cons]
    have rb : ∀ y : Bool, rightB ⟨3, 0, ⟨#[]⟩, y⟩ = true := fun y => by unfold rightB; rw [if_neg (show ¬ (3 : Int) = 0 by decide), if_neg (show ¬ (3 : Int) = 1 by decide), if_neg (show ¬ (3 : Int) = 2 by decide), if_pos rfl, ByteArray.toList_eq]; rfl
    have rt : ∀ s : ByteArray, rightB ⟨2, 0, s, false⟩ = soundB s := fun s => by unfold rightB; rw [if_neg (show ¬ (2 : Int) = 0 by decide), if_neg (show ¬ (2 : Int) = 1 by decide), if_pos rfl]; simp
    by_cases b1 : b = 1
    · rw [if_pos b1, if_pos b1, if_pos ⟨by decide, rb_nul⟩]
    · rw [if_neg b1, if_neg b1]
      by_cases b2 : b = 2
      · rw [if_pos b2, if_pos b2]
        by_cases h : 0 < t.length ∧ (t.getD 0 0).toNat ≤ 1
        · rw [if_pos h, if_pos h, if_pos ⟨show (2 : Nat) ≠ 0 by decide, rb _⟩]
        · rw [if_neg h, if_neg h, if_neg (fun h => h.1 rfl)]
      · rw [if_neg b2, if_neg b2]
        by_cases b3 : b = 3
        · rw [if_pos b3, if_pos b3]
          by_cases h : 8 ≤ t.length
          · rw [if_pos h, if_pos h, if_pos ⟨show (9 : Nat) ≠ 0 by decide, rb_int _⟩]
          · rw [if_neg h, if_neg h, if_neg (fun h => h.1 rfl)]
        · rw [if_neg b3, if_neg b3]
          by_cases b4 : b = 4
          · rw [if_pos b4, if_pos b4]
            by_cases h : t.contains 0 = true
            · rw [if_pos h]
              by_cases hs : soundB ⟨(upto0 t).toArray⟩ = true
              · rw [if_pos ⟨h, hs⟩, if_pos ⟨by simp, by rw [rt]; exact hs⟩]
              · rw [if_neg (fun x => hs x.2), if_neg (fun x => hs (by have := x.2; rw [rt] at this; exact this))]
            · rw [if_neg (fun x => h x.1), if_neg h, if_neg (fun h => h.1 rfl)]
          · rw [if_neg b4, if_neg b4, if_neg (fun h => h.1 rfl)]
/-- What Read answers. -/
def rdL (p : List UInt8) : List Val := (rd p).getD []
def rdE (p : List UInt8) : Int := if (rd p).isSome = true then 0 else 3
def slen : Value → Nat
  | .slice _ n _ => n
  | _ => 0
theorem vls_nil (w : World) (base : Nat) : Vls w base (.slice none 0 0) [] := World.ownsRow_nil _ _ _ _
theorem kf_size (q : List UInt8) : (kf q).1.s.size ≤ q.length := by
  cases q with
  | nil => exact Nat.le_refl _
  | cons b t =>
    rw [kf_cons]
    have h0 : (⟨#[]⟩ : ByteArray).size ≤ (b :: t).length := Nat.zero_le _
    by_cases b1 : b = 1
    · rw [if_pos b1]; exact h0
    · rw [if_neg b1]
      by_cases b2 : b = 2
      · rw [if_pos b2]; split <;> exact h0
      · rw [if_neg b2]
        by_cases b3 : b = 3
        · rw [if_pos b3]; split <;> exact h0
        · rw [if_neg b3]
          by_cases b4 : b = 4
          · rw [if_pos b4]
            by_cases h : t.contains 0 = true
            · rw [if_pos h]
              have := upto0_lt h
              show (upto0 t).toArray.size ≤ _
              simp; omega
            · rw [if_neg h]; exact h0
          · rw [if_neg b4]; exact h0

set_option maxHeartbeats 4000000 in
theorem kread_any (A : Option Addr) (c : Nat) (p : List UInt8) (w : World) (ha : Brd w A p) (hc : p.length ≤ c) (hm : c ≤ 9223372036854775807) (hl : p.length ≤ 1000000000) (hE : Env w) :
    Calls Tryd.prog 19 #[.slice A p.length c] w fun e w' => ∃ v', e = .returned (.tuple #[v', .int .i64 (rdE p)]) ∧ Vls w' w.heap.size v' (rdL p) ∧ Below w.heap.size w w' := by
  obtain ⟨i4, hi4, hv0, hv1, hv2⟩ := info_parts info_val
  go_enter Tryd.func19, Tryd.ntmps19
  go_wp2
  go_loopw [0, 4] (fun pv lv wr => ∃ (A' : Option Addr) (c' : Nat) (q : List UInt8) (acc : List Val), pv = .slice A' q.length c' ∧ q.length ≤ c' ∧ c' ≤ c ∧ Brd w A' q ∧ Vls wr w.heap.size lv acc ∧ rd p = (rd q).map (acc ++ ·) ∧ acc.length + q.length ≤ p.length ∧ Below w.heap.size w wr) (fun pv _ _ => slen pv)
  case atStart => exact ⟨A, c, p, [], rfl, hc, Nat.le_refl _, ha, vls_nil _ _, by cases rd p <;> simp, by simp, Below.refl _ _⟩
  case round =>
    obtain ⟨A', c', q, acc, rfl, hq, hcc, hB, hV, hrd, hal, hb⟩ := hrel
    have hBw := hB.below hb
    cases q with
    | nil =>
      rw [rd_nil] at hrd
      have HR := Lib.hid hrd
      clear hrd hB hBw
      go_wp2
      go_ret2
      exact ⟨u4, by unfold rdE; rw [HR.out]; rfl, by unfold rdL; rw [HR.out]; simpa using hV, hb⟩
    | cons b t =>
      have hz := hb.size
      have gf := fun W h => kfirst_any A' c' b t W h hq (by omega)
      have k1 := rd1_kf (b :: t)
      have hks := kf_size (b :: t)
      have hlt : (b :: t).length = t.length + 1 := rfl
      rw [hlt] at hq hal hks
      have hdr := fun A0 n (h : n ≤ t.length + 1) => cut_bytes A0 (t.length + 1 - n) c' n (by omega)
      obtain ⟨x, n, hxn⟩ : ∃ x n, kf (b :: t) = (x, n) := ⟨_, _, rfl⟩
      rw [hxn] at gf k1 hks
      simp only [] at gf k1 hks
      have GF := Lib.hid gf
      have HRD := Lib.hid hrd
      clear gf hxn hrd ha hlt
      by_cases hn : n = 0
      · subst hn
        rw [if_neg (fun h => h.1 rfl)] at k1
        have hno := rd_none (by simp) k1
        have HN := Lib.hid hno
        clear k1 hno hdr hV
        go_wp2_with (go_at_call 40; (with_reducible refine (GF.out _ hBw).mono ?_); rintro e w1 ⟨rfl, hb1⟩)
        go_ret2
        exact ⟨.slice none 0 0, by unfold rdE; rw [HRD.out, HN.out]; rfl, by unfold rdL; rw [HRD.out, HN.out]; exact vls_nil _ _, by repeat (first | exact hb | refine Below.al ?_ _ | refine Below.next ?_ (by assumption))⟩
      · have gr := right_any x (by omega)
        have hEr := hE.next hb
        have hn0 : ((n : Int) == 0) = false := by simp; omega
        cases hR : rightB x with
        | false =>
          rw [hR] at gr
          rw [if_neg (fun h => by rw [hR] at h; cases h.2)] at k1
          have GR := Lib.hid gr
          have hno := rd_none (by simp) k1
          have HN := Lib.hid hno
          clear k1 hno hdr hV gr hR
          go_wp2_with (first | (go_at_call 40; (with_reducible refine (GF.out _ hBw).mono ?_); rintro e w1 ⟨rfl, hb1⟩; have hE1 := hEr.next hb1) | (go_at_call 38; (with_reducible refine (GR.out _ (hE1.next ((Below.refl _ _).alloc (Nat.le_refl _) _))).mono ?_); rintro e w2 ⟨rfl, hb2⟩))
          go_ret2
          exact ⟨.slice none 0 0, by unfold rdE; rw [HRD.out, HN.out]; rfl, by unfold rdL; rw [HRD.out, HN.out]; exact vls_nil _ _, by repeat (first | exact hb | refine Below.al ?_ _ | refine Below.next ?_ (by assumption))⟩
        | true =>
          rw [hR] at gr
          rw [if_pos ⟨hn, hR⟩] at k1
          have GR := Lib.hid gr
          have hsm := rd_some k1
          have hle := rd1_len k1
          have HS := Lib.hid hsm
          have hn1 : n ≤ t.length + 1 := hle.2
          obtain ⟨A2, hcut, hB2⟩ := hdr A' n hn1
          rw [Nat.sub_add_cancel hn1] at hcut hB2
          have HB2 := Lib.hid hB2
          clear k1 hsm hdr gr hR hB2
          go_wp2_with (first | (go_at_call 40; (with_reducible refine (GF.out _ hBw).mono ?_); rintro e w1 ⟨rfl, hb1⟩; have hE1 := hEr.next hb1; have hV1 := own_below (own_below hV hb1) ((Below.refl _ _).alloc (Nat.le_refl _) (.cells #[.int .u8 x.k, .int .i64 x.i, .string x.s, .bool x.b] 43))) | (go_at_call 38; (with_reducible refine (GR.out _ (hE1.next ((Below.refl _ _).alloc (Nat.le_refl _) _))).mono ?_); rintro e w2 ⟨rfl, hb2⟩; obtain ⟨hc2, hf2⟩ := bcell hb2; have hz2 : w1.heap.size < w2.heap.size := (by have := hb2.size; simp at this; omega); have hz1 := hb1.size) | (at_builtin; go_loud (refine wpList_append_src _ rfl (.tmp 22) (.tmp 24) 22 22 rfl w.heap.size 43 _ _ 4 40 Tryd.underlying22 hi4 hv0 hv1 hv2 rfl _ _ _ rfl (World.ownsRow.alloc (own_below hV1 hb2) _) _ 1 (vcells [x]) rfl (src_rd Tryd.underlying22 _ (rd_lit (by first | rfl | simp) rfl rfl) (by decide) (vcells_one _)) (by simp only [maxLen]; omega) (by omega) (by simp; omega) ?_; intro v3 w3 ho3 hg3 ha3)))
          go_roundw
          case rel => exact ⟨A2, c' - n, (b :: t).drop n, acc ++ [x], by simp, by simp; omega, by omega, HB2.out _ _ hB rfl, vls_of ho3 (by rw [vcells_append]), by rw [HRD.out, HS.out]; cases rd ((b :: t).drop n) <;> simp, by simp; omega, Below.trans (by repeat (first | exact hb | refine Below.al ?_ _ | refine Below.next ?_ (by assumption))) (grown_below (World.ownsRow.alloc (own_below hV1 hb2) _) hg3 (by simp; omega))⟩
          case measure => simp [slen]; omega
end Go.Proofs.YtdlgobakoomkpaaDoor
