/-
  calc.Read: the number that a text writes, or 0 and the error; of what was there nothing has turned.
-/
import Derived.Test.YtcloajmcfacfnaaDoorCalcDiv
import Derived.Test.YtcloajmcfacfnaaDoorReadPlain
namespace Go.Proofs.YtcloajmcfacfnaaDoor
open Go.RowKit

/-- What the loop carries behind some bytes: the number so far; or that it is beyond its bounds. -/
def Carries (l : List UInt8) (n e : Value) : Prop :=
  (∃ m : Int, n = .int .i64 m ∧ e = .int .i64 0 ∧ 0 ≤ m ∧ m ≤ 9223372036854775807 ∧ Hid (m = num l)) ∨ (n = .int .i64 0 ∧ e = .int .i64 9 ∧ Hid (¬ In64 (num l) ∧ 0 ≤ num l))

theorem Carries.more {l : List UInt8} {m : Int} {c : UInt8} (hm : Hid (m = num l)) (hd : dig c = true) (m0 : 0 ≤ m) :
    Carries (l ++ [c]) (.int .i64 (okv (m * 10 + ((c.toNat : Int) - 48)))) (.int .i64 (oke (m * 10 + ((c.toNat : Int) - 48)))) := by
  have hc : 48 ≤ c.toNat ∧ c.toNat ≤ 57 := of_decide_eq_true hd
  have e := num_snoc l c
  rw [← hm.out] at e
  rw [← e]
  by_cases h : In64 (num (l ++ [c]))
  · rw [okv_in h, oke_in h]
    exact .inl ⟨_, rfl, rfl, by rw [e]; omega, h.2, Lib.hid rfl⟩
  · rw [okv_out h, oke_out h]
    exact .inr ⟨rfl, rfl, Lib.hid ⟨h, by rw [e]; omega⟩⟩
theorem Carries.over {l : List UInt8} {c : UInt8} (hm : Hid (¬ In64 (num l) ∧ 0 ≤ num l)) (hd : dig c = true) : Carries (l ++ [c]) (.int .i64 0) (.int .i64 9) := by
  have hc : 48 ≤ c.toNat ∧ c.toNat ≤ 57 := of_decide_eq_true hd
  have e := num_snoc l c
  obtain ⟨h1, h2⟩ := hm.out
  exact .inr ⟨rfl, rfl, Lib.hid ⟨by rw [e]; exact ext_over h2 (by omega) h1, by rw [e]; omega⟩⟩
theorem Carries.last {l : List UInt8} {n e : Value} (h : Carries l n e) : n = .int .i64 (okv (num l)) ∧ e = .int .i64 (oke (num l)) := by
  rcases h with ⟨m, rfl, rfl, m0, m1, hm⟩ | ⟨rfl, rfl, hm⟩
  · have h : In64 (num l) := by rw [← hm.out]; exact in64 (by omega) m1
    rw [okv_in h, oke_in h, hm.out]; exact ⟨rfl, rfl⟩
  · rw [okv_out hm.out.1, oke_out hm.out.1]; exact ⟨rfl, rfl⟩

set_option maxHeartbeats 1000000 in
theorem read_any (s : ByteArray) (w : World) :
    Calls Tryd.prog 11 #[.string s] w fun e w' => e = .returned (.tuple #[.int .i64 (readv s.data.toList), .int .i64 (reade s.data.toList)]) ∧ Below w.heap.size w w' := by
  have hLn : s.data.toList.length = s.size := by simp
  by_cases he : s.data.toList = []
  · rw [readv_bad (.inl he), reade_bad (.inl he)]
    have he2 : s.toList.isEmpty = true := by rw [ByteArray.toList_eq, he]; rfl
    clear he hLn
    go_enter Tryd.func11, Tryd.ntmps11
    go_wp2
    go_ret2
    exact ⟨rfl, Below.refl _ _⟩
  · have he1 : s.toList.isEmpty = false := by
      rw [ByteArray.toList_eq]; simpa using he
    have HE := Lib.hid he
    have HL := Lib.hid hLn
    clear he hLn
    have hk0 : (w.iter s 0).heap[w.heap.size]? = some (.stringIter s 0) := World.iter_heap w s 0
    have hb0 : Below w.heap.size w (w.iter s 0) := (Below.refl _ w).alloc (Nat.le_refl _) _
    go_enter Tryd.func11, Tryd.ntmps11
    go_wp2
    go_loopw [4, 5] (fun n e wr => ∃ pos : Nat, pos ≤ s.size ∧ wr.heap[w.heap.size]? = some (.stringIter s pos) ∧ Below w.heap.size w wr ∧ digs (s.data.toList.take pos) = true ∧ Carries (s.data.toList.take pos) n e)
      (fun _ _ wr => s.size - wr.iterPos w.heap.size)
    case atStart => exact ⟨0, Nat.zero_le _, hk0, hb0, rfl, .inl ⟨0, rfl, rfl, by omega, by omega, Lib.hid rfl⟩⟩
    case round =>
      obtain ⟨pos, hps, hk, hnx, hdg0, hcar⟩ := hrel
      have hdg := Lib.hid hdg0
      clear hk0 hb0 hdg0
      have hmu : Hid (wr.iterPos w.heap.size = pos) := Lib.hid (by simp [World.iterPos, hk])
      by_cases hp : pos < s.size
      · have hts : Hid (s.data.toList.take (pos + 1) = s.data.toList.take pos ++ [s[pos]]) := Lib.hid (take_snoc s pos hp)
        have hk1 := fun q => Lib.iterAt_heap wr w.heap.size s pos q hk
        have hnx1 := fun q => Lib.below_iterAt hnx (Nat.le_refl _) s q
        by_cases h128 : (s[pos]'hp).toNat < 128
        · have hnext : ∀ ty, (Instr.next (.pointer (some ⟨w.heap.size, 0, none⟩)) true ty).run Tryd.prog wr = _ := fun ty => Lib.run_next_ascii_at wr w.heap.size s pos ty hk hp h128
          have hk2 := hk1 (pos + 1)
          have hnx2 := hnx1 (pos + 1)
          clear hk1 hnx1
          generalize wr.iterAt w.heap.size s (pos + 1) = W1 at hnext hk2 hnx2
          by_cases hd : dig s[pos] = true
          · have hc : 48 ≤ (s[pos]'hp).toNat ∧ (s[pos]'hp).toNat ≤ 57 := of_decide_eq_true hd
            have HD := Lib.hid hd
            clear hd
            obtain ⟨r, hr⟩ : ∃ r : Int, r = ((s[pos]'hp).toNat : Int) := ⟨_, rfl⟩
            rw [← hr] at hnext
            have r0 : 48 ≤ r := by omega
            have r1 : r ≤ 57 := by omega
            have HR := Lib.hid hr
            clear hr hc h128 HL HE
            rcases hcar with ⟨m, rfl, rfl, m0, m1, hm⟩ | ⟨rfl, rfl, hm⟩
            · go_wp2_with (go_at_call 35; refine (extend_any m (r - 48) m0 m1 (by omega) (by omega) _).mono ?_; rintro e w' ⟨rfl, rfl⟩)
              go_roundw
              case rel => exact ⟨pos + 1, hp, hk2, hnx2, by rw [hts.out, digs_snoc, hdg.out, HD.out]; rfl, by rw [hts.out, HR.out]; exact Carries.more hm HD.out m0⟩
              case measure => rw [hmu.out, show W1.iterPos w.heap.size = pos + 1 by simp [World.iterPos, hk2]]; omega
            · go_wp2
              go_roundw
              case rel => exact ⟨pos + 1, hp, hk2, hnx2, by rw [hts.out, digs_snoc, hdg.out, HD.out]; rfl, by rw [hts.out]; exact Carries.over hm HD.out⟩
              case measure => rw [hmu.out, show W1.iterPos w.heap.size = pos + 1 by simp [World.iterPos, hk2]]; omega
          · have hbad : digs s.data.toList = false := digs_take (k := pos + 1) (by rw [hts.out, digs_snoc]; simp [hd])
            have HB := Lib.hid hbad
            have hc : (s[pos]'hp).toNat < 48 ∨ 57 < (s[pos]'hp).toNat := by
              apply Classical.byContradiction; intro hc; exact hd (decide_eq_true (by omega))
            obtain ⟨r, hr⟩ : ∃ r : Int, r = ((s[pos]'hp).toNat : Int) := ⟨_, rfl⟩
            rw [← hr] at hnext
            have hc' : r < 48 ∨ 57 < r := by omega
            clear hr hc h128 HL HE hd hbad hcar
            rcases hc' with hc' | hc'
            all_goals
              go_wp2
              go_ret2
              rw [readv_bad (.inr HB.out), reade_bad (.inr HB.out)]
              exact ⟨rfl, hnx2⟩
        · have hnext : ∀ ty, (Instr.next (.pointer (some ⟨w.heap.size, 0, none⟩)) true ty).run Tryd.prog wr = _ := fun ty => Lib.run_next_any_at wr w.heap.size s pos ty hk hp
          have hhi := decode_high s pos hp h128
          have hd : dig s[pos] = false := decide_eq_false (by omega)
          have HB := Lib.hid (show digs s.data.toList = false from digs_take (k := pos + 1) (by rw [hts.out, digs_snoc]; simp [hd]))
          have hnx2 := hnx1 (pos + (Utf8.decode s pos).2)
          clear hk1 hnx1 hd
          generalize wr.iterAt w.heap.size s (pos + (Utf8.decode s pos).2) = W1 at hnext hnx2
          obtain ⟨r, hr⟩ : ∃ r : Int, r = ((Utf8.decode s pos).1 : Int) := ⟨_, rfl⟩
          rw [← hr] at hnext
          have hc' : 57 < r := by omega
          clear hr hhi h128 HL HE hcar
          go_wp2
          go_ret2
          rw [readv_bad (.inr HB.out), reade_bad (.inr HB.out)]
          exact ⟨rfl, hnx2⟩
      · have hnext : ∀ ty, (Instr.next (.pointer (some ⟨w.heap.size, 0, none⟩)) true ty).run Tryd.prog wr = _ := fun ty => Lib.run_next_end_at wr w.heap.size s pos ty hk hp
        have hall : s.data.toList.take pos = s.data.toList := List.take_of_length_le (by rw [HL.out]; omega)
        rw [hall] at hcar
        have hdg' := hdg.out
        rw [hall] at hdg'
        obtain ⟨rfl, rfl⟩ := hcar.last
        have HG := Lib.hid (show ¬ (s.data.toList = [] ∨ digs s.data.toList = false) from by rw [hdg']; simpa using HE.out)
        clear hall hdg' hcar hdg HL HE
        go_wp2
        go_ret2
        rw [readv_good HG.out, reade_good HG.out]
        exact ⟨rfl, hnx⟩
end Go.Proofs.YtcloajmcfacfnaaDoor
