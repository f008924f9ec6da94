/-
  book.Name and the document's: what a name is.
-/
import Derived.Test.YtbmkhopmhmmibaaClogB
import Derived.Laws.RangeString
import Derived.Laws.RangeAny
import Derived.Deep.DeepCutAuto
namespace Go.Proofs.Ytbmkhopmhmmibaa
open Go.RowKit
set_option linter.unusedVariables false

/-- May this byte stand in a name (z: at its beginning)? -/
def okc (z : Bool) (c : Nat) : Bool := decide (c = 95) || (decide (97 ≤ c) && decide (c ≤ 122)) || (decide (48 ≤ c) && decide (c ≤ 57) && !z)
def NameP (s : ByteArray) : Prop := 1 ≤ s.size ∧ s.size ≤ 20 ∧ ∀ i (h : i < s.size), okc (decide (i = 0)) (s[i]'h).toNat = true
noncomputable def nameB (s : ByteArray) : Bool := @decide (NameP s) (Classical.propDecidable _)
theorem nameB_true {s : ByteArray} (h : NameP s) : nameB s = true := by unfold nameB; exact @decide_eq_true _ (Classical.propDecidable _) h
theorem nameB_false {s : ByteArray} (h : ¬ NameP s) : nameB s = false := by unfold nameB; exact @decide_eq_false _ (Classical.propDecidable _) h
theorem hal_more {s : ByteArray} {i c : Nat} (hall : ∀ k (h : k < s.size), k < i → okc (decide (k = 0)) (s[k]'h).toNat = true) (hlt : i < s.size) (hcc : (s[i]'hlt).toNat = c) (hok : okc (decide (i = 0)) c = true) : ∀ k (h : k < s.size), k < i + 1 → okc (decide (k = 0)) (s[k]'h).toNat = true := fun k h hk => by
  by_cases e : k = i
  · subst e; rw [hcc]; exact hok
  · exact hall k h (by omega)
theorem decode_big (s : ByteArray) (pos : Nat) (h : pos < s.size) (hb : 128 ≤ (s[pos]'h).toNat) : 128 ≤ (Utf8.decode s pos).1 := by
  have e : s.get! (pos + 0) = s[pos]'h := by
    show s.get! pos = _
    simp [ByteArray.get!, getElem!_pos, h]
    rfl
  unfold Utf8.decode
  simp only [e]
  rw [if_neg (by omega)]
  split
  · split
    · rename_i h; exact h
    · decide
  · split
    · split
      · rename_i h; simp at h; exact Nat.le_trans (by decide) h.1
      · decide
    · split
      · split
        · rename_i h; simp at h; exact Nat.le_trans (by decide) h.1
        · decide
      · decide
theorem below_iter (w : World) (s : ByteArray) (p : Nat) : Below w.heap.size w (w.iter s p) := (Below.refl _ _).al _
set_option maxRecDepth 100000 in
set_option maxHeartbeats 1000000 in
theorem bname_any (w : World) (s : ByteArray) (hs : s.size ≤ 9223372036854775807) :
    Calls Try.prog 36 #[.string s] w fun e w' => e = .returned (.bool (nameB s)) ∧ Below w.heap.size w w' := by
  by_cases h1 : 1 ≤ s.size
  · by_cases h20 : s.size ≤ 20
    · have g1 : ¬ (s.size : Int) < 1 := by omega
      have g2 : ¬ (20 : Int) < (s.size : Int) := by omega
      go_enter Try.func36, Try.ntmps36
      go_wp2
      go_loopw [] (fun wr => ∃ i : Nat, i ≤ s.size ∧ wr = w.iter s i ∧ ∀ k (h : k < s.size), k < i → okc (decide (k = 0)) (s[k]'h).toNat = true) (fun wr => s.size - wr.iterPos w.heap.size)
      case atStart => exact ⟨0, Nat.zero_le _, rfl, fun k h hk => by omega⟩
      case round =>
        obtain ⟨i, hi, rfl, hall⟩ := hrel
        have hbi := below_iter w s i
        by_cases hlt : i < s.size
        · by_cases ha : (s[i]'hlt).toNat < 128
          · have hnx : ∀ ty, (Instr.next (.pointer (some ⟨w.heap.size, 0, none⟩)) true ty).run Try.prog (w.iter s i) = _ := fun ty => run_next_ascii w s i ty hlt ha
            have hbi := below_iter w s (i + 1)
            obtain ⟨c, hcc⟩ : ∃ c, (s[i]'hlt).toNat = c := ⟨_, rfl⟩
            rw [hcc] at hnx ha
            rcases (show c < 48 ∨ (48 ≤ c ∧ c ≤ 57) ∨ (57 < c ∧ c < 95) ∨ c = 95 ∨ c = 96 ∨ (97 ≤ c ∧ c ≤ 122) ∨ 122 < c by omega) with hq | hq | hq | hq | hq | hq | hq
            · -- c < 48
              have f1 : ((c : Int) == 95) = false := beq_eq_false_iff_ne.2 (by omega)
              have f2 : ¬ (97 : Int) ≤ (c : Int) := by omega
              have f3 : (c : Int) ≤ 122 := by omega
              have f4 : ¬ (48 : Int) ≤ (c : Int) := by omega
              have f5 : (c : Int) ≤ 57 := by omega
              have hno : ¬ NameP s := fun hn => by have := hn.2.2 i hlt; rw [hcc] at this; unfold okc at this; simp at this; omega
              have HNO := Lib.hid hno
              clear hno hcc
              go_wp2
              go_ret
              exact ⟨by rw [nameB_false HNO.out]; rfl, hbi⟩
            · -- 48 ≤ c ∧ c ≤ 57
              have f1 : ((c : Int) == 95) = false := beq_eq_false_iff_ne.2 (by omega)
              have f2 : ¬ (97 : Int) ≤ (c : Int) := by omega
              have f3 : (c : Int) ≤ 122 := by omega
              have f4 : (48 : Int) ≤ (c : Int) := by omega
              have f5 : (c : Int) ≤ 57 := by omega
              by_cases hi0 : i = 0
              · have f6 : ((i : Int) == 0) = true := by rw [hi0]; rfl
                have hno : ¬ NameP s := fun hn => by have := hn.2.2 i hlt; rw [hcc] at this; unfold okc at this; simp at this; omega
                have HNO := Lib.hid hno
                clear hno hcc hi0
                go_wp2
                go_ret
                exact ⟨by rw [nameB_false HNO.out]; rfl, hbi⟩
              · have f6 : ((i : Int) == 0) = false := beq_eq_false_iff_ne.2 (by omega)
                have hok : okc (decide (i = 0)) c = true := by unfold okc; simp; omega
                have HAL := Lib.hid (hal_more hall hlt hcc hok)
                clear hok hcc
                go_wp2
                go_roundw
                case rel => exact ⟨i + 1, by omega, rfl, HAL.out⟩
                case measure => simp; omega
            · -- 57 < c ∧ c < 95
              have f1 : ((c : Int) == 95) = false := beq_eq_false_iff_ne.2 (by omega)
              have f2 : ¬ (97 : Int) ≤ (c : Int) := by omega
              have f3 : (c : Int) ≤ 122 := by omega
              have f4 : (48 : Int) ≤ (c : Int) := by omega
              have f5 : ¬ (c : Int) ≤ 57 := by omega
              have hno : ¬ NameP s := fun hn => by have := hn.2.2 i hlt; rw [hcc] at this; unfold okc at this; simp at this; omega
              have HNO := Lib.hid hno
              clear hno hcc
              go_wp2
              go_ret
              exact ⟨by rw [nameB_false HNO.out]; rfl, hbi⟩
            · -- c = 95
              have f1 : ((c : Int) == 95) = true := by simp; omega
              have f2 : ¬ (97 : Int) ≤ (c : Int) := by omega
              have f3 : (c : Int) ≤ 122 := by omega
              have f4 : (48 : Int) ≤ (c : Int) := by omega
              have f5 : ¬ (c : Int) ≤ 57 := by omega
              have hok : okc (decide (i = 0)) c = true := by unfold okc; simp; omega
              have HAL := Lib.hid (hal_more hall hlt hcc hok)
              clear hok hcc
              go_wp2
              go_roundw
              case rel => exact ⟨i + 1, by omega, rfl, HAL.out⟩
              case measure => simp; omega
            · -- c = 96
              have f1 : ((c : Int) == 95) = false := beq_eq_false_iff_ne.2 (by omega)
              have f2 : ¬ (97 : Int) ≤ (c : Int) := by omega
              have f3 : (c : Int) ≤ 122 := by omega
              have f4 : (48 : Int) ≤ (c : Int) := by omega
              have f5 : ¬ (c : Int) ≤ 57 := by omega
              have hno : ¬ NameP s := fun hn => by have := hn.2.2 i hlt; rw [hcc] at this; unfold okc at this; simp at this; omega
              have HNO := Lib.hid hno
              clear hno hcc
              go_wp2
              go_ret
              exact ⟨by rw [nameB_false HNO.out]; rfl, hbi⟩
            · -- 97 ≤ c ∧ c ≤ 122
              have f1 : ((c : Int) == 95) = false := beq_eq_false_iff_ne.2 (by omega)
              have f2 : (97 : Int) ≤ (c : Int) := by omega
              have f3 : (c : Int) ≤ 122 := by omega
              have f4 : (48 : Int) ≤ (c : Int) := by omega
              have f5 : ¬ (c : Int) ≤ 57 := by omega
              have hok : okc (decide (i = 0)) c = true := by unfold okc; simp; omega
              have HAL := Lib.hid (hal_more hall hlt hcc hok)
              clear hok hcc
              go_wp2
              go_roundw
              case rel => exact ⟨i + 1, by omega, rfl, HAL.out⟩
              case measure => simp; omega
            · -- 122 < c
              have f1 : ((c : Int) == 95) = false := beq_eq_false_iff_ne.2 (by omega)
              have f2 : (97 : Int) ≤ (c : Int) := by omega
              have f3 : ¬ (c : Int) ≤ 122 := by omega
              have f4 : (48 : Int) ≤ (c : Int) := by omega
              have f5 : ¬ (c : Int) ≤ 57 := by omega
              have hno : ¬ NameP s := fun hn => by have := hn.2.2 i hlt; rw [hcc] at this; unfold okc at this; simp at this; omega
              have HNO := Lib.hid hno
              clear hno hcc
              go_wp2
              go_ret
              exact ⟨by rw [nameB_false HNO.out]; rfl, hbi⟩
          · have hnx : ∀ ty, (Instr.next (.pointer (some ⟨w.heap.size, 0, none⟩)) true ty).run Try.prog (w.iter s i) = _ := fun ty => run_next_any w s i ty hlt
            have hd := decode_big s i hlt (by omega)
            have hbi := below_iter w s (i + (Utf8.decode s i).2)
            have hno : ¬ NameP s := fun hn => by have := hn.2.2 i hlt; unfold okc at this; simp at this; omega
            have HNO := Lib.hid hno
            generalize (Utf8.decode s i).2 = d2 at *
            generalize (Utf8.decode s i).1 = c at *
            have f1 : ((c : Int) == 95) = false := beq_eq_false_iff_ne.2 (by omega)
            have f2 : (97 : Int) ≤ (c : Int) := by omega
            have f3 : ¬ (c : Int) ≤ 122 := by omega
            have f4 : (48 : Int) ≤ (c : Int) := by omega
            have f5 : ¬ (c : Int) ≤ 57 := by omega
            clear hno ha
            go_wp2
            go_ret
            exact ⟨by rw [nameB_false HNO.out]; rfl, hbi⟩
        · have hnx : ∀ ty, (Instr.next (.pointer (some ⟨w.heap.size, 0, none⟩)) true ty).run Try.prog (w.iter s i) = _ := fun ty => run_next_end w s i ty hlt
          have HOK := Lib.hid (show NameP s from ⟨h1, h20, fun k h => hall k h (by omega)⟩)
          clear hall
          go_wp2
          go_ret
          exact ⟨by rw [nameB_true HOK.out]; rfl, hbi⟩
    · have g1 : ¬ (s.size : Int) < 1 := by omega
      have g2 : (20 : Int) < (s.size : Int) := by omega
      have HNO := Lib.hid (show ¬ NameP s from fun hn => h20 hn.2.1)
      go_enter Try.func36, Try.ntmps36
      go_wp2
      go_ret
      exact ⟨by rw [nameB_false HNO.out]; rfl, Below.refl _ _⟩
  · have g1 : (s.size : Int) < 1 := by omega
    have HNO := Lib.hid (show ¬ NameP s from fun hn => h1 hn.1)
    go_enter Try.func36, Try.ntmps36
    go_wp2
    go_ret
    exact ⟨by rw [nameB_false HNO.out]; rfl, Below.refl _ _⟩
set_option maxRecDepth 100000 in
set_option maxHeartbeats 1000000 in
theorem rname_any (w : World) (s : ByteArray) (hs : s.size ≤ 9223372036854775807) :
    Calls Try.prog 37 #[.string s] w fun e w' => e = .returned (.bool (nameB s)) ∧ Below w.heap.size w w' := by
  by_cases h1 : 1 ≤ s.size
  · by_cases h20 : s.size ≤ 20
    · have g1 : ¬ (s.size : Int) < 1 := by omega
      have g2 : ¬ (20 : Int) < (s.size : Int) := by omega
      have hs0 : 0 < s.size := by omega
      have hix0 : ∀ (W : World), (Instr.index 9 (.string s) (.int .i64 0)).run Try.prog W = .ok (.int .u8 (s[0]'hs0).toNat) W := fun W => by
        rw [run_index_string (h := by kernel_rfl), dif_pos (by omega)]; rfl
      obtain ⟨c0, hc0⟩ : ∃ c0, (s[0]'hs0).toNat = c0 := ⟨_, rfl⟩
      rw [hc0] at hix0
      by_cases hd : 48 ≤ c0 ∧ c0 ≤ 57
      · have f4 : (48 : Int) ≤ (c0 : Int) := by omega
        have f5 : (c0 : Int) ≤ 57 := by omega
        have HNO := Lib.hid (show ¬ NameP s from fun hn => by have := hn.2.2 0 hs0; rw [hc0] at this; unfold okc at this; simp at this; omega)
        clear hd hc0
        go_enter Try.func37, Try.ntmps37
        go_wp2
        go_ret
        exact ⟨by rw [nameB_false HNO.out]; rfl, Below.refl _ _⟩
      · have HD0 := Lib.hid (show ¬ (48 ≤ (s[0]'hs0).toNat ∧ (s[0]'hs0).toNat ≤ 57) by rw [hc0]; exact hd)
        have hcl : c0 < 48 ∨ (48 ≤ c0 ∧ 57 < c0) := by omega
        clear hd hc0
        go_enter Try.func37, Try.ntmps37
        rcases hcl with hq | hq
        · have f4 : ¬ (48 : Int) ≤ (c0 : Int) := by omega
          clear hq
          go_upto_region 3 with fail
          clear f4 hix0
          try clear f5
          go_wp2
          go_loopw [3] (fun iv wr => ∃ i : Nat, i ≤ s.size ∧ iv = .int .i64 (i : Int) ∧ Below w.heap.size w wr ∧ ∀ k (h : k < s.size), k < i → okc (decide (k = 0)) (s[k]'h).toNat = true) (fun iv _ => s.size - (intOf iv).toNat)
          case atStart => exact ⟨0, Nat.zero_le _, rfl, Below.refl _ _, fun k h hk => by omega⟩
          case round =>
            obtain ⟨i, hi, rfl, hbw, hall⟩ := hrel
            have HBW := Lib.hid hbw
            clear hbw
            by_cases hlt : i < s.size
            · have hix : ∀ (W : World), (Instr.index 9 (.string s) (.int .i64 (i : Int))).run Try.prog W = .ok (.int .u8 (s[i]'hlt).toNat) W := fun W => by
                rw [run_index_string (h := by kernel_rfl), dif_pos (by omega)]; rfl
              obtain ⟨c, hcc⟩ : ∃ c, (s[i]'hlt).toNat = c := ⟨_, rfl⟩
              rw [hcc] at hix
              rcases (show c < 48 ∨ (48 ≤ c ∧ c ≤ 57) ∨ (57 < c ∧ c < 95) ∨ c = 95 ∨ c = 96 ∨ (97 ≤ c ∧ c ≤ 122) ∨ 122 < c by omega) with hq | hq | hq | hq | hq | hq | hq
              · -- c < 48
                have f1 : ((c : Int) == 95) = false := beq_eq_false_iff_ne.2 (by omega)
                have f2 : ¬ (97 : Int) ≤ (c : Int) := by omega
                have f3 : (c : Int) ≤ 122 := by omega
                have f4 : ¬ (48 : Int) ≤ (c : Int) := by omega
                have f5 : (c : Int) ≤ 57 := by omega
                have hno : ¬ NameP s := fun hn => by have := hn.2.2 i hlt; rw [hcc] at this; unfold okc at this; simp at this; omega
                have HNO := Lib.hid hno
                clear hno hcc
                go_wp2
                go_ret
                exact ⟨by rw [nameB_false HNO.out]; rfl, HBW.out⟩
              · -- 48 ≤ c ∧ c ≤ 57
                have f1 : ((c : Int) == 95) = false := beq_eq_false_iff_ne.2 (by omega)
                have f2 : ¬ (97 : Int) ≤ (c : Int) := by omega
                have f3 : (c : Int) ≤ 122 := by omega
                have f4 : (48 : Int) ≤ (c : Int) := by omega
                have f5 : (c : Int) ≤ 57 := by omega
                have hi0 : i ≠ 0 := fun e => by subst e; exact HD0.out (by rw [hcc]; omega)
                have hok : okc (decide (i = 0)) c = true := by unfold okc; simp; omega
                have HAL := Lib.hid (hal_more hall hlt hcc hok)
                clear hok hcc hi0
                go_wp2
                go_roundw
                case rel => exact ⟨i + 1, by omega, by go_num, HBW.out, HAL.out⟩
                case measure => simp [intOf]; omega
              · -- 57 < c ∧ c < 95
                have f1 : ((c : Int) == 95) = false := beq_eq_false_iff_ne.2 (by omega)
                have f2 : ¬ (97 : Int) ≤ (c : Int) := by omega
                have f3 : (c : Int) ≤ 122 := by omega
                have f4 : (48 : Int) ≤ (c : Int) := by omega
                have f5 : ¬ (c : Int) ≤ 57 := by omega
                have hno : ¬ NameP s := fun hn => by have := hn.2.2 i hlt; rw [hcc] at this; unfold okc at this; simp at this; omega
                have HNO := Lib.hid hno
                clear hno hcc
                go_wp2
                go_ret
                exact ⟨by rw [nameB_false HNO.out]; rfl, HBW.out⟩
              · -- c = 95
                have f1 : ((c : Int) == 95) = true := by simp; omega
                have f2 : ¬ (97 : Int) ≤ (c : Int) := by omega
                have f3 : (c : Int) ≤ 122 := by omega
                have f4 : (48 : Int) ≤ (c : Int) := by omega
                have f5 : ¬ (c : Int) ≤ 57 := by omega
                have hok : okc (decide (i = 0)) c = true := by unfold okc; simp; omega
                have HAL := Lib.hid (hal_more hall hlt hcc hok)
                clear hok hcc
                go_wp2
                go_roundw
                case rel => exact ⟨i + 1, by omega, by go_num, HBW.out, HAL.out⟩
                case measure => simp [intOf]; omega
              · -- c = 96
                have f1 : ((c : Int) == 95) = false := beq_eq_false_iff_ne.2 (by omega)
                have f2 : ¬ (97 : Int) ≤ (c : Int) := by omega
                have f3 : (c : Int) ≤ 122 := by omega
                have f4 : (48 : Int) ≤ (c : Int) := by omega
                have f5 : ¬ (c : Int) ≤ 57 := by omega
                have hno : ¬ NameP s := fun hn => by have := hn.2.2 i hlt; rw [hcc] at this; unfold okc at this; simp at this; omega
                have HNO := Lib.hid hno
                clear hno hcc
                go_wp2
                go_ret
                exact ⟨by rw [nameB_false HNO.out]; rfl, HBW.out⟩
              · -- 97 ≤ c ∧ c ≤ 122
                have f1 : ((c : Int) == 95) = false := beq_eq_false_iff_ne.2 (by omega)
                have f2 : (97 : Int) ≤ (c : Int) := by omega
                have f3 : (c : Int) ≤ 122 := by omega
                have f4 : (48 : Int) ≤ (c : Int) := by omega
                have f5 : ¬ (c : Int) ≤ 57 := by omega
                have hok : okc (decide (i = 0)) c = true := by unfold okc; simp; omega
                have HAL := Lib.hid (hal_more hall hlt hcc hok)
                clear hok hcc
                go_wp2
                go_roundw
                case rel => exact ⟨i + 1, by omega, by go_num, HBW.out, HAL.out⟩
                case measure => simp [intOf]; omega
              · -- 122 < c
                have f1 : ((c : Int) == 95) = false := beq_eq_false_iff_ne.2 (by omega)
                have f2 : (97 : Int) ≤ (c : Int) := by omega
                have f3 : ¬ (c : Int) ≤ 122 := by omega
                have f4 : (48 : Int) ≤ (c : Int) := by omega
                have f5 : ¬ (c : Int) ≤ 57 := by omega
                have hno : ¬ NameP s := fun hn => by have := hn.2.2 i hlt; rw [hcc] at this; unfold okc at this; simp at this; omega
                have HNO := Lib.hid hno
                clear hno hcc
                go_wp2
                go_ret
                exact ⟨by rw [nameB_false HNO.out]; rfl, HBW.out⟩
            · have HOK := Lib.hid (show NameP s from ⟨h1, h20, fun k h => hall k h (by omega)⟩)
              clear hall
              go_wp2
              go_ret
              exact ⟨by rw [nameB_true HOK.out]; rfl, HBW.out⟩
        · have f4 : (48 : Int) ≤ (c0 : Int) := by omega
          have f5 : ¬ (c0 : Int) ≤ 57 := by omega
          clear hq
          go_upto_region 3 with fail
          clear f4 hix0
          try clear f5
          go_wp2
          go_loopw [3] (fun iv wr => ∃ i : Nat, i ≤ s.size ∧ iv = .int .i64 (i : Int) ∧ Below w.heap.size w wr ∧ ∀ k (h : k < s.size), k < i → okc (decide (k = 0)) (s[k]'h).toNat = true) (fun iv _ => s.size - (intOf iv).toNat)
          case atStart => exact ⟨0, Nat.zero_le _, rfl, Below.refl _ _, fun k h hk => by omega⟩
          case round =>
            obtain ⟨i, hi, rfl, hbw, hall⟩ := hrel
            have HBW := Lib.hid hbw
            clear hbw
            by_cases hlt : i < s.size
            · have hix : ∀ (W : World), (Instr.index 9 (.string s) (.int .i64 (i : Int))).run Try.prog W = .ok (.int .u8 (s[i]'hlt).toNat) W := fun W => by
                rw [run_index_string (h := by kernel_rfl), dif_pos (by omega)]; rfl
              obtain ⟨c, hcc⟩ : ∃ c, (s[i]'hlt).toNat = c := ⟨_, rfl⟩
              rw [hcc] at hix
              rcases (show c < 48 ∨ (48 ≤ c ∧ c ≤ 57) ∨ (57 < c ∧ c < 95) ∨ c = 95 ∨ c = 96 ∨ (97 ≤ c ∧ c ≤ 122) ∨ 122 < c by omega) with hq | hq | hq | hq | hq | hq | hq
              · -- c < 48
                have f1 : ((c : Int) == 95) = false := beq_eq_false_iff_ne.2 (by omega)
                have f2 : ¬ (97 : Int) ≤ (c : Int) := by omega
                have f3 : (c : Int) ≤ 122 := by omega
                have f4 : ¬ (48 : Int) ≤ (c : Int) := by omega
                have f5 : (c : Int) ≤ 57 := by omega
                have hno : ¬ NameP s := fun hn => by have := hn.2.2 i hlt; rw [hcc] at this; unfold okc at this; simp at this; omega
                have HNO := Lib.hid hno
                clear hno hcc
                go_wp2
                go_ret
                exact ⟨by rw [nameB_false HNO.out]; rfl, HBW.out⟩
              · -- 48 ≤ c ∧ c ≤ 57
                have f1 : ((c : Int) == 95) = false := beq_eq_false_iff_ne.2 (by omega)
                have f2 : ¬ (97 : Int) ≤ (c : Int) := by omega
                have f3 : (c : Int) ≤ 122 := by omega
                have f4 : (48 : Int) ≤ (c : Int) := by omega
                have f5 : (c : Int) ≤ 57 := by omega
                have hi0 : i ≠ 0 := fun e => by subst e; exact HD0.out (by rw [hcc]; omega)
                have hok : okc (decide (i = 0)) c = true := by unfold okc; simp; omega
                have HAL := Lib.hid (hal_more hall hlt hcc hok)
                clear hok hcc hi0
                go_wp2
                go_roundw
                case rel => exact ⟨i + 1, by omega, by go_num, HBW.out, HAL.out⟩
                case measure => simp [intOf]; omega
              · -- 57 < c ∧ c < 95
                have f1 : ((c : Int) == 95) = false := beq_eq_false_iff_ne.2 (by omega)
                have f2 : ¬ (97 : Int) ≤ (c : Int) := by omega
                have f3 : (c : Int) ≤ 122 := by omega
                have f4 : (48 : Int) ≤ (c : Int) := by omega
                have f5 : ¬ (c : Int) ≤ 57 := by omega
                have hno : ¬ NameP s := fun hn => by have := hn.2.2 i hlt; rw [hcc] at this; unfold okc at this; simp at this; omega
                have HNO := Lib.hid hno
                clear hno hcc
                go_wp2
                go_ret
                exact ⟨by rw [nameB_false HNO.out]; rfl, HBW.out⟩
              · -- c = 95
                have f1 : ((c : Int) == 95) = true := by simp; omega
                have f2 : ¬ (97 : Int) ≤ (c : Int) := by omega
                have f3 : (c : Int) ≤ 122 := by omega
                have f4 : (48 : Int) ≤ (c : Int) := by omega
                have f5 : ¬ (c : Int) ≤ 57 := by omega
                have hok : okc (decide (i = 0)) c = true := by unfold okc; simp; omega
                have HAL := Lib.hid (hal_more hall hlt hcc hok)
                clear hok hcc
                go_wp2
                go_roundw
                case rel => exact ⟨i + 1, by omega, by go_num, HBW.out, HAL.out⟩
                case measure => simp [intOf]; omega
              · -- c = 96
                have f1 : ((c : Int) == 95) = false := beq_eq_false_iff_ne.2 (by omega)
                have f2 : ¬ (97 : Int) ≤ (c : Int) := by omega
                have f3 : (c : Int) ≤ 122 := by omega
                have f4 : (48 : Int) ≤ (c : Int) := by omega
                have f5 : ¬ (c : Int) ≤ 57 := by omega
                have hno : ¬ NameP s := fun hn => by have := hn.2.2 i hlt; rw [hcc] at this; unfold okc at this; simp at this; omega
                have HNO := Lib.hid hno
                clear hno hcc
                go_wp2
                go_ret
                exact ⟨by rw [nameB_false HNO.out]; rfl, HBW.out⟩
              · -- 97 ≤ c ∧ c ≤ 122
                have f1 : ((c : Int) == 95) = false := beq_eq_false_iff_ne.2 (by omega)
                have f2 : (97 : Int) ≤ (c : Int) := by omega
                have f3 : (c : Int) ≤ 122 := by omega
                have f4 : (48 : Int) ≤ (c : Int) := by omega
                have f5 : ¬ (c : Int) ≤ 57 := by omega
                have hok : okc (decide (i = 0)) c = true := by unfold okc; simp; omega
                have HAL := Lib.hid (hal_more hall hlt hcc hok)
                clear hok hcc
                go_wp2
                go_roundw
                case rel => exact ⟨i + 1, by omega, by go_num, HBW.out, HAL.out⟩
                case measure => simp [intOf]; omega
              · -- 122 < c
                have f1 : ((c : Int) == 95) = false := beq_eq_false_iff_ne.2 (by omega)
                have f2 : (97 : Int) ≤ (c : Int) := by omega
                have f3 : ¬ (c : Int) ≤ 122 := by omega
                have f4 : (48 : Int) ≤ (c : Int) := by omega
                have f5 : ¬ (c : Int) ≤ 57 := by omega
                have hno : ¬ NameP s := fun hn => by have := hn.2.2 i hlt; rw [hcc] at this; unfold okc at this; simp at this; omega
                have HNO := Lib.hid hno
                clear hno hcc
                go_wp2
                go_ret
                exact ⟨by rw [nameB_false HNO.out]; rfl, HBW.out⟩
            · have HOK := Lib.hid (show NameP s from ⟨h1, h20, fun k h => hall k h (by omega)⟩)
              clear hall
              go_wp2
              go_ret
              exact ⟨by rw [nameB_true HOK.out]; rfl, HBW.out⟩
    · have g1 : ¬ (s.size : Int) < 1 := by omega
      have g2 : (20 : Int) < (s.size : Int) := by omega
      have HNO := Lib.hid (show ¬ NameP s from fun hn => h20 hn.2.1)
      go_enter Try.func37, Try.ntmps37
      go_wp2
      go_ret
      exact ⟨by rw [nameB_false HNO.out]; rfl, Below.refl _ _⟩
  · have g1 : (s.size : Int) < 1 := by omega
    have HNO := Lib.hid (show ¬ NameP s from fun hn => h1 hn.1)
    go_enter Try.func37, Try.ntmps37
    go_wp2
    go_ret
    exact ⟨by rw [nameB_false HNO.out]; rfl, Below.refl _ _⟩
end Go.Proofs.Ytbmkhopmhmmibaa
