/-
  The document's own answer for key (ref03): Bytes.
-/
import Derived.Test.YtdlgobakoomkpaaDoorKeyD
import Derived.Test.YtdlgobakoomkpaaDoorCell2R
namespace Go.Proofs.YtdlgobakoomkpaaDoor
open Go.RowKit

/-- A literal is a row of the call's own. -/
theorem own_lit {w : World} {C : Array Value} {e : TypeId} {n g : Nat} {cs : List Value} (hg : g = w.heap.size) (hc : C = cs.toArray) (hn : cs.length = n) (hm : n ≤ 9223372036854775807) :
    (w.alloc (.cells C e)).ownsRow w.heap.size e 1 (.slice (some ⟨g, 0, none⟩) n n) n cs := by
  subst hg hc hn
  refine ⟨by simp, .inr ⟨w.heap.size, cs.length, cs.toArray, rfl, Nat.le_refl _, heap_alloc_new w _, Nat.le_refl _, by unfold maxLen; omega, by simp, by simp⟩⟩
theorem div_next (u k : Nat) : u / 256 ^ k / 256 = u / 256 ^ (k + 1) := by rw [Nat.div_div_eq_div_mul, Nat.pow_succ]
theorem wrap_neg {i : Int} (h : -9223372036854775808 ≤ i ∧ i ≤ 9223372036854775807) (h0 : i < 0) : IntKind.u64.wrap i = (((i + 9223372036854775808).toNat : Nat) : Int) + 9223372036854775808 := by
  have hw : IntKind.u64.wrap i = i % 18446744073709551616 := rfl
  rw [hw]; omega
theorem wrap_pos {i : Int} (h : -9223372036854775808 ≤ i ∧ i ≤ 9223372036854775807) (h0 : ¬ i < 0) : IntKind.u64.wrap i = (((i + 9223372036854775808).toNat : Nat) : Int) - 9223372036854775808 := by
  have hw : IntKind.u64.wrap i = i % 18446744073709551616 := rfl
  rw [hw]; omega

set_option maxHeartbeats 4000000 in
theorem rbytes_any (A : Option Addr) (c : Nat) (l : List Val) (w : World) (hl : l.length ≤ 1000000) (hr : Vrd w A l) (hok : ∀ x ∈ l, ValOk x) :
    Calls Tryd.prog 17 #[.slice A l.length c] w fun e w' => ∃ v', e = .returned (.tuple #[v', .int .i64 (kbE l)]) ∧ Byt w' w.heap.size v' (kbB l) ∧ Below w.heap.size w w' := by
  obtain ⟨i0, hi0, hz0, hz1, hz2⟩ := info_parts info_u8
  go_enter Tryd.func17, Tryd.ntmps17
  go_wp2
  go_loopw [4, 11] (fun p i wr => ∃ k : Nat, k ≤ l.length ∧ i = .int .i64 k ∧ (l.take k).all rightB = true ∧ Byt wr w.heap.size p (encs (l.take k)) ∧ Below w.heap.size w wr) (fun _ i _ => l.length - (intOf i).toNat)
  case atStart => exact ⟨0, Nat.zero_le _, rfl, rfl, byt_nil _ _, Below.refl _ _⟩
  case round =>
    obtain ⟨k, hk, rfl, ha, ho, hb⟩ := hrel
    by_cases hlt : k < l.length
    · obtain ⟨ad, rfl, q0, q1, q2, q3, _⟩ := (hr.below hb).at_ hlt
      have hx := hok _ (List.getElem_mem hlt)
      have gr := rright_any l[k] (by have := hx.s; unfold maxLen at this; exact this)
      have hz := hb.size
      have hT := Lib.hid (take_val hlt)
      have hA := fun h => all_next hlt ha h
      have hN := fun h => all_not hlt h
      have hlen : (encs (l.take k)).length ≤ 62000000 := by have := encs_len _ ha; rw [List.length_take] at this; omega
      generalize l[k] = x at *
      cases hR : rightB x with
      | false =>
        rw [hR] at gr
        have GR := Lib.hid gr
        have hn := hN hR
        clear gr hN hA hR ho ha
        go_wp2_with (go_at_call 30; (with_reducible refine (GR.out _).mono ?_); rintro e w1 ⟨rfl, hb1⟩)
        go_ret2
        exact ⟨.slice none 0 0, by rw [show kbE l = 3 from if_neg (by simp [hn])]; rfl, by rw [show kbB l = [] from if_neg (by simp [hn])]; exact byt_nil _ _, (hb.alloc hz _).trans (hb1.mono (by simp; omega))⟩
      | true =>
        rw [hR] at gr
        have GR := Lib.hid gr
        have ha' := hA hR
        have ix := in63 hx
        clear gr hN hA ha
        rcases right_cases hR with rfl | ⟨i, rfl⟩ | ⟨s, rfl, hs⟩ | ⟨x, rfl⟩
        · clear hR ix
          go_wp2_with (first | (go_at_call 30; (with_reducible refine (GR.out _).mono ?_); rintro e w1 ⟨rfl, hb1⟩; obtain ⟨hc, hf⟩ := bcell hb1; have hzw : wr.heap.size < w1.heap.size := (by have := hb1.size; simp at this; omega); have ho1 : Byt w1 w.heap.size u4 (encs (l.take k)) := own_below (own_below ho ((Below.refl _ _).alloc (Nat.le_refl _) _)) hb1; have hb2 : Below w.heap.size w w1 := (hb.alloc hz _).next hb1) | (at_builtin; refine wpList_append_src _ rfl (.tmp 22) (.tmp 23) 24 24 rfl w.heap.size 5 _ _ 1 1 Tryd.underlying24 hi0 hz0 hz1 hz2 rfl _ _ _ rfl (World.ownsRow.alloc ho1 _) _ 1 (bcells [1]) rfl (src_rd Tryd.underlying24 _ (rd_lit (by simp) rfl rfl) (by decide) (bcells_one _)) (by simp only [maxLen]; omega) (by omega) (by simp; omega) ?_; intro v2 w2 ho2 hg2 ha2))
          go_roundw
          case rel => exact ⟨k + 1, by omega, by go_num, ha', by rw [hT.out, encs_snoc]; exact byt_of ho2 (by simp [bcells, enc]), hb2.trans ((((Upd.refl _ _).alloc _).app hg2 ha2).old ho1 (by omega))⟩
          case measure => simp [intOf]; omega
        · have ix' : -9223372036854775808 ≤ i ∧ i ≤ 9223372036854775807 := ix
          have he : enc ⟨1, i, ⟨#[]⟩, false⟩ = 3 :: be 8 (i + 9223372036854775808).toNat := rfl
          have h64 : (i + 9223372036854775808).toNat < 18446744073709551616 := by omega
          by_cases h0 : i < 0
          all_goals
            first
              | (have hw := wrap_neg ix' h0)
              | (have hw := wrap_pos ix' h0)
            have hi2 : 9223372036854775808 ≤ ((i + 9223372036854775808).toNat : Int) ∨ i < 0 := by omega
            generalize (i + 9223372036854775808).toNat = u at *
            have HE := Lib.hid he
            obtain ⟨wo, rfl⟩ : ∃ wo : World, wo = wr := ⟨_, rfl⟩
            clear hR ix ix' he
            go_wp2_with (go_at_call 30; (with_reducible refine (GR.out _).mono ?_); rintro e w1 ⟨rfl, hb1⟩; obtain ⟨hc, hf⟩ := bcell hb1; have hzw : wo.heap.size < w1.heap.size := (by have := hb1.size; simp at this; omega); have ho1 : Byt w1 w.heap.size u4 (encs (l.take k)) := own_below (own_below ho ((Below.refl _ _).alloc (Nat.le_refl _) _)) hb1; have hb2 : Below w.heap.size w w1 := (hb.alloc hz _).next hb1)
            go_loopw [7, 8, 47] (fun n d j wi => ∃ m : Nat, m ≤ 8 ∧ j = .int .i64 m ∧ n = .int .u64 ((u / 256 ^ m : Nat) : Int) ∧ Byt wi w1.heap.size d (be m u) ∧ Below w1.heap.size w1 wi) (fun _ _ j _ => 8 - (intOf j).toNat)
            case atStart => exact ⟨0, by omega, rfl, by simp, byt_nil _ _, Below.refl _ _⟩
            case round =>
              obtain ⟨m, hm, rfl, rfl, hd, hbi⟩ := hrel
              obtain ⟨D, dc, rfl, hdn, hdm, hDB⟩ := byt_slice hd
              by_cases hm8 : m < 8
              · obtain ⟨b, hb0⟩ : ∃ b, b = UInt8.ofNat (u / 256 ^ m) := ⟨_, rfl⟩
                have hbv : (((u / 256 ^ m : Nat) : Int) % 256) = (b.toNat : Int) := by rw [hb0]; simp
                have hxl : u / 256 ^ m < 18446744073709551616 := Nat.lt_of_le_of_lt (Nat.div_le_self _ _) h64
                have hnx := Lib.hid (div_next u m)
                have hbe : be (m + 1) u = b :: be m u := by rw [hb0]; rfl
                have hbl : (be m u).length ≤ 8 := by rw [be_length]; omega
                have HB := Lib.hid hbe
                generalize u / 256 ^ m = x at *
                clear hb0 hbe hw
                go_wp2_with (at_builtin; refine wpList_append_src _ rfl (.tmp 52) (.tmp 53) 24 24 rfl wr.heap.size 5 _ _ 1 1 Tryd.underlying24 hi0 hz0 hz1 hz2 rfl _ 1 (bcells [b]) rfl (own_lit (n := 1) (cs := bcells [b]) rfl rfl rfl (by decide)) _ (be m u).length (bcells (be m u)) rfl (src_rd Tryd.underlying24 _ (Rd.alloc hDB _) (by decide) (bcells_one _)) (by simp only [maxLen]; omega) (by omega) (by simp) ?_; intro v5 w5 ho5 hg5 ha5)
                go_roundw
                case rel => exact ⟨m + 1, by omega, by go_num, by rw [← hnx.out]; first | go_num | simp | (congr 1; omega), by rw [HB.out]; exact byt_of (own_le ho5 hbi.size) (by simp [bcells]), hbi.trans (((Below.refl _ _).alloc hbi.size _).trans (grown_below (own_le (own_lit (w := wr) (e := 5) (n := 1) (cs := bcells [b]) rfl rfl rfl (by decide)) hbi.size) hg5 (Nat.le_trans hbi.size (by simp))))⟩
                case measure => simp [intOf]; omega
              · obtain rfl : m = 8 := by omega
                have hbl : (be 8 u).length ≤ 8 := by rw [be_length]; omega
                have hoi := own_below ho1 hbi
                have hzi := hbi.size
                clear hw
                go_wp2_with (first | (at_builtin; refine wpList_append_src _ rfl (.tmp 58) (.tmp 59) 24 24 rfl w.heap.size 5 _ _ 1 1 Tryd.underlying24 hi0 hz0 hz1 hz2 rfl _ _ _ rfl (World.ownsRow.alloc hoi _) _ 1 (bcells [3]) rfl (src_rd Tryd.underlying24 _ (rd_lit (by simp) rfl rfl) (by decide) (bcells_one _)) (by simp only [maxLen]; omega) (by omega) (by simp; omega) ?_; intro v6 w6 ho6 hg6 ha6) | (at_builtin; refine wpList_append_src _ rfl (.tmp 60) (.tmp 61) 24 24 rfl w.heap.size 5 _ _ 1 1 Tryd.underlying24 hi0 hz0 hz1 hz2 rfl _ _ _ rfl ho6 _ (be 8 u).length (bcells (be 8 u)) rfl (src_rd Tryd.underlying24 _ (own_other (World.ownsRow.alloc hd _) hg6 (fun k hk => (ho1.lt k hk).2)) (by decide) (bcells_one _)) (by simp only [maxLen]; omega) (by omega) (by have := hg6.size; simp at this; omega) ?_; intro v7 w7 ho7 hg7 ha7))
                go_roundw
                case rel => exact ⟨k + 1, by omega, by go_num, ha', by rw [hT.out, encs_snoc, HE.out]; exact byt_of ho7 (by simp [bcells]), (hb2.trans (hbi.mono (by have := hb2.size; omega))).trans (((((Upd.refl _ _).alloc _).app hg6 ha6).app hg7 ha7).old hoi (by omega))⟩
                case measure => simp [intOf]; omega
        · have hs60 : s.size ≤ 60 := by unfold soundB at hs; simp at hs; exact hs.1
          clear hR ix hs
          go_wp2_with (first | (go_at_call 30; (with_reducible refine (GR.out _).mono ?_); rintro e w1 ⟨rfl, hb1⟩; obtain ⟨hc, hf⟩ := bcell hb1; have hzw : wr.heap.size < w1.heap.size := (by have := hb1.size; simp at this; omega); have ho1 : Byt w1 w.heap.size u4 (encs (l.take k)) := own_below (own_below ho ((Below.refl _ _).alloc (Nat.le_refl _) _)) hb1; have hb2 : Below w.heap.size w w1 := (hb.alloc hz _).next hb1) | (at_builtin; refine wpList_append_src _ rfl (.tmp 65) (.tmp 66) 24 24 rfl w.heap.size 5 _ _ 1 1 Tryd.underlying24 hi0 hz0 hz1 hz2 rfl _ _ _ rfl (World.ownsRow.alloc ho1 _) _ 1 (bcells [4]) rfl (src_rd Tryd.underlying24 _ (rd_lit (by simp) rfl rfl) (by decide) (bcells_one _)) (by simp only [maxLen]; omega) (by omega) (by simp; omega) ?_; intro v2 w2 ho2 hg2 ha2; have hzv : w1.heap.size ≤ w2.heap.size := (by have := hg2.size; simp at this; omega); have hc2 : w2.cell? ⟨wr.heap.size, 2, none⟩ = some (.string s) := hg2.cell (by rw [World.cell?_alloc_lt _ _ _ (show wr.heap.size < w1.heap.size from hzw), hc _ _ (by simp)]; simp [go_sem]) (ho.ne_new (Nat.le_refl _))) | (at_builtin; refine wpList_append_src _ rfl (.tmp 68) (.tmp 70) 24 9 rfl w.heap.size 5 _ _ 1 1 Tryd.underlying24 hi0 hz0 hz1 hz2 rfl _ _ _ rfl ho2 _ _ _ rfl (Src.ofString _ Tryd.underlying9 s) (by simp only [maxLen]; omega) (by omega) (by omega) ?_; intro v3 w3 ho3 hg3 ha3) | (at_builtin; refine wpList_append_src _ rfl (.tmp 72) (.tmp 73) 24 24 rfl w.heap.size 5 _ _ 1 1 Tryd.underlying24 hi0 hz0 hz1 hz2 rfl _ _ _ rfl (World.ownsRow.alloc ho3 _) _ 1 (bcells [0]) rfl (src_rd Tryd.underlying24 _ (rd_lit (by simp) rfl rfl) (by decide) (bcells_one _)) (by simp only [maxLen]; omega) (by omega) (by have := hg3.size; simp; omega) ?_; intro v4 w4 ho4 hg4 ha4))
          go_roundw
          case rel => exact ⟨k + 1, by omega, by go_num, ha', by rw [hT.out, encs_snoc]; exact byt_of ho4 (by simp [bcells, enc, byteCells]), hb2.trans ((((((Upd.refl _ _).alloc _).app hg2 ha2).app hg3 ha3).alloc _).app hg4 ha4 |>.old ho1 (by omega))⟩
          case measure => simp [intOf]; omega
        · clear hR ix
          cases x
          · go_wp2_with (first | (go_at_call 30; (with_reducible refine (GR.out _).mono ?_); rintro e w1 ⟨rfl, hb1⟩; obtain ⟨hc, hf⟩ := bcell hb1; have hzw : wr.heap.size < w1.heap.size := (by have := hb1.size; simp at this; omega); have ho1 : Byt w1 w.heap.size u4 (encs (l.take k)) := own_below (own_below ho ((Below.refl _ _).alloc (Nat.le_refl _) _)) hb1; have hb2 : Below w.heap.size w w1 := (hb.alloc hz _).next hb1) | (at_builtin; refine wpList_append_src _ rfl (.tmp 32) (.tmp 33) 24 24 rfl w.heap.size 5 _ _ 1 1 Tryd.underlying24 hi0 hz0 hz1 hz2 rfl _ _ _ rfl (World.ownsRow.alloc ho1 _) _ 2 (bcells [2, 0]) rfl (src_rd Tryd.underlying24 _ (rd_lit (by simp) rfl rfl) (by decide) (bcells_one _)) (by simp only [maxLen]; omega) (by omega) (by simp; omega) ?_; intro v2 w2 ho2 hg2 ha2))
            go_roundw
            case rel => exact ⟨k + 1, by omega, by go_num, ha', by rw [hT.out, encs_snoc]; exact byt_of ho2 (by simp [bcells, enc]), hb2.trans ((((Upd.refl _ _).alloc _).app hg2 ha2).old ho1 (by omega))⟩
            case measure => simp [intOf]; omega
          · go_wp2_with (first | (go_at_call 30; (with_reducible refine (GR.out _).mono ?_); rintro e w1 ⟨rfl, hb1⟩; obtain ⟨hc, hf⟩ := bcell hb1; have hzw : wr.heap.size < w1.heap.size := (by have := hb1.size; simp at this; omega); have ho1 : Byt w1 w.heap.size u4 (encs (l.take k)) := own_below (own_below ho ((Below.refl _ _).alloc (Nat.le_refl _) _)) hb1; have hb2 : Below w.heap.size w w1 := (hb.alloc hz _).next hb1) | (at_builtin; refine wpList_append_src _ rfl (.tmp 29) (.tmp 30) 24 24 rfl w.heap.size 5 _ _ 1 1 Tryd.underlying24 hi0 hz0 hz1 hz2 rfl _ _ _ rfl (World.ownsRow.alloc ho1 _) _ 2 (bcells [2, 1]) rfl (src_rd Tryd.underlying24 _ (rd_lit (by simp) rfl rfl) (by decide) (bcells_one _)) (by simp only [maxLen]; omega) (by omega) (by simp; omega) ?_; intro v2 w2 ho2 hg2 ha2))
            go_roundw
            case rel => exact ⟨k + 1, by omega, by go_num, ha', by rw [hT.out, encs_snoc]; exact byt_of ho2 (by simp [bcells, enc]), hb2.trans ((((Upd.refl _ _).alloc _).app hg2 ha2).old ho1 (by omega))⟩
            case measure => simp [intOf]; omega
    · obtain rfl : k = l.length := by omega
      rw [List.take_length] at ha ho
      clear hok hr
      go_wp2
      go_ret2
      exact ⟨u4, by rw [show kbE l = 0 from if_pos ha]; rfl, by rw [show kbB l = encs l from if_pos ha]; exact ho, hb⟩
end Go.Proofs.YtdlgobakoomkpaaDoor
