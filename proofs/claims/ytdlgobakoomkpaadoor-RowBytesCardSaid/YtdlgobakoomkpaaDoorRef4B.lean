/-
  The document's own answer for row (ref04): Bytes.
-/
import Derived.Test.YtdlgobakoomkpaaDoorRowF
import Derived.Test.YtdlgobakoomkpaaDoorCell2R
namespace Go.Proofs.YtdlgobakoomkpaaDoor
open Go.RowKit

theorem r4_div (u k : Nat) : u / 256 ^ k / 256 = u / 256 ^ (k + 1) := by rw [Nat.div_div_eq_div_mul, Nat.pow_succ]
theorem r4_wrap (i : Int) : IntKind.u64.wrap i = ((u64 i : Nat) : Int) := by
  have hw : IntKind.u64.wrap i = i % 18446744073709551616 := rfl
  rw [hw]; unfold Go.Proofs.YtdlgobakoomkpaaDoor.u64; omega
theorem r4_bit (k : Nat) : ((2 ^ (k + 1) % 256 : Nat) : Int) = ((2 ^ k % 256 : Nat) : Int) * 2 % 256 := by rw [Nat.pow_succ]; omega
theorem r4_nul {k : Nat} {n : Nat} (hk : k < 8) (hn : n < 2 ^ k) : ((n : Nat) : Int) + ((2 ^ k % 256 : Nat) : Int) = ((n + 2 ^ k : Nat) : Int) ∧ n + 2 ^ k < 256 := by
  have h128 : (2 : Nat) ^ k ≤ 128 := Nat.le_trans (Nat.pow_le_pow_right (by decide) (show k ≤ 7 by omega)) (by decide)
  omega
theorem nul_none (a : List Val) : nul (a ++ [nulv]) = nul a + 2 ^ a.length := by rw [nul_snoc, show nbit nulv = 1 from rfl, Nat.mul_one]
theorem nul_some {a : List Val} {x : Val} (h : x.k ≠ 0) : nul (a ++ [x]) = nul a := by rw [nul_snoc]; unfold nbit; rw [if_neg h]; rfl

set_option maxRecDepth 100000 in
set_option maxHeartbeats 8000000 in
theorem r04bytes_any (K A : Option Addr) (kc c : Nat) (ks : List UInt8) (l : List Val) (w : World) (hk : Brd w K ks) (hkl : ks.length ≤ 9223372036854775807) (hl : l.length ≤ 1000000) (hr : Vrd w A l) (hok : ∀ x ∈ l, ValOk x) :
    Calls Tryd.prog 34 #[.slice K ks.length kc, .slice A l.length c] w fun e w' => ∃ v', e = .returned (.tuple #[v', .int .i64 (rwE ks l)]) ∧ Byt w' w.heap.size v' (rwB ks l) ∧ Below w.heap.size w w' := by
  obtain ⟨i0, hi0, hz0, hz1, hz2⟩ := info_parts info_u8
  have gk := r04right_any K kc ks w hk hkl
  cases hK : kok ks with
  | false =>
    rw [hK] at gk
    have em := mtE_arg (ks := ks) (l := l) (.inl hK)
    have e1 : rwE ks l = 1 := by rw [rwE_bad (by rw [em]; decide), em]
    rw [e1, rwB_no (by rw [e1]; decide)]
    have GK := Lib.hid gk
    clear gk hK hok hr hk em e1
    go_enter Tryd.func34, Tryd.ntmps34
    go_wp2_with (go_at_call 48; (with_reducible refine (GK.out).mono ?_); rintro e w1 ⟨rfl, hw1⟩; have hw := hw1.symm; subst hw)
    go_ret2
    exact ⟨.slice none 0 0, rfl, byt_nil _ _, Below.refl _ _⟩
  | true =>
    rw [hK] at gk
    by_cases hlen : ks.length = l.length
    · have hne : ((ks.length : Int) != (l.length : Int)) = false := by rw [hlen]; simp
      have GK := Lib.hid gk
      have HL := Lib.hid hlen
      have h8 : l.length ≤ 8 := by have := (kok_parts hK).2.1; omega
      have hF3 : l.all rightB = false → rwE ks l = 3 := fun h => by have em := mtE_form (l := l) hK hlen h; rw [rwE_bad (by rw [em]; decide), em]
      have hF8 : l.all rightB = true → fits ks l = false → rwE ks l = 8 := fun h h2 => by have em := mtE_type (l := l) hK hlen h h2; rw [rwE_bad (by rw [em]; decide), em]
      have hF0 : l.all rightB = true → fits ks l = true → mtE ks l = 0 := fun h h2 => mtE_ok (l := l) hK hlen h h2
      clear gk hlen
      go_enter Tryd.func34, Tryd.ntmps34
      go_wp2_with (go_at_call 48; (with_reducible refine (GK.out).mono ?_); rintro e w1 ⟨rfl, hw1⟩; have hw := hw1.symm; subst hw)
      go_loopw [26] (fun i wr => ∃ k : Nat, k ≤ l.length ∧ i = .int .i64 k ∧ (l.take k).all rightB = true ∧ Below w.heap.size w wr) (fun i _ => l.length - (intOf i).toNat)
      case atStart => exact ⟨0, Nat.zero_le _, rfl, rfl, Below.refl _ _⟩
      case round =>
        obtain ⟨k, hkk, rfl, ha, hb⟩ := hrel
        by_cases hlt : k < l.length
        · obtain ⟨ad, rfl, c0, c1, c2, c3, _⟩ := (hr.below hb).at_ hlt
          have hx := hok _ (List.getElem_mem hlt)
          have gr := rright_any l[k] (by have := hx.s; unfold maxLen at this; exact this)
          have hz := hb.size
          have hA := fun h => all_next hlt ha h
          have hN := fun h => all_not hlt h
          generalize l[k] = x at *
          cases hR : rightB x with
          | false =>
            rw [hR] at gr
            have GR := Lib.hid gr
            have hn := hF3 (hN hR)
            have HE := Lib.hid hn
            have HB := Lib.hid (rwB_no (show rwE ks l ≠ 0 by rw [hn]; decide))
            clear gr hN hA hR ha hF3 hF8 hF0 hn
            go_wp2_with (go_at_call 30; (with_reducible refine (GR.out _).mono ?_); rintro e w1 ⟨rfl, hb1⟩)
            go_ret2
            exact ⟨.slice none 0 0, by rw [HE.out]; rfl, by rw [HB.out]; exact byt_nil _ _, (hb.alloc hz _).trans (hb1.mono (by simp; omega))⟩
          | true =>
            rw [hR] at gr
            have GR := Lib.hid gr
            have ha' := hA hR
            clear gr hN hA hR ha hF3 hF8 hF0
            go_wp2_with (go_at_call 30; (with_reducible refine (GR.out _).mono ?_); rintro e w1 ⟨rfl, hb1⟩)
            go_roundw
            case rel => exact ⟨k + 1, by omega, by go_num, ha', (hb.alloc hz _).trans (hb1.mono (by simp; omega))⟩
            case measure => simp [intOf]; omega
        · obtain rfl : k = l.length := by omega
          rw [List.take_length] at ha
          have HRA := Lib.hid ha
          have hF8 := hF8 ha
          have hF0 := hF0 ha
          clear hF3 ha hne hok
          obtain ⟨wa, hwa⟩ : ∃ wa : World, wa = wr := ⟨_, rfl⟩
          subst hwa
          go_wp2
          go_loopw [8, 9, 10, 36] (fun nv bv ov i ws => ∃ k : Nat, k ≤ l.length ∧ i = .int .i64 k ∧ nv = .int .u8 ((nul (l.take k) : Nat) : Int) ∧ bv = .int .u8 ((2 ^ k % 256 : Nat) : Int) ∧ Byt ws w.heap.size ov (vencs (l.take k)) ∧ fits ks l = fits (ks.drop k) (l.drop k) ∧ Below w.heap.size w ws) (fun _ _ _ i _ => l.length - (intOf i).toNat)
          case atStart => exact ⟨0, Nat.zero_le _, rfl, rfl, rfl, byt_nil _ _, rfl, hb⟩
          case round =>
            obtain ⟨k, hkk, rfl, rfl, rfl, ho, hs, hb2⟩ := hrel
            by_cases hlt : k < l.length
            · have hltk : k < ks.length := by rw [HL.out]; exact hlt
              obtain ⟨ad, rfl, c0, c1, c2, c3, _⟩ := (hr.below hb2).at_ hlt
              obtain ⟨ak, rfl, hcell⟩ := (hk.below hb2).at_ hltk
              have ix0 := idx_kind ak ks.length kc k hltk
              rw [fits_drop hltk hlt] at hs
              have hzw2 := hb2.size
              have hcl : ∀ o, (wr.alloc o).cell? (ak.add k) = some (.int .u8 ((ks[k]'hltk).toNat : Int)) := fun o => (World.cell?_alloc_lt wr o _ (World.block_lt_of_cell? wr _ hcell)).trans hcell
              have hff : fit (ks[k]'hltk) l[k] = ((l[k].k == 0) || (l[k].k == ((ks[k]'hltk).toNat : Int))) := rfl
              have hT := Lib.hid (take_val hlt)
              have hR : rightB l[k] = true := List.all_eq_true.1 HRA.out _ (List.getElem_mem hlt)
              have hlk : (l.take k).length = k := by rw [List.length_take]; omega
              have hnl := nul_lt (l.take k)
              rw [hlk] at hnl
              have hvl : (vencs (l.take k)).length ≤ 1000 := by
                have h1 := vencs_len (l.take k) (List.all_eq_true.2 fun x hx => List.all_eq_true.1 HRA.out x (List.mem_of_mem_take hx))
                rw [hlk] at h1
                omega
              have hbit := r4_bit k
              have hm256 : (2 ^ k % 256 : Nat) < 256 := Nat.mod_lt _ (by decide)
              have hnn := r4_nul (by omega : k < 8) hnl
              have hnu := nul_none (l.take k)
              rw [hlk] at hnu
              have hns := nul_some (a := l.take k) (x := l[k]'hlt)
              have hvs := vencs_snoc (l.take k) (l[k]'hlt)
              generalize l[k] = x at *
              generalize fit (ks[k]'hltk) x = f at *
              generalize ((ks[k]'hltk).toNat : Int) = kb at *
              clear hcell hk hr
              rcases right_cases hR with rfl | ⟨i, rfl⟩ | ⟨s, rfl, hss⟩ | ⟨y, rfl⟩
              · rw [show ((0 : Int) == 0) = true from rfl, Bool.true_or] at hff
                rw [hff, Bool.true_and] at hs
                have hnu' : nul (l.take k ++ [⟨0, 0, ⟨#[]⟩, false⟩]) = nul (l.take k) + 2 ^ k := hnu
                have hve : venc ⟨0, 0, ⟨#[]⟩, false⟩ = [] := rfl
                rw [hve, List.append_nil] at hvs
                generalize vencs (l.take k) = vo at *
                generalize nul (l.take k) = q at *
                obtain ⟨q2, hq2⟩ : ∃ q2, q2 = q + 2 ^ k := ⟨_, rfl⟩
                rw [← hq2] at hnn hnu'
                have HNU := Lib.hid hnu'
                have HVS := Lib.hid hvs
                have HS := Lib.hid hs
                have HBT := Lib.hid hbit
                have hn1 := hnn.1
                have hn2 := hnn.2
                generalize (2 ^ k % 256 : Nat) = m at *
                clear hs hff hR hnn hnu hnu' hvs hns hnl hq2 hF8 hF0 hbit hve
                go_wp2
                go_roundw
                case rel => exact ⟨k + 1, by omega, by go_num, by rw [hT.out, HNU.out] <;> go_num, by rw [HBT.out] <;> go_num, by rw [hT.out, HVS.out]; exact World.ownsRow.alloc ho _, HS.out, hb2.alloc hzw2 _⟩
                case measure => simp [intOf]; omega
              · have hns' := hns (show (1 : Int) ≠ 0 by decide)
                rw [show ((1 : Int) == 0) = false from rfl, Bool.false_or] at hff
                generalize vencs (l.take k) = vo at *
                generalize nul (l.take k) = q at *
                by_cases hkb : (1 : Int) = kb
                · subst hkb
                  rw [show ((1 : Int) == 1) = true from rfl] at hff
                  rw [hff, Bool.true_and] at hs
                  have HNU := Lib.hid hns'
                  have HVS := Lib.hid hvs
                  have HS := Lib.hid hs
                  have HBT := Lib.hid hbit
                  have hq256 : q < 256 := by have := hnn.2; omega
                  generalize (2 ^ k % 256 : Nat) = m at *
                  clear hs hff hR hnn hnu hns' hvs hns hnl hF8 hF0 hbit
                  have hw := r4_wrap i
                  have hu64 : Go.Proofs.YtdlgobakoomkpaaDoor.u64 i < 18446744073709551616 := by unfold Go.Proofs.YtdlgobakoomkpaaDoor.u64; omega
                  have hve : venc ⟨1, i, ⟨#[]⟩, false⟩ = le8 (Go.Proofs.YtdlgobakoomkpaaDoor.u64 i) := rfl
                  rw [hve] at HVS
                  generalize Go.Proofs.YtdlgobakoomkpaaDoor.u64 i = u at *
                  obtain ⟨wo, rfl⟩ : ∃ wo : World, wo = wr := ⟨_, rfl⟩
                  go_wp2
                  go_quiet (fail)
                  go_wp2
                  go_loopw [10, 13, 63] (fun ov n j wi => ∃ m : Nat, m ≤ 8 ∧ j = .int .i64 m ∧ n = .int .u64 ((u / 256 ^ m : Nat) : Int) ∧ Byt wi w.heap.size ov (vo ++ (le8 u).take m) ∧ Below w.heap.size w wi) (fun _ _ j _ => 8 - (intOf j).toNat)
                  case atStart => exact ⟨0, by omega, rfl, by simp, by rw [List.take_zero, List.append_nil]; exact own_drewN (World.ownsRow.alloc ho _) _, (by repeat (first | exact hb2 | refine Below.drew ?_ | refine below_dN ?_ _ | refine Below.al ?_ _ | refine Below.next ?_ (by assumption)))⟩
                  case round =>
                    obtain ⟨j, hj, rfl, rfl, hd, hbi⟩ := hrel
                    by_cases hj8 : j < 8
                    · obtain ⟨b, hb0⟩ : ∃ b, b = UInt8.ofNat (u / 256 ^ j) := ⟨_, rfl⟩
                      have hbv : (((u / 256 ^ j : Nat) : Int) % 256) = (b.toNat : Int) := by rw [hb0]; simp
                      have hxl : u / 256 ^ j < 18446744073709551616 := Nat.lt_of_le_of_lt (Nat.div_le_self _ _) hu64
                      have hnx := Lib.hid (r4_div u j)
                      have hnt := Lib.hid (take_next (hb0 ▸ le8_get u hj8 : (le8 u)[j]? = some b))
                      have hvl2 : (vo ++ (le8 u).take j).length ≤ 1010 := by have := List.length_take_le j (le8 u); simp only [List.length_append]; omega
                      have hzi := hbi.size
                      generalize u / 256 ^ j = x at *
                      generalize (le8 u).take j = vt at *
                      clear hb0 hw
                      go_wp2_with (at_builtin; refine wpList_append_src _ rfl (.tmp 65) (.tmp 69) 24 24 rfl w.heap.size 5 _ _ 1 1 Tryd.underlying24 hi0 hz0 hz1 hz2 rfl _ _ _ rfl (World.ownsRow.alloc hd _) _ 1 (bcells [b]) rfl (src_rd Tryd.underlying24 _ (rd_lit (by first | rfl | simp) rfl rfl) (by decide) (bcells_one _)) (by simp only [maxLen]; omega) (by omega) (by simp; omega) ?_; intro v1 w1 hown1 hg1 ha1)
                      go_roundw
                      case rel => exact ⟨j + 1, by omega, by go_num, by rw [← hnx.out]; first | go_num | simp | (congr 1; omega), by rw [hnt.out, ← List.append_assoc]; exact byt_app hown1, hbi.trans (((Upd.refl _ _).alloc _).app hg1 ha1 |>.old hd (by omega))⟩
                      case measure => simp [intOf]; omega
                    · obtain rfl : j = 8 := by omega
                      rw [List.take_of_length_le (by rw [le8_length]; exact Nat.le_refl _)] at hd
                      clear hw
                      go_wp2
                      go_roundw
                      case rel => exact ⟨k + 1, by omega, by go_num, by rw [hT.out, HNU.out] <;> go_num, by rw [HBT.out] <;> go_num, by rw [hT.out, HVS.out]; exact hd, HS.out, hbi⟩
                      case measure => simp [intOf]; omega
                · have hkb0 : ((1 : Int) != kb) = true := by simpa using hkb
                  have hkb1 : ((1 : Int) == kb) = false := by simpa using hkb
                  rw [hkb1] at hff
                  rw [hff, Bool.false_and] at hs
                  have hn := hF8 hs
                  have HE := Lib.hid hn
                  have HB := Lib.hid (rwB_no (show rwE ks l ≠ 0 by rw [hn]; decide))
                  generalize (2 ^ k % 256 : Nat) = m at *
                  clear hs hff hR hnn hnu hns' hvs hns hnl hF8 hF0 hbit hn hkb hkb1
                  go_wp2
                  go_quiet (fail)
                  go_wp2
                  go_ret2
                  exact ⟨.slice none 0 0, by rw [HE.out]; rfl, by rw [HB.out]; exact byt_nil _ _, (by repeat (first | exact hb2 | refine Below.drew ?_ | refine below_dN ?_ _ | refine Below.al ?_ _ | refine Below.next ?_ (by assumption)))⟩
              · have hns' := hns (show (2 : Int) ≠ 0 by decide)
                rw [show ((2 : Int) == 0) = false from rfl, Bool.false_or] at hff
                generalize vencs (l.take k) = vo at *
                generalize nul (l.take k) = q at *
                by_cases hkb : (2 : Int) = kb
                · subst hkb
                  rw [show ((2 : Int) == 2) = true from rfl] at hff
                  rw [hff, Bool.true_and] at hs
                  have HNU := Lib.hid hns'
                  have HVS := Lib.hid hvs
                  have HS := Lib.hid hs
                  have HBT := Lib.hid hbit
                  have hq256 : q < 256 := by have := hnn.2; omega
                  generalize (2 ^ k % 256 : Nat) = m at *
                  clear hs hff hR hnn hnu hns' hvs hns hnl hF8 hF0 hbit
                  have hs60 : s.size ≤ 60 := by unfold soundB at hss; simp at hss; exact hss.1
                  have hsb : (UInt8.ofNat s.size).toNat = s.size := by simp; omega
                  have hve : venc ⟨2, 0, s, false⟩ = UInt8.ofNat s.size :: s.data.toList := rfl
                  rw [hve] at HVS
                  generalize UInt8.ofNat s.size = b at *
                  obtain ⟨wo, rfl⟩ : ∃ wo : World, wo = wr := ⟨_, rfl⟩
                  clear hss
                  go_wp2
                  go_quiet (fail)
                  go_wp2_with (first
                    | (at_builtin; refine wpList_append_src _ rfl (.tmp 76) (.tmp 81) 24 24 rfl w.heap.size 5 _ _ 1 1 Tryd.underlying24 hi0 hz0 hz1 hz2 rfl _ _ _ rfl (World.ownsRow.alloc (own_drewN (World.ownsRow.alloc ho _) _) _) _ 1 (bcells [b]) rfl (src_rd Tryd.underlying24 _ (rd_lit (by first | rfl | simp) (by simp [bcells, hsb]) rfl) (by decide) (bcells_one _)) (by simp only [maxLen]; omega) (by omega) (by simp; omega) ?_; intro v1 w1 hown1 hg1 ha1; have hz1' : wo.heap.size < w1.heap.size := (by have := hg1.size; simp at this; omega); have hc1 : w1.cell? ⟨wo.heap.size, 2, none⟩ = some (.string s) := hg1.cell (by simp [go_sem]) (ho.ne_new (Nat.le_refl _)))
                    | (at_builtin; refine wpList_append_src _ rfl (.tmp 83) (.tmp 85) 24 9 rfl w.heap.size 5 _ _ 1 1 Tryd.underlying24 hi0 hz0 hz1 hz2 rfl _ _ _ rfl hown1 _ _ _ rfl (Src.ofString _ Tryd.underlying9 s) (by simp only [maxLen]; omega) (by omega) (by omega) ?_; intro v2 w2 hown2 hg2 ha2))
                  go_roundw
                  case rel => exact ⟨k + 1, by omega, by go_num, by rw [hT.out, HNU.out] <;> go_num, by rw [HBT.out] <;> go_num, by rw [hT.out, HVS.out]; exact byt_of hown2 (by simp [bcells, byteCells]), HS.out, hb2.trans ((((((Upd.refl _ _).alloc _).drewN _).alloc _).app hg1 ha1).app hg2 ha2 |>.old ho (by omega))⟩
                  case measure => simp [intOf]; omega
                · have hkb0 : ((2 : Int) != kb) = true := by simpa using hkb
                  have hkb1 : ((2 : Int) == kb) = false := by simpa using hkb
                  rw [hkb1] at hff
                  rw [hff, Bool.false_and] at hs
                  have hn := hF8 hs
                  have HE := Lib.hid hn
                  have HB := Lib.hid (rwB_no (show rwE ks l ≠ 0 by rw [hn]; decide))
                  generalize (2 ^ k % 256 : Nat) = m at *
                  clear hs hff hR hnn hnu hns' hvs hns hnl hF8 hF0 hbit hn hkb hkb1
                  go_wp2
                  go_quiet (fail)
                  go_wp2
                  go_ret2
                  exact ⟨.slice none 0 0, by rw [HE.out]; rfl, by rw [HB.out]; exact byt_nil _ _, (by repeat (first | exact hb2 | refine Below.drew ?_ | refine below_dN ?_ _ | refine Below.al ?_ _ | refine Below.next ?_ (by assumption)))⟩
              · have hns' := hns (show (3 : Int) ≠ 0 by decide)
                rw [show ((3 : Int) == 0) = false from rfl, Bool.false_or] at hff
                generalize vencs (l.take k) = vo at *
                generalize nul (l.take k) = q at *
                by_cases hkb : (3 : Int) = kb
                · subst hkb
                  rw [show ((3 : Int) == 3) = true from rfl] at hff
                  rw [hff, Bool.true_and] at hs
                  have HNU := Lib.hid hns'
                  have HVS := Lib.hid hvs
                  have HS := Lib.hid hs
                  have HBT := Lib.hid hbit
                  have hq256 : q < 256 := by have := hnn.2; omega
                  generalize (2 ^ k % 256 : Nat) = m at *
                  clear hs hff hR hnn hnu hns' hvs hns hnl hF8 hF0 hbit
                  obtain ⟨wo, rfl⟩ : ∃ wo : World, wo = wr := ⟨_, rfl⟩
                  cases y
                  · go_wp2
                    go_quiet (fail)
                    go_wp2_with (at_builtin; refine wpList_append_src _ rfl (.tmp 94) (.tmp 95) 24 24 rfl w.heap.size 5 _ _ 1 1 Tryd.underlying24 hi0 hz0 hz1 hz2 rfl _ _ _ rfl (World.ownsRow.alloc (own_drewN (World.ownsRow.alloc ho _) _) _) _ 1 (bcells [0]) rfl (src_rd Tryd.underlying24 _ (rd_lit (by first | rfl | simp) rfl rfl) (by decide) (bcells_one _)) (by simp only [maxLen]; omega) (by omega) (by simp; omega) ?_; intro v1 w1 hown1 hg1 ha1)
                    go_roundw
                    case rel => exact ⟨k + 1, by omega, by go_num, by rw [hT.out, HNU.out] <;> go_num, by rw [HBT.out] <;> go_num, by rw [hT.out, HVS.out]; exact byt_app hown1, HS.out, hb2.trans (((((Upd.refl _ _).alloc _).drewN _).alloc _).app hg1 ha1 |>.old ho (by omega))⟩
                    case measure => simp [intOf]; omega
                  · go_wp2
                    go_quiet (fail)
                    go_wp2_with (at_builtin; refine wpList_append_src _ rfl (.tmp 91) (.tmp 92) 24 24 rfl w.heap.size 5 _ _ 1 1 Tryd.underlying24 hi0 hz0 hz1 hz2 rfl _ _ _ rfl (World.ownsRow.alloc (own_drewN (World.ownsRow.alloc ho _) _) _) _ 1 (bcells [1]) rfl (src_rd Tryd.underlying24 _ (rd_lit (by first | rfl | simp) rfl rfl) (by decide) (bcells_one _)) (by simp only [maxLen]; omega) (by omega) (by simp; omega) ?_; intro v1 w1 hown1 hg1 ha1)
                    go_roundw
                    case rel => exact ⟨k + 1, by omega, by go_num, by rw [hT.out, HNU.out] <;> go_num, by rw [HBT.out] <;> go_num, by rw [hT.out, HVS.out]; exact byt_app hown1, HS.out, hb2.trans (((((Upd.refl _ _).alloc _).drewN _).alloc _).app hg1 ha1 |>.old ho (by omega))⟩
                    case measure => simp [intOf]; omega
                · have hkb0 : ((3 : Int) != kb) = true := by simpa using hkb
                  have hkb1 : ((3 : Int) == kb) = false := by simpa using hkb
                  rw [hkb1] at hff
                  rw [hff, Bool.false_and] at hs
                  have hn := hF8 hs
                  have HE := Lib.hid hn
                  have HB := Lib.hid (rwB_no (show rwE ks l ≠ 0 by rw [hn]; decide))
                  generalize (2 ^ k % 256 : Nat) = m at *
                  clear hs hff hR hnn hnu hns' hvs hns hnl hF8 hF0 hbit hn hkb hkb1
                  go_wp2
                  go_quiet (fail)
                  go_wp2
                  go_ret2
                  exact ⟨.slice none 0 0, by rw [HE.out]; rfl, by rw [HB.out]; exact byt_nil _ _, (by repeat (first | exact hb2 | refine Below.drew ?_ | refine below_dN ?_ _ | refine Below.al ?_ _ | refine Below.next ?_ (by assumption)))⟩
            · obtain rfl : k = l.length := by omega
              rw [List.drop_length, ← HL.out, List.drop_length] at hs
              have hm0 := hF0 hs
              have hrl : (renc l) = UInt8.ofNat (nul l) :: vencs l := rfl
              have hnb := renc_byte h8
              rw [List.take_length] at ho
              have hvl : (vencs l).length ≤ 1000 := by
                have h1 := vencs_len l HRA.out
                omega
              have hoe : (vencs l).length = (vencs l).length := rfl
              obtain ⟨B2, d2, rfl, hn2, hd2, hB2⟩ := byt_slice ho
              by_cases h2 : 200 < 1 + (vencs l).length
              · have e1 := rwE_long hm0 h2
                have HE := Lib.hid e1
                have HB := Lib.hid (rwB_no (show rwE ks l ≠ 0 by rw [e1]; decide))
                generalize vencs l = q at *
                generalize nul (l.take l.length) = q2 at *
                generalize (2 ^ l.length % 256 : Nat) = m at *
                clear hs hF8 hF0 hr hk e1 hm0 hrl hnb
                go_wp2
                go_ret2
                exact ⟨.slice none 0 0, by rw [HE.out]; rfl, by rw [HB.out]; exact byt_nil _ _, hb2⟩
              · have e1 := rwE_ok hm0 h2
                have HE := Lib.hid e1
                have hbb := rwB_yes e1
                rw [hrl] at hbb
                have HB := Lib.hid hbb
                rw [List.take_length]
                generalize vencs l = q at *
                generalize (2 ^ l.length % 256 : Nat) = m at *
                obtain ⟨b, hbn⟩ : ∃ b, b = UInt8.ofNat (nul l) := ⟨_, rfl⟩
                rw [← hbn] at hnb HB
                generalize nul l = q2 at *
                subst hnb
                clear hbn hs hF8 hF0 hr hk e1 hm0 hrl hbb
                go_wp2_with (at_builtin; refine wpList_append_src _ rfl (.tmp 102) (.tmp 103) 24 24 rfl wr.heap.size 5 _ _ 1 1 Tryd.underlying24 hi0 hz0 hz1 hz2 rfl _ 1 (bcells [b]) rfl (row_lit (n := 1) (cs := bcells [b]) rfl rfl rfl (by decide)) _ q.length (bcells q) rfl (src_rd Tryd.underlying24 _ (Rd.alloc hB2 _) (by decide) (bcells_one _)) (by simp only [maxLen]; omega) (by omega) (by simp) ?_; intro v1 w1 hown1 hg1 ha1)
                go_ret2
                exact ⟨v1, by rw [HE.out]; rfl, by rw [HB.out]; exact byt_of (own_le hown1 hb2.size) (by simp [bcells]), hb2.trans ((((Below.refl _ _).alloc (Nat.le_refl _) _).trans (grown_below (row_lit (w := wr) (e := 5) (n := 1) (cs := bcells [b]) rfl rfl rfl (by decide)) hg1 (by simp))).mono hb2.size)⟩
    · have hne : ((ks.length : Int) != (l.length : Int)) = true := by simp; omega
      have em := mtE_arg (ks := ks) (l := l) (.inr hlen)
      have e1 : rwE ks l = 1 := by rw [rwE_bad (by rw [em]; decide), em]
      rw [e1, rwB_no (by rw [e1]; decide)]
      have GK := Lib.hid gk
      clear gk hK hok hr hk em e1 hlen
      go_enter Tryd.func34, Tryd.ntmps34
      go_wp2_with (go_at_call 48; (with_reducible refine (GK.out).mono ?_); rintro e w1 ⟨rfl, hw1⟩; have hw := hw1.symm; subst hw)
      go_ret2
      exact ⟨.slice none 0 0, rfl, byt_nil _ _, Below.refl _ _⟩
end Go.Proofs.YtdlgobakoomkpaaDoor
