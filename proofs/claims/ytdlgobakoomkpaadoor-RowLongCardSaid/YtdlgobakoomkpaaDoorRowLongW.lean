/-
  RowLong: the walk: where the library's tables hold what its text lays, the law answers true; of what was there nothing has turned.
-/
import Derived.Test.YtdlgobakoomkpaaDoorAwake4
import Derived.Test.YtdlgobakoomkpaaDoorRowB
import Derived.Test.YtdlgobakoomkpaaDoorDoorB
import Derived.Test.YtdlgobakoomkpaaDoorRowL
import Derived.Test.YtdlgobakoomkpaaDoorRef4R
import Derived.Deep.RegionHeld3
namespace Go.Proofs.YtdlgobakoomkpaaDoor.rowLong
open Go.RowKit

set_option linter.unusedVariables false

theorem made_u8 (z : Value) (hz : z.cells = #[.int .u8 0]) (n : Nat) : (madeCells z.cells (n * 1)).toList = bcells (List.replicate n 0) := by
  rw [hz, Nat.mul_one, toList_madeCells_one]
  unfold bcells
  rw [List.map_replicate]
  rfl
theorem xs_set (j n : Nat) : (List.replicate j (120 : UInt8) ++ List.replicate (n + 1) 0).set j 120 = List.replicate (j + 1) 120 ++ List.replicate n 0 := by
  rw [List.set_append_right _ _ (by simp), List.length_replicate, Nat.sub_self, List.replicate_succ, List.set_cons_zero, List.replicate_succ', List.append_assoc]
  rfl
/-- Rows of elements of two sorts have no block in common. -/
theorem own_apart {w : World} {b1 b2 n1 n2 s1 s2 : Nat} {e1 e2 : TypeId} {v1 v2 : Value} {x1 x2 : List Value} (h1 : w.ownsRow b1 e1 s1 v1 n1 x1) (h2 : w.ownsRow b2 e2 s2 v2 n2 x2) (hne : e1 ≠ e2) : v1.ownBlock = none ∨ v1.ownBlock ≠ v2.ownBlock := by
  rcases h1.2 with ⟨rfl, _⟩ | ⟨g1, c1, r1, rfl, _, hg1, _⟩
  · exact .inl rfl
  · right
    intro e
    rcases h2.2 with ⟨rfl, _⟩ | ⟨g2, c2, r2, rfl, _, hg2, _⟩
    · cases e
    · have e' : g1 = g2 := by simpa [Value.ownBlock] using e
      subst e'
      rw [hg1] at hg2
      injection hg2 with hg2
      injection hg2 with _ h4
      exact hne h4
/-- What is held while a text is put behind the others. -/
structure SK (w : World) (base b2 : Nat) (u3 u4 u8 : Value) (m : List UInt8) (t : List UInt8) (W : World) : Prop where
  k : Kds W base u3 (twos m)
  l : Vls W base u4 (vxs m)
  t : Byt W b2 u8 t
  b : Below base w W
  z : w.heap.size ≤ W.heap.size
  hz : base ≤ w.heap.size
theorem SK.alloc {w W : World} {base b2 : Nat} {u3 u4 u8 : Value} {m t : List UInt8} (h : SK w base b2 u3 u4 u8 m t W) (o : Obj) : SK w base b2 u3 u4 u8 m t (W.alloc o) :=
  ⟨World.ownsRow.alloc h.k o, World.ownsRow.alloc h.l o, World.ownsRow.alloc h.t o, h.b.alloc (Nat.le_trans h.hz h.z) o, by simp; have := h.z; omega, h.hz⟩
theorem SK.drew {w W : World} {base b2 : Nat} {u3 u4 u8 : Value} {m t : List UInt8} (h : SK w base b2 u3 u4 u8 m t W) : SK w base b2 u3 u4 u8 m t W.drew := ⟨h.k, h.l, h.t, h.b.drew, h.z, h.hz⟩
theorem SK.drewN {w W : World} {base b2 : Nat} {u3 u4 u8 : Value} {m t : List UInt8} (h : SK w base b2 u3 u4 u8 m t W) (n : Nat) : SK w base b2 u3 u4 u8 m t (W.drewN n) := ⟨h.k, h.l, h.t, below_dN h.b n, h.z, h.hz⟩
theorem SK.app_k {w W W' : World} {base b2 : Nat} {u3 u4 u8 : Value} {m t : List UInt8} (hg : W.grownBy W' u3.ownBlock) (h : SK w base b2 u3 u4 u8 m t W) (hk : W'.ownsRow base 41 1 u3 (twos m).length (bcells (twos m))) : SK w base b2 u3 u4 u8 m t W' :=
  ⟨hk, h.l.kept hg (own_apart h.l h.k (by decide)), h.t.kept hg (own_apart h.t h.k (by decide)), h.b.trans (grown_below h.k hg (Nat.le_trans h.hz h.z)), Nat.le_trans h.z hg.size, h.hz⟩
theorem SK.app_l {w W W' : World} {base b2 : Nat} {u3 u4 u8 : Value} {m t : List UInt8} (hg : W.grownBy W' u4.ownBlock) (h : SK w base b2 u3 u4 u8 m t W) (hl : W'.ownsRow base 43 4 u4 (vxs m).length (vcells (vxs m))) : SK w base b2 u3 u4 u8 m t W' :=
  ⟨h.k.kept hg (own_apart h.k h.l (by decide)), hl, h.t.kept hg (own_apart h.t h.l (by decide)), h.b.trans (grown_below h.l hg (Nat.le_trans h.hz h.z)), Nat.le_trans h.z hg.size, h.hz⟩
theorem SK.carry {w W W' : World} {base b2 n : Nat} {u3 u4 u8 v : Value} {m t : List UInt8} {xs : List Value} (hg : W.grownBy W' u4.ownBlock) (h : SK w base b2 u3 u4 u8 m t W) (ho : W.ownsRow base 41 1 v n xs) : W'.ownsRow base 41 1 v n xs := ho.kept hg (own_apart ho h.l (by decide))
theorem SK.conv {w W : World} {base b2 s : Nat} {u3 u4 : Value} {g : Nat} {m t : List UInt8} (h : SK w base b2 u3 u4 (.slice (some ⟨g, 0, none⟩) s s) m t W) (hs : t.length = s) : (convert 24 9 (.slice (some ⟨g, 0, none⟩) s s)).run Tryd.prog W = .ok (.string ⟨t.toArray⟩) W := by
  subst hs
  exact Brd.conv (Rd.of_own h.t) _
theorem rd_grown {W W' : World} {g n size : Nat} {xs : List Value} {row : Option Nat} (hg : W.grownBy W' row) (h : Rd W size (some ⟨g, 0, none⟩) n xs) (hne : some g ≠ row) : Rd W' size (some ⟨g, 0, none⟩) n xs :=
  ⟨h.1, fun j u hu => by
    obtain ⟨ad, e, hc⟩ := h.2 j u hu
    injection e with e
    subst e
    exact ⟨_, rfl, hg.cell hc (by rw [badd]; exact hne)⟩⟩
theorem idx_own8 (g n c k : Nat) (h : k < n) (W : World) : (Instr.indexAt 24 (.slice (some ⟨g, 0, none⟩) n c) (.int .i64 (k : Int))).run Tryd.prog W = .ok (.pointer (some ⟨g, k, none⟩)) W := by
  rw [idx_u8 _ _ _ _ h _ rfl, Addr.add_lit, Nat.zero_add]

set_option maxHeartbeats 8000000 in
theorem walk (A : Option Addr) (c : Nat) (l : List UInt8) (w : World) (hE : Env w) (r0 : Brd w A l) (nl : l.length ≤ c) (ml : c ≤ 9223372036854775807) :
    Calls Tryd.prog 13 #[.slice A l.length c] w fun e w' => e = .returned (.bool true) ∧ Below w.heap.size w w' := by
  obtain ⟨i0, hi0, hz0, hz1, hz2⟩ := info_parts info_u8
  obtain ⟨ik, hik, hk0, hk1, hk2⟩ := info_parts info_kind
  obtain ⟨i4, hi4, hv0, hv1, hv2⟩ := info_parts info_val
  go_enter Tryd.func13, Tryd.ntmps13
  go_wp2_with fail
  refine (awake4_any _ hE).mono ?_
  rintro e w1 ⟨rfl, hb1⟩
  have y0 := r0.below hb1
  go_wp2
  go_loopw [3, 4, 5, 15] (fun kv lv nv iv wr => ∃ i : Nat, i ≤ l.length ∧ i ≤ 8 ∧ iv = .int .i64 i ∧ nv = .int .i64 (1 + ((vencs (vxs (l.take i))).length : Int)) ∧ Kds wr w1.heap.size kv (twos (l.take i)) ∧ Vls wr w1.heap.size lv (vxs (l.take i)) ∧ Below w1.heap.size w1 wr) (fun _ _ _ iv _ => l.length - (intOf iv).toNat)
  case atStart => exact ⟨0, Nat.zero_le _, Nat.zero_le _, rfl, rfl, kds_nil _ _, vls_nil _ _, Below.refl _ _⟩
  case round =>
    obtain ⟨i, hil, hi8, rfl, rfl, hK, hL, hb⟩ := hrel
    have hz := hb.size
    by_cases hlt : i < l.length
    · obtain ⟨ad, rfl, hcell⟩ := (y0.below hb).at_ hlt
      by_cases h8 : i < 8
      · have hnext := vencs_next hlt
        have htk : l.take (i + 1) = l.take i ++ [l[i]] := List.take_succ_eq_append_getElem hlt
        have hbl := l[i].toNat_lt
        have htw : twos (l.take (i + 1)) = twos (l.take i) ++ [2] := by rw [htk]; unfold twos; rw [List.map_append]; rfl
        have hvw : vxs (l.take (i + 1)) = vxs (l.take i) ++ [vx (l[i].toNat % 61)] := by rw [htk]; unfold vxs; rw [List.map_append]; rfl
        have hml : (l.take i).length = i := by rw [List.length_take]; omega
        have hNl := vencs_len (vxs (l.take i)) (vxs_right _)
        rw [vxs_length, hml] at hNl
        have HTW := Lib.hid htw
        have HVW := Lib.hid hvw
        have HNX := Lib.hid hnext
        clear htk htw hvw hnext
        generalize l[i].toNat = bn at *
        have hs61 : bn % 61 ≤ 60 := by omega
        have hsi : ((bn : Int) % 61) = ((bn % 61 : Nat) : Int) := by omega
        generalize bn % 61 = s at *
        generalize l.take i = m at *
        generalize (vencs (vxs m)).length = N at *
        obtain ⟨wo, rfl⟩ : ∃ wo : World, wo = wr := ⟨_, rfl⟩
        go_wp2_with (at_make; refine wpList_make_full _ rfl (.tmp 24) (.tmp 24) 24 rfl wo.heap.size 5 _ _ 1 Tryd.underlying24 hi0 hz0 hz1 _ _ _ _ s rfl rfl (by first | rfl | exact hsi | simp) (by first | rfl | exact hsi | simp) (by rw [hz2]; omega) (by unfold maxLen; omega) (Nat.le_refl _) ?_; intro w5 ho5 hg5; rw [made_u8 _ rfl] at ho5; have hb5 : Below wo.heap.size wo w5 := (Below.refl _ _).grown hg5 (Nat.le_refl _) (fun k hk => by cases hk))
        go_loopw [28] (fun jv wi => ∃ j : Nat, j ≤ s ∧ jv = .int .i64 j ∧ wi.ownsRow wo.heap.size 5 1 (.slice (some ⟨wo.heap.size, 0, none⟩) s s) s (bcells (List.replicate j 120 ++ List.replicate (s - j) 0)) ∧ Below wo.heap.size wo wi) (fun jv _ => s - (intOf jv).toNat)
        case atStart => exact ⟨0, Nat.zero_le _, rfl, by simpa using ho5, hb5⟩
        case round =>
          obtain ⟨j, hjs, rfl, hT, hbi⟩ := hrel
          by_cases hj : j < s
          · have hix := idx_own8 wo.heap.size s s j hj
            obtain ⟨r, hr⟩ : ∃ r, s - j = r + 1 := ⟨s - j - 1, by omega⟩
            have hr2 : s - (j + 1) = r := by omega
            rw [hr] at hT
            have hc := (hT.cellAt j (by omega)).trans (bcells_get _ j (by simp))
            have hf := hT.frozenAt j
            have hset := xs_set j r
            have hst := byt_set hT j 120
            rw [hset] at hst
            have hn : (List.replicate (j + 1) (120 : UInt8) ++ List.replicate r 0).length = s := by simp; omega
            have hst2 : (wr.setCell ⟨wo.heap.size, j, none⟩ (.int .u8 120)).ownsRow wo.heap.size 5 1 (.slice (some ⟨wo.heap.size, 0, none⟩) s s) s (bcells (List.replicate (j + 1) 120 ++ List.replicate r 0)) := by
              have := hst; unfold Byt at this; rw [hn] at this; exact this
            have HST := Lib.hid hst2
            clear hset hst hn hst2 hr
            go_wp2
            go_roundw
            case rel => exact ⟨j + 1, by omega, by go_num, by rw [hr2]; exact HST.out, hbi.setCell (Nat.le_refl _) _⟩
            case measure => simp [intOf]; omega
          · obtain rfl : j = s := by omega
            rw [Nat.sub_self, List.replicate_zero, List.append_nil] at hT
            have htl : (List.replicate j (120 : UInt8)).length = j := List.length_replicate
            have hS0 : SK wr w1.heap.size wo.heap.size u3 u4 (.slice (some ⟨wo.heap.size, 0, none⟩) j j) m (List.replicate j 120) wr := ⟨own_below hK hbi, own_below hL hbi, byt_of hT rfl, Below.refl _ _, Nat.le_refl _, Nat.le_trans hz hbi.size⟩
            have hconv := fun W (h : SK wr w1.heap.size wo.heap.size u3 u4 (.slice (some ⟨wo.heap.size, 0, none⟩) j j) m (List.replicate j 120) W) => h.conv htl
            have hsa := fun W o (h : SK wr w1.heap.size wo.heap.size u3 u4 (.slice (some ⟨wo.heap.size, 0, none⟩) j j) m (List.replicate j 120) W) => h.alloc o
            have hsd := fun W (h : SK wr w1.heap.size wo.heap.size u3 u4 (.slice (some ⟨wo.heap.size, 0, none⟩) j j) m (List.replicate j 120) W) => h.drew
            have hzr : w1.heap.size ≤ wr.heap.size := Nat.le_trans hz hbi.size
            have hNN : ∀ g, wr.heap.size ≤ g → some g ≠ u3.ownBlock := fun g hg e => by have := (hS0.k.lt g e.symm).2; omega
            have hvx : vx j = ⟨2, 0, ⟨(List.replicate j (120 : UInt8)).toArray⟩, false⟩ := rfl
            generalize List.replicate j (120 : UInt8) = tx at *
            have HVX := Lib.hid hvx
            have HB := Lib.hid hb
            have HBI := Lib.hid hbi
            clear hT hK hL hcell hvx hb5 ho5 hg5
            go_wp2
            go_region_held3 (SK wr w1.heap.size wo.heap.size u3 u4 (.slice (some ⟨wo.heap.size, 0, none⟩) j j) m tx) (first | assumption | exact SK.drew (by assumption) | exact SK.alloc (by assumption) _ | exact SK.drewN (by assumption) _ | exact SK.alloc (SK.drew (by assumption)) _ | exact SK.drew (SK.alloc (by assumption) _))
              (first
                | (refine step_append_keep _ (by rfl) (.tmp 38) (.tmp 42) 22 22 (by rfl) w1.heap.size 43 _ _ 4 40 Tryd.underlying22 hi4 hv0 hv1 hv2 rfl _ _ _ (by rfl) (SK.l (show SK wr w1.heap.size wo.heap.size u3 u4 (.slice (some ⟨wo.heap.size, 0, none⟩) j j) m tx _ from by first | assumption | exact SK.drew (by assumption) | exact SK.alloc (by assumption) _ | exact SK.drewN (by assumption) _ | exact SK.alloc (SK.drew (by assumption)) _ | exact SK.drew (SK.alloc (by assumption) _))) _ 1 (vcells [⟨2, 0, ⟨tx.toArray⟩, false⟩]) (by rfl) (src_rd Tryd.underlying22 _ (by first | exact rd_lit (by first | rfl | simp) rfl rfl | exact Rd.alloc (rd_lit (by first | rfl | simp) rfl rfl) _ | exact rd_grown hg6 (rd_lit (by first | rfl | simp) rfl rfl) (hNN _ (by simp)) | exact rd_grown hg6 (Rd.alloc (rd_lit (by first | rfl | simp) rfl rfl) _) (hNN _ (by simp))) (by decide) (vcells_one _)) (by rw [vxs_length]; simp only [maxLen]; omega) (by rw [vxs_length]; omega) (by have := SK.z (show SK wr w1.heap.size wo.heap.size u3 u4 (.slice (some ⟨wo.heap.size, 0, none⟩) j j) m tx _ from by assumption); omega) ?_; intro v7 w7 ho7 hg7 ha7 hl7; have hS := SK.app_l hg7 (show SK wr w1.heap.size wo.heap.size u3 u4 (.slice (some ⟨wo.heap.size, 0, none⟩) j j) m tx _ from by first | assumption | exact SK.drew (by assumption) | exact SK.alloc (by assumption) _ | exact SK.drewN (by assumption) _ | exact SK.alloc (SK.drew (by assumption)) _ | exact SK.drew (SK.alloc (by assumption) _)) hl7; have hv6 := SK.carry hg7 (show SK wr w1.heap.size wo.heap.size u3 u4 (.slice (some ⟨wo.heap.size, 0, none⟩) j j) m tx _ from by first | assumption | exact SK.drew (by assumption) | exact SK.alloc (by assumption) _ | exact SK.drewN (by assumption) _ | exact SK.alloc (SK.drew (by assumption)) _ | exact SK.drew (SK.alloc (by assumption) _)) (show World.ownsRow _ _ _ _ v6 _ _ by first | exact ho6 | exact World.ownsRow.alloc ho6 _ | exact World.ownsRow.alloc (own_drew ho6) _ | exact own_drew (World.ownsRow.alloc ho6 _)))
                | (refine step_append_keep _ (by rfl) (.tmp 35) (.tmp 36) 49 49 (by rfl) w1.heap.size 41 _ _ 1 1 Tryd.underlying49 hik hk0 hk1 hk2 rfl _ _ _ (by rfl) (SK.k (show SK wr w1.heap.size wo.heap.size u3 u4 (.slice (some ⟨wo.heap.size, 0, none⟩) j j) m tx _ from by first | assumption | exact SK.drew (by assumption) | exact SK.alloc (by assumption) _ | exact SK.drewN (by assumption) _ | exact SK.alloc (SK.drew (by assumption)) _ | exact SK.drew (SK.alloc (by assumption) _))) _ 1 (bcells [2]) (by rfl) (src_rd Tryd.underlying49 _ (by first | exact rd_lit (by first | rfl | simp) rfl rfl | exact Rd.alloc (rd_lit (by first | rfl | simp) rfl rfl) _) (by decide) (bcells_one _)) (by rw [twos_length]; simp only [maxLen]; omega) (by rw [twos_length]; omega) (by have := SK.z (show SK wr w1.heap.size wo.heap.size u3 u4 (.slice (some ⟨wo.heap.size, 0, none⟩) j j) m tx _ from by assumption); omega) ?_; intro v6 w6 ho6 hg6 ha6 hk6; have hS := SK.app_k hg6 (show SK wr w1.heap.size wo.heap.size u3 u4 (.slice (some ⟨wo.heap.size, 0, none⟩) j j) m tx _ from by first | assumption | exact SK.drew (by assumption) | exact SK.alloc (by assumption) _ | exact SK.drewN (by assumption) _ | exact SK.alloc (SK.drew (by assumption)) _ | exact SK.drew (SK.alloc (by assumption) _)) hk6))
            all_goals
              go_wp2
              go_roundw
              case rel => exact ⟨i + 1, by omega, by omega, by go_num, by rw [HNX.out]; first | go_num | (congr 1; omega), kds_of hv6 (by rw [HTW.out]; simp [bcells]), vls_of ho7 (by rw [HVW.out, vcells_append, HVX.out]), (HB.out.trans (HBI.out.mono hz)).trans hS.b⟩
              case measure => simp [intOf]; omega
      · obtain rfl : i = 8 := by omega
        have hcell8 : wr.cell? ⟨ad.block, ad.off + 8, none⟩ = some (.int .u8 (l[8].toNat : Int)) := hcell
        have hml : (l.take 8).length = 8 := by rw [List.length_take]; omega
        generalize l.take 8 = m at *
        have hmi : m.length = 8 := hml
        have htl : (twos m).length = 8 := by rw [twos_length, hmi]
        have hvl : (vxs m).length = 8 := by rw [vxs_length, hmi]
        obtain ⟨B, d, rfl, hn, hd, hB⟩ := kds_slice hK
        obtain ⟨A2, d2, rfl, hn2, hd2, hV⟩ := vls_slice hL
        have gf := rowfits_any B A2 d d2 (twos m) (vxs m) wr hB (by omega) (by omega) hV (vxs_ok m) (hE.next (hb1.next hb))
        have hx := hb1.next hb
        have e1 := rwE_twos (l := m) (by omega) (by omega)
        have hi0 : ((8 : Int) == 0) = false := beq_eq_false_iff_ne.2 (by omega)
        by_cases h200 : 200 < 1 + (vencs (vxs m)).length
        · rw [if_pos h200] at e1
          rw [htl, hvl, e1] at gf
          rw [htl, hvl]
          have hle : decide ((1 : Int) + ((vencs (vxs m)).length : Int) ≤ 200) = false := decide_eq_false (by omega)
          generalize (vencs (vxs m)).length = N at *
          have GF := Lib.hid gf
          clear gf hB hV hK hL htl hvl hmi hml e1
          go_wp2_with fail
          refine (GF.out).mono ?_
          rintro e w2 ⟨rfl, hb2⟩
          go_wp2
          go_ret
          exact ⟨rfl, hx.next hb2⟩
        · rw [if_neg h200] at e1
          rw [htl, hvl, e1] at gf
          rw [htl, hvl]
          have hle : decide ((1 : Int) + ((vencs (vxs m)).length : Int) ≤ 200) = true := decide_eq_true (by omega)
          generalize (vencs (vxs m)).length = N at *
          have GF := Lib.hid gf
          clear gf hB hV hK hL htl hvl hmi hml e1
          go_wp2_with fail
          refine (GF.out).mono ?_
          rintro e w2 ⟨rfl, hb2⟩
          go_wp2
          go_ret
          exact ⟨rfl, hx.next hb2⟩
    · obtain rfl : i = l.length := by omega
      rw [List.take_length] at hK hL ⊢
      obtain ⟨m, hlm⟩ : ∃ m, m = l := ⟨_, rfl⟩
      rw [← hlm] at hK hL
      have hml : m.length = l.length := by rw [hlm]
      rw [show (vencs (vxs l)).length = (vencs (vxs m)).length by rw [hlm]]
      clear hlm
      have hmi : m.length = l.length := hml
      have htl : (twos m).length = l.length := by rw [twos_length, hmi]
      have hvl : (vxs m).length = l.length := by rw [vxs_length, hmi]
      obtain ⟨B, d, rfl, hn, hd, hB⟩ := kds_slice hK
      obtain ⟨A2, d2, rfl, hn2, hd2, hV⟩ := vls_slice hL
      have gf := rowfits_any B A2 d d2 (twos m) (vxs m) wr hB (by omega) (by omega) hV (vxs_ok m) (hE.next (hb1.next hb))
      have hx := hb1.next hb
      by_cases h0 : l.length = 0
      · have hm0 : m = [] := List.eq_nil_of_length_eq_zero (by omega)
        have e1 : rwE (twos m) (vxs m) = 1 := by subst hm0; exact (rwE_bad (ks := twos []) (l := vxs []) (by rw [mtE_arg (.inl (by decide))]; decide)).trans (mtE_arg (.inl (by decide)))
        rw [htl, hvl, h0, e1] at gf
        rw [htl, hvl, h0]
        have GF := Lib.hid gf
        generalize (vencs (vxs m)).length = N at *
        clear gf hB hV hK hL htl hvl hmi hml
        go_wp2_with fail
        refine (GF.out).mono ?_
        rintro e w2 ⟨rfl, hb2⟩
        go_wp2
        go_ret
        exact ⟨rfl, hx.next hb2⟩
      · have e1 := rwE_twos (l := m) (by omega) (by omega)
        have hi0 : ((l.length : Int) == 0) = false := beq_eq_false_iff_ne.2 (by omega)
        by_cases h200 : 200 < 1 + (vencs (vxs m)).length
        · rw [if_pos h200] at e1
          rw [htl, hvl, e1] at gf
          rw [htl, hvl]
          have hle : decide ((1 : Int) + ((vencs (vxs m)).length : Int) ≤ 200) = false := decide_eq_false (by omega)
          generalize (vencs (vxs m)).length = N at *
          have GF := Lib.hid gf
          clear gf hB hV hK hL htl hvl hmi hml e1
          go_wp2_with fail
          refine (GF.out).mono ?_
          rintro e w2 ⟨rfl, hb2⟩
          go_wp2
          go_ret
          exact ⟨rfl, hx.next hb2⟩
        · rw [if_neg h200] at e1
          rw [htl, hvl, e1] at gf
          rw [htl, hvl]
          have hle : decide ((1 : Int) + ((vencs (vxs m)).length : Int) ≤ 200) = true := decide_eq_true (by omega)
          generalize (vencs (vxs m)).length = N at *
          have GF := Lib.hid gf
          clear gf hB hV hK hL htl hvl hmi hml e1
          go_wp2_with fail
          refine (GF.out).mono ?_
          rintro e w2 ⟨rfl, hb2⟩
          go_wp2
          go_ret
          exact ⟨rfl, hx.next hb2⟩
end Go.Proofs.YtdlgobakoomkpaaDoor.rowLong
