/-
  BookFirst: the walk.
-/
import Derived.Test.YtbmkhopmhmmibaaFirstP
import Derived.Test.YtbmkhopmhmmibaaOpen11
namespace Go.Proofs.Ytbmkhopmhmmibaa.bookFirst
open Go.RowKit
set_option linter.unusedVariables false

theorem info_sn : (Try.prog.info? 50).map (fun i => (i.zero, i.size, i.bytes)) = some (some (.agg #[.int .u64 0, .int .u64 0, .int .u64 0, .slice none 0 0]), 4, 48) := by kernel_rfl
theorem sn_one (s : Sn) : ∀ u ∈ s.e, u.oneCell' = true := by
  intro u hu
  simp only [Sn.e, sncells, Sn.v, List.mem_cons, List.not_mem_nil, or_false] at hu
  rcases hu with rfl | rfl | rfl | rfl <;> rfl
/-- Whose turn it is. -/
def Ph (f : Bool) (a i : Nat) : Prop := a ≤ i ∧ (f = false → a < i) ∧ (f = true → a = i)
/-- What came of it. -/
def Out (drop : Bool) (T : List Tb) (N a : Nat) (f : Bool) : Prop := if drop then ∃ t, T = [t] ∧ Dr t N a f else Cr T N a f
def Sall (L : List Sn) (Q : List (Value × List Nat)) : Prop := ∀ s ∈ L, (s.v, s.R) ∈ Q
theorem begS (i : Nat) (h : i < 9) : begR 1 (2 :: List.replicate i 1) = .tuple #[.int .u64 ((i + 2 : Nat) : Int), .int .i64 0] := by
  unfold begR
  rw [if_pos (by simp; omega)]
  simp [Nat.add_left_comm]
theorem begT (i : Nat) (h : i < 9) : begL 1 (2 :: List.replicate i 1) = 2 :: List.replicate (i + 1) 1 := by
  unfold begL
  rw [if_pos (by simp; omega), List.replicate_succ']
  rfl
theorem _root_.Go.Proofs.Ytbmkhopmhmmibaa.Wd.other {B g k last : Nat} {w0 w w' : World} {S : List Nat} {T : List Tb} {I : List (Nat × Ix)} {Q : List (Value × List Nat)} {e : TypeId} (h : Wd B w0 w g S k last T I Q) (hf : FrT [e] B w w') (he : e ∉ allT ++ [121]) : Wd B w0 w' g S k last T I Q := by
  obtain ⟨F, vT, vI, hl, hm, hb, hq⟩ := h
  have hne : ∀ {f : TypeId}, f ∈ allT ++ [121] → f ∉ [e] := fun hf h => he (by rw [List.mem_singleton] at h; rw [← h]; exact hf)
  refine ⟨F, vT, vI, hf.lg hl (hne (by decide)) (hne (by decide)) (hne (by decide)), ⟨hm.above, hm.below.trans (hf.below hm.size), Nat.le_trans hm.size hf.size⟩, hb.fr hf ?_, fun q h => ⟨hf.own (hq q h).1 (hne (by decide)), (hq q h).2⟩⟩
  rintro j f hj ⟨_, f', hf', ht⟩
  rw [List.mem_singleton] at hf'
  subst hf'
  have hff : f = f' := Classical.byContradiction fun hn => hj.ne ht hn rfl
  subst hff
  refine ⟨?_, ?_, ?_, ?_, ?_, ?_⟩ <;> (intro h; subst h; exact he (by decide))
theorem row_keep {W W' : World} {B i c j : Nat} {ad : Addr} {L : List Sn} {x0 x1 x2 : Int} {x3 : Value} (h : W.ownsRow B 50 4 (.slice (some ad) i c) i (L.flatMap Sn.e)) (h' : W'.ownsRow B 50 4 (.slice (some ad) i c) i (L.flatMap Sn.e)) (hL : L.length = i) (hj : j < L.length)
    (hc : W.cell? (ad.add (j * 4)) = some (.int .u64 x0) ∧ W.cell? ⟨(ad.add (j * 4)).block, (ad.add (j * 4)).off + 1, none⟩ = some (.int .u64 x1) ∧ W.cell? ⟨(ad.add (j * 4)).block, (ad.add (j * 4)).off + 2, none⟩ = some (.int .u64 x2) ∧ W.cell? ⟨(ad.add (j * 4)).block, (ad.add (j * 4)).off + 3, none⟩ = some x3) : W'.cell? (ad.add (j * 4)) = some (.int .u64 x0) ∧ W'.cell? ⟨(ad.add (j * 4)).block, (ad.add (j * 4)).off + 1, none⟩ = some (.int .u64 x1) ∧ W'.cell? ⟨(ad.add (j * 4)).block, (ad.add (j * 4)).off + 2, none⟩ = some (.int .u64 x2) ∧ W'.cell? ⟨(ad.add (j * 4)).block, (ad.add (j * 4)).off + 3, none⟩ = some x3 := by
  subst hL
  obtain ⟨A1, c1, hv1, _, _, h1⟩ := own_form h
  obtain ⟨A2, c2, hv2, _, _, h2⟩ := own_form h'
  injection hv1 with e1 _ e2
  injection hv2 with e3 _ e4
  subst e1 e3
  obtain ⟨a1, he1, p0, p1, p2, p3⟩ := sn_at h1 hj
  obtain ⟨a2, he2, r0, r1, r2, r3⟩ := sn_at h2 hj
  injection he1 with he1
  injection he2 with he2
  subst he1 he2
  obtain ⟨c0, c1, c2, c3⟩ := hc
  exact ⟨r0.trans (p0.symm.trans c0), r1.trans (p1.symm.trans c1), r2.trans (p2.symm.trans c2), r3.trans (p3.symm.trans c3)⟩
set_option maxRecDepth 100000 in
set_option maxHeartbeats 4000000 in
theorem walk_f (n : Nat) (l : List Bool) (lc : Nat) (la : Option Addr) (w : World) (hn : n < 256) (hl : Rd w 1 la l.length (l.flatMap blE)) (hlc : l.length ≤ lc) (hlm : lc ≤ 9223372036854775807) :
    Calls Try.prog 5 #[.int .u8 (n : Int), .bool false, .slice la l.length lc] w fun e w' => e = .returned (.bool true) ∧ Below w.heap.size w w' := by
  obtain ⟨i1, hi1, hy0, hy1, hy2⟩ := info_parts4 info_sn
  obtain ⟨m, hm⟩ : ∃ m : Nat, (n : Int) % 8 = (m : Int) := ⟨n % 8, by omega⟩
  have hm8 : m < 8 := by omega
  obtain ⟨N, hN⟩ : ∃ N : Nat, (2 : Int) + (m : Int) = (N : Int) := ⟨2 + m, by omega⟩
  have hN9 : N ≤ 9 := by omega
  go_enter Try.func5, Try.ntmps5
  go_wp2_with fail
  refine (awake11_any w).mono ?_
  rintro e wa ⟨rfl, xa⟩
  go_wp2_with fail
  refine (lg_new wa 1 (by decide) (by decide)).mono ?_
  rintro e w1 ⟨rfl, h1, hb1⟩
  have hsza := xa.size
  have m1 : Mine w.heap.size w w1 (fun k => k = wa.heap.size) := ⟨fun k hk => by omega, xa.next hb1, Nat.le_trans xa.size hb1.size⟩
  clear hb1
  generalize hg : wa.heap.size = g at *
  clear xa hg hsza wa
  go_wp2_with fail
  refine (bnew_any w1).mono ?_
  rintro e w2 ⟨rfl, hb2, x2⟩
  have W2 := wd_new (h1.below x2) (m1.next x2) hb2 m1.size
  clear h1 m1 x2 hb2
  generalize hk : w1.heap.size = k at *
  clear hk w1
  go_wp2_with fail
  refine (wd_begin W2).mono ?_
  rintro e w3 ⟨rfl, W3, _⟩
  rw [show begR 1 [] = .tuple #[.int .u64 1, .int .i64 0] from rfl]
  rw [show begL 1 [] = [1] from rfl] at W3
  clear W2
  have HM := wd_commit W3 1 (by decide)
  rw [show endE 1 [1] 1 = 0 from rfl, show endL 1 [1] 1 2 = [2] from rfl] at HM
  go_wp2_with fail
  refine (HM).mono ?_
  rintro e w7 ⟨rfl, W7, _⟩
  have W7 : Wd w.heap.size w w7 g (2 :: List.replicate 0 1) k 0 [] [] [] := W7
  clear HM W3
  obtain ⟨T, hT⟩ : ∃ T : List Tb, T = [] := ⟨_, rfl⟩
  obtain ⟨Q0, hQ0⟩ : ∃ Q0 : List (Value × List Nat), Q0 = [] := ⟨_, rfl⟩
  rw [← hT, ← hQ0] at W7
  have HT := Lib.hid hT
  have W7 := Lib.hid W7
  clear hT hQ0
  go_wp2_with fail
  clear hm hN
  go_loopw [13, 47] (fun sv iv wr => ∃ (i : Nat) (A : Option Addr) (c : Nat) (L : List Sn) (Q : List (Value × List Nat)), i ≤ N ∧ iv = .int .i64 (i : Int) ∧ sv = .slice A i c ∧ L.length = i ∧ Lok L ∧ Sall L Q ∧ wr.ownsRow w.heap.size 50 4 (.slice A i c) i (L.flatMap Sn.e) ∧ Wd w.heap.size w wr g (2 :: List.replicate i 1) k 0 T [] Q) (fun _ iv _ => N - (intOf iv).toNat)
  case atStart => exact ⟨0, none, 0, [], Q0, Nat.zero_le _, rfl, rfl, rfl, fun j h => absurd h (Nat.not_lt_zero _), fun s h => absurd h List.not_mem_nil, World.ownsRow_nil _ _ _ _, W7.out⟩
  case round =>
    obtain ⟨i, A, c, L, Q, hi, rfl, rfl, hLi, hLok, hall, ho, hW⟩ := hrel
    have HLI := Lib.hid hLi
    have HLO := Lib.hid hLok
    have HAL := Lib.hid hall
    clear hLi hLok hall
    by_cases hlt : i < N
    · have HBG := wd_begin hW
      rw [begS i (by omega), begT i (by omega)] at HBG
      go_wp2_with fail
      refine (HBG).mono ?_
      rintro e w8 ⟨rfl, W8, f8⟩
      have o8 := f8.own ho (by decide)
      clear HBG hW ho f8
      have HT := wd_take W8 (i + 2)
      rw [show 1 + (2 :: List.replicate (i + 1) 1).length = i + 3 by simp; omega] at HT
      obtain ⟨R, hR⟩ : ∃ R, others (runs 1 (2 :: List.replicate (i + 1) 1)) (i + 2) = R := ⟨_, rfl⟩
      have hR1 : 1 ∉ R := by rw [← hR]; exact not_one
      rw [hR] at HT
      obtain ⟨xm, hxm⟩ : ∃ xm, least R (i + 3) = xm := ⟨_, rfl⟩
      rw [hxm] at HT
      have HR1 := Lib.hid hR1
      clear hR hR1 hxm
      go_wp2_with fail
      refine (HT).mono ?_
      rintro e w9 ⟨v9, rfl, W9, x9⟩
      obtain ⟨A9, c9, rfl⟩ := W9.form (v := v9) (n := R.length) List.mem_cons_self rfl
      have o9 := own_below o8 x9
      have y9 : Below w9.heap.size w9 (w9.alloc (.cells #[.int .u64 ((i + 2 : Nat) : Int), .int .u64 (xm : Int), .int .u64 ((i + 3 : Nat) : Int), .slice A9 R.length c9] 50)) := (Below.refl _ _).al _
      have o10 := own_below o9 y9
      have W10 := W9.next y9
      have hsz := W10.size
      clear HT W8 x9 o8 o9 W9
      go_wp2_with (at_builtin; refine wpList_append_src _ rfl (.tmp 54) (.tmp 58) 38 38 rfl w.heap.size 50 _ _ 4 48 Try.underlying38 hi1 hy0 hy1 hy2 rfl _ _ _ rfl o10 _ 1 (Sn.e ⟨i + 2, xm, i + 3, R, A9, c9⟩) rfl (src_rd Try.underlying38 _ (rd_lit (by first | rfl | simp) rfl rfl) (by decide) (sn_one _)) (by simp only [maxLen]; omega) (by omega) hsz ?_; intro v11 w11 ho11 hg11 ha11; have f11 : FrT [50] w.heap.size _ w11 := FrT.of_fr (Fr.of_own (S := fun k => Value.ownBlock (.slice A i c) = some k) hg11 fun k e => e) (fun j hj => ⟨(o10.lt j hj).1, _, by simp, own_ty o10 hj⟩); have W11 := W10.other f11 (by decide); obtain ⟨A11, c11, hv11, _, _, _⟩ := own_form ho11; subst hv11; have HO11 := Lib.hid ho11; clear ho11 hg11 ha11)
      go_roundw
      case rel => exact ⟨i + 1, A11, c11, L ++ [⟨i + 2, xm, i + 3, R, A9, c9⟩], _, by omega, by go_num, rfl, by rw [List.length_append, HLI.out]; rfl, HLO.out.more _ (by rw [HLI.out]) (by rw [HLI.out]) HR1.out, fun s hs => by
        rcases List.mem_append.1 hs with hs | hs
        · exact List.mem_cons_of_mem _ (HAL.out s hs)
        · rw [List.mem_singleton] at hs; subst hs; exact List.mem_cons_self, by rw [List.flatMap_append]; simpa using HO11.out, W11⟩
      case measure => simp [intOf]; omega
    · have hiN : i = N := by omega
      subst hiN
      have hW0 : Wd w.heap.size w wr g (SA i 0) k 0 T [] Q := by rw [SA_zero]; exact hW
      clear hW
      go_wp2_with fail
      have HS0 := Lib.hid hW0
      have HO0 := Lib.hid ho
      clear hW0 ho
      go_loopw [16, 63] (fun fv iv wr => ∃ (j a la : Nat) (f : Bool) (T : List Tb), j ≤ i ∧ la ≤ j + 1 ∧ Ph f a j ∧ fv = .bool f ∧ iv = .int .i64 (j : Int) ∧ Out false T i a f ∧ wr.ownsRow w.heap.size 50 4 (.slice A i c) i (L.flatMap Sn.e) ∧ Wd w.heap.size w wr g (SA i a) k la T [] Q) (fun _ iv _ => i - (intOf iv).toNat)
      case atStart => exact ⟨0, 0, 0, true, T, Nat.zero_le _, by omega, ⟨Nat.le_refl _, fun h => absurd h (by decide), fun _ => rfl⟩, rfl, rfl, (by unfold Out; rw [if_neg (by decide), HT.out]; exact ⟨fun t h => absurd h List.not_mem_nil, fun t h => absurd h List.not_mem_nil, fun t h => absurd h List.not_mem_nil, rfl, by decide⟩), HO0.out, HS0.out⟩
      case round =>
        obtain ⟨j, a, la, f, T2, hj, hla, hPh, rfl, rfl, hout, ho, hW⟩ := hrel
        have HP := Lib.hid hPh
        have HU := Lib.hid hout
        clear hPh hout
        by_cases hlt : j < i
        · have hjL : j < L.length := by rw [HLI.out]; exact hlt
          obtain ⟨A', c', hv', _, _, hrd⟩ := own_form ho
          injection hv' with e1 _ e2
          subst e1 e2
          have HSN := HLO.out j hjL
          obtain ⟨ad, rfl, q0, q1, q2, q3⟩ := sn_at (by rw [HLI.out]; exact hrd) hjL
          have hmem := HAL.out _ (List.getElem_mem hjL)
          obtain ⟨s, hs⟩ : ∃ s, L[j] = s := ⟨_, rfl⟩
          rw [hs] at HSN q0 q1 q2 q3 hmem
          obtain ⟨sown, sxm, sxx, sR, sA, sc⟩ := s
          obtain ⟨rfl, rfl, hR1⟩ := HSN
          replace q0 : wr.cell? (ad.add (j * 4)) = some (.int .u64 ((j + 2 : Nat) : Int)) := q0
          replace q1 : wr.cell? ⟨(ad.add (j * 4)).block, (ad.add (j * 4)).off + 1, none⟩ = some (.int .u64 (sxm : Int)) := q1
          replace q2 : wr.cell? ⟨(ad.add (j * 4)).block, (ad.add (j * 4)).off + 2, none⟩ = some (.int .u64 ((j + 3 : Nat) : Int)) := q2
          replace q3 : wr.cell? ⟨(ad.add (j * 4)).block, (ad.add (j * 4)).off + 3, none⟩ = some (.slice sA sR.length sc) := q3
          replace hmem : (Value.slice sA sR.length sc, sR) ∈ Q := hmem
          replace hR1 : 1 ∉ sR := hR1
          have ix := idx_sn ad i c j hlt
          have HMEM := Lib.hid hmem
          have HRR := Lib.hid hR1
          obtain ⟨ow, how⟩ : ∃ ow : Nat, j + 2 = ow := ⟨_, rfl⟩
          obtain ⟨xx, hxx⟩ : ∃ xx : Nat, j + 3 = xx := ⟨_, rfl⟩
          rw [how] at q0
          rw [hxx] at q2
          have HOW := Lib.hid how
          have HXX := Lib.hid hxx
          clear hs hrd hmem hR1 how hxx
          cases f with
          | false =>
            have hCr : Cr T2 i a false := by have := HU.out; unfold Out at this; rw [if_neg (by decide)] at this; exact this
            have hcr := hCr.no (HP.out.2.1 rfl) hlt xx sR
            rw [HOW.out] at hcr
            have x0 : Below wr.heap.size wr wr.drew := below_n wr 1
            have W5 : Wd w.heap.size w wr.drew g (SA i a) k la T2 [] Q := hW.next x0
            have o5 := own_below ho x0
            have hSd : wr.drew.cell? (ad.add (j * 4)) = some (.int .u64 (ow : Int)) ∧ wr.drew.cell? ⟨(ad.add (j * 4)).block, (ad.add (j * 4)).off + 1, none⟩ = some (.int .u64 (sxm : Int)) ∧ wr.drew.cell? ⟨(ad.add (j * 4)).block, (ad.add (j * 4)).off + 2, none⟩ = some (.int .u64 (xx : Int)) ∧ wr.drew.cell? ⟨(ad.add (j * 4)).block, (ad.add (j * 4)).off + 3, none⟩ = some (.slice sA sR.length sc) := ⟨cells_below x0 (show wr.cell? (ad.add (j * 4)) = some (.int .u64 (ow : Int)) ∧ wr.cell? ⟨(ad.add (j * 4)).block, (ad.add (j * 4)).off + 1, none⟩ = some (.int .u64 (sxm : Int)) ∧ wr.cell? ⟨(ad.add (j * 4)).block, (ad.add (j * 4)).off + 2, none⟩ = some (.int .u64 (xx : Int)) ∧ wr.cell? ⟨(ad.add (j * 4)).block, (ad.add (j * 4)).off + 3, none⟩ = some (.slice sA sR.length sc) from ⟨q0, q1, q2, q3⟩).1, cells_below x0 (show wr.cell? (ad.add (j * 4)) = some (.int .u64 (ow : Int)) ∧ wr.cell? ⟨(ad.add (j * 4)).block, (ad.add (j * 4)).off + 1, none⟩ = some (.int .u64 (sxm : Int)) ∧ wr.cell? ⟨(ad.add (j * 4)).block, (ad.add (j * 4)).off + 2, none⟩ = some (.int .u64 (xx : Int)) ∧ wr.cell? ⟨(ad.add (j * 4)).block, (ad.add (j * 4)).off + 3, none⟩ = some (.slice sA sR.length sc) from ⟨q0, q1, q2, q3⟩).2.1, cells_below x0 (show wr.cell? (ad.add (j * 4)) = some (.int .u64 (ow : Int)) ∧ wr.cell? ⟨(ad.add (j * 4)).block, (ad.add (j * 4)).off + 1, none⟩ = some (.int .u64 (sxm : Int)) ∧ wr.cell? ⟨(ad.add (j * 4)).block, (ad.add (j * 4)).off + 2, none⟩ = some (.int .u64 (xx : Int)) ∧ wr.cell? ⟨(ad.add (j * 4)).block, (ad.add (j * 4)).off + 3, none⟩ = some (.slice sA sR.length sc) from ⟨q0, q1, q2, q3⟩).2.2.1, cells_below x0 (show wr.cell? (ad.add (j * 4)) = some (.int .u64 (ow : Int)) ∧ wr.cell? ⟨(ad.add (j * 4)).block, (ad.add (j * 4)).off + 1, none⟩ = some (.int .u64 (sxm : Int)) ∧ wr.cell? ⟨(ad.add (j * 4)).block, (ad.add (j * 4)).off + 2, none⟩ = some (.int .u64 (xx : Int)) ∧ wr.cell? ⟨(ad.add (j * 4)).block, (ad.add (j * 4)).off + 3, none⟩ = some (.slice sA sR.length sc) from ⟨q0, q1, q2, q3⟩).2.2.2⟩
            have HONE := Lib.hid (one_ex wr.drew)
            have HC1 := Lib.hid (fun V q (hV : Wd w.heap.size w V g (SA i a) k la T2 [] Q) hL => wd_crNo hV ow sxm xx wr.drew.heap.size q 11 (.slice sA sR.length sc) sR ⟨#[116]⟩ HMEM.out (by omega) (by decide) hL hcr (by decide) _ _ _ rfl rfl rfl)
            clear hW
            go_upto_region 25 with fail
            go_region_held3 (fun w' => w'.cell? (ad.add (j * 4)) = some (.int .u64 (ow : Int)) ∧ w'.cell? ⟨(ad.add (j * 4)).block, (ad.add (j * 4)).off + 1, none⟩ = some (.int .u64 (sxm : Int)) ∧ w'.cell? ⟨(ad.add (j * 4)).block, (ad.add (j * 4)).off + 2, none⟩ = some (.int .u64 (xx : Int)) ∧ w'.cell? ⟨(ad.add (j * 4)).block, (ad.add (j * 4)).off + 3, none⟩ = some (.slice sA sR.length sc)) (first | (with_reducible assumption))
              (first
              | (go_at_call 35; (with_reducible refine (HONE.out).mono ?_); rintro e w6 ⟨q6, rfl, oc6, x6⟩; have W6 := W5.next x6; have o6 := own_below o5 x6; have hS6 : w6.cell? (ad.add (j * 4)) = some (.int .u64 (ow : Int)) ∧ w6.cell? ⟨(ad.add (j * 4)).block, (ad.add (j * 4)).off + 1, none⟩ = some (.int .u64 (sxm : Int)) ∧ w6.cell? ⟨(ad.add (j * 4)).block, (ad.add (j * 4)).off + 2, none⟩ = some (.int .u64 (xx : Int)) ∧ w6.cell? ⟨(ad.add (j * 4)).block, (ad.add (j * 4)).off + 3, none⟩ = some (.slice sA sR.length sc) := ⟨cells_below x6 hSd.1, cells_below x6 hSd.2.1, cells_below x6 hSd.2.2.1, cells_below x6 hSd.2.2.2⟩)
              | (go_at_call 20; (with_reducible refine (HC1.out w6 q6 W6 oc6).mono ?_); rintro e w7 ⟨rfl, W7, f7⟩; have o7 := f7.own o6 (by decide); have hS7 : w7.cell? (ad.add (j * 4)) = some (.int .u64 (ow : Int)) ∧ w7.cell? ⟨(ad.add (j * 4)).block, (ad.add (j * 4)).off + 1, none⟩ = some (.int .u64 (sxm : Int)) ∧ w7.cell? ⟨(ad.add (j * 4)).block, (ad.add (j * 4)).off + 2, none⟩ = some (.int .u64 (xx : Int)) ∧ w7.cell? ⟨(ad.add (j * 4)).block, (ad.add (j * 4)).off + 3, none⟩ = some (.slice sA sR.length sc) := row_keep o6 o7 HLI.out hjL hS6))
            clear HONE HC1 W5 o5 W6 o6 oc6 x6 x0 f7
            clear ho q0 q1 q2 q3 hSd hS6 hS7
            go_wp2_with fail
            go_roundw
            case rel => exact ⟨j + 1, a, la, false, T2, by omega, by omega, ⟨Nat.le_succ_of_le HP.out.1, fun _ => Nat.lt_succ_of_le HP.out.1, fun h => absurd h (by decide)⟩, rfl, by go_num, HU.out, o7, W7⟩
            case measure => simp [intOf]; omega
          | true =>
            have haj := HP.out.2.2 rfl
            subst haj
            have hCr : Cr T2 i a true := by have := HU.out; unfold Out at this; rw [if_neg (by decide)] at this; exact this
            have hcr := hCr.yes hlt (by omega) xx sR
            rw [HOW.out] at hcr
            have x0 : Below wr.heap.size wr wr.drew := below_n wr 1
            have W5 : Wd w.heap.size w wr.drew g (SA i a) k la T2 [] Q := hW.next x0
            have o5 := own_below ho x0
            have hSd : wr.drew.cell? (ad.add (a * 4)) = some (.int .u64 (ow : Int)) ∧ wr.drew.cell? ⟨(ad.add (a * 4)).block, (ad.add (a * 4)).off + 1, none⟩ = some (.int .u64 (sxm : Int)) ∧ wr.drew.cell? ⟨(ad.add (a * 4)).block, (ad.add (a * 4)).off + 2, none⟩ = some (.int .u64 (xx : Int)) ∧ wr.drew.cell? ⟨(ad.add (a * 4)).block, (ad.add (a * 4)).off + 3, none⟩ = some (.slice sA sR.length sc) := ⟨cells_below x0 (show wr.cell? (ad.add (a * 4)) = some (.int .u64 (ow : Int)) ∧ wr.cell? ⟨(ad.add (a * 4)).block, (ad.add (a * 4)).off + 1, none⟩ = some (.int .u64 (sxm : Int)) ∧ wr.cell? ⟨(ad.add (a * 4)).block, (ad.add (a * 4)).off + 2, none⟩ = some (.int .u64 (xx : Int)) ∧ wr.cell? ⟨(ad.add (a * 4)).block, (ad.add (a * 4)).off + 3, none⟩ = some (.slice sA sR.length sc) from ⟨q0, q1, q2, q3⟩).1, cells_below x0 (show wr.cell? (ad.add (a * 4)) = some (.int .u64 (ow : Int)) ∧ wr.cell? ⟨(ad.add (a * 4)).block, (ad.add (a * 4)).off + 1, none⟩ = some (.int .u64 (sxm : Int)) ∧ wr.cell? ⟨(ad.add (a * 4)).block, (ad.add (a * 4)).off + 2, none⟩ = some (.int .u64 (xx : Int)) ∧ wr.cell? ⟨(ad.add (a * 4)).block, (ad.add (a * 4)).off + 3, none⟩ = some (.slice sA sR.length sc) from ⟨q0, q1, q2, q3⟩).2.1, cells_below x0 (show wr.cell? (ad.add (a * 4)) = some (.int .u64 (ow : Int)) ∧ wr.cell? ⟨(ad.add (a * 4)).block, (ad.add (a * 4)).off + 1, none⟩ = some (.int .u64 (sxm : Int)) ∧ wr.cell? ⟨(ad.add (a * 4)).block, (ad.add (a * 4)).off + 2, none⟩ = some (.int .u64 (xx : Int)) ∧ wr.cell? ⟨(ad.add (a * 4)).block, (ad.add (a * 4)).off + 3, none⟩ = some (.slice sA sR.length sc) from ⟨q0, q1, q2, q3⟩).2.2.1, cells_below x0 (show wr.cell? (ad.add (a * 4)) = some (.int .u64 (ow : Int)) ∧ wr.cell? ⟨(ad.add (a * 4)).block, (ad.add (a * 4)).off + 1, none⟩ = some (.int .u64 (sxm : Int)) ∧ wr.cell? ⟨(ad.add (a * 4)).block, (ad.add (a * 4)).off + 2, none⟩ = some (.int .u64 (xx : Int)) ∧ wr.cell? ⟨(ad.add (a * 4)).block, (ad.add (a * 4)).off + 3, none⟩ = some (.slice sA sR.length sc) from ⟨q0, q1, q2, q3⟩).2.2.2⟩
            have HONE := Lib.hid (one_ex wr.drew)
            have HC1 := Lib.hid (fun V q (hV : Wd w.heap.size w V g (SA i a) k la T2 [] Q) hL => wd_crOK hV ow sxm xx wr.drew.heap.size q (.slice sA sR.length sc) sR ⟨#[116]⟩ HMEM.out (by omega) (by decide) hL hcr _ _ _ rfl rfl rfl _ rfl)
            clear hW
            go_upto_region 25 with fail
            go_region_held3 (fun w' => w'.cell? (ad.add (a * 4)) = some (.int .u64 (ow : Int)) ∧ w'.cell? ⟨(ad.add (a * 4)).block, (ad.add (a * 4)).off + 1, none⟩ = some (.int .u64 (sxm : Int)) ∧ w'.cell? ⟨(ad.add (a * 4)).block, (ad.add (a * 4)).off + 2, none⟩ = some (.int .u64 (xx : Int)) ∧ w'.cell? ⟨(ad.add (a * 4)).block, (ad.add (a * 4)).off + 3, none⟩ = some (.slice sA sR.length sc)) (first | (with_reducible assumption))
              (first
              | (go_at_call 35; (with_reducible refine (HONE.out).mono ?_); rintro e w6 ⟨q6, rfl, oc6, x6⟩; have W6 := W5.next x6; have o6 := own_below o5 x6; have hS6 : w6.cell? (ad.add (a * 4)) = some (.int .u64 (ow : Int)) ∧ w6.cell? ⟨(ad.add (a * 4)).block, (ad.add (a * 4)).off + 1, none⟩ = some (.int .u64 (sxm : Int)) ∧ w6.cell? ⟨(ad.add (a * 4)).block, (ad.add (a * 4)).off + 2, none⟩ = some (.int .u64 (xx : Int)) ∧ w6.cell? ⟨(ad.add (a * 4)).block, (ad.add (a * 4)).off + 3, none⟩ = some (.slice sA sR.length sc) := ⟨cells_below x6 hSd.1, cells_below x6 hSd.2.1, cells_below x6 hSd.2.2.1, cells_below x6 hSd.2.2.2⟩)
              | (go_at_call 20; (with_reducible refine (HC1.out w6 q6 W6 oc6).mono ?_); rintro e w7 ⟨rfl, ⟨bt, cv, W7⟩, f7⟩; have o7 := f7.own o6 (by decide); have hS7 : w7.cell? (ad.add (a * 4)) = some (.int .u64 (ow : Int)) ∧ w7.cell? ⟨(ad.add (a * 4)).block, (ad.add (a * 4)).off + 1, none⟩ = some (.int .u64 (sxm : Int)) ∧ w7.cell? ⟨(ad.add (a * 4)).block, (ad.add (a * 4)).off + 2, none⟩ = some (.int .u64 (xx : Int)) ∧ w7.cell? ⟨(ad.add (a * 4)).block, (ad.add (a * 4)).off + 3, none⟩ = some (.slice sA sR.length sc) := row_keep o6 o7 HLI.out hjL hS6))
            clear HONE HC1 W5 o5 W6 o6 oc6 x6 x0 f7
            clear ho q0 q1 q2 q3
            have HU2 := Lib.hid (show ∀ b : Bool, Out false (T2 ++ [⟨bt, ⟨la + 1, ⟨#[116]⟩, ow, 0⟩, [coA], cv⟩]) i (if b then a + 1 else a) b from fun b => by unfold Out; rw [if_neg (by decide)]; exact hCr.put _ rfl rfl (by rw [HOW.out]) b)
            have p0 := hS7.1
            clear hSd hS6 hS7 hCr
            by_cases hab : a < l.length
            · obtain ⟨ab, hab', c0⟩ := bl_at (hl.below W7.below') hab
              subst hab'
              have ixb := idx_bl ab l.length lc a hab
              obtain ⟨bv, hbv⟩ : ∃ b, l[a] = b := ⟨_, rfl⟩
              rw [hbv] at c0
              have hab2 : ((a : Int) < (l.length : Int)) := by omega
              clear hbv
              cases bv with
              | false =>
                go_wp2_with fail
                go_roundw
                case rel => exact ⟨a + 1, a, la + 1, false, T2 ++ [⟨bt, ⟨la + 1, ⟨#[116]⟩, ow, 0⟩, [coA], cv⟩], by omega, by omega, ⟨Nat.le_succ _, fun _ => Nat.lt_succ_self _, fun h => absurd h (by decide)⟩, rfl, by go_num, HU2.out false, o7, W7⟩
                case measure => simp [intOf]; omega
              | true =>
                have HAB := wd_abort W7 ow (by have := HOW.out; omega)
                have hen : endL 1 (SA i a) ow 3 = SA i (a + 1) := by rw [← HOW.out]; exact SA_end hlt
                rw [hen] at HAB
                obtain ⟨ev, hev⟩ : ∃ x, endE 1 (SA i a) ow = x := ⟨_, rfl⟩
                rw [hev] at HAB
                clear hen hev
                go_wp2_with fail
                refine (HAB).mono ?_
                rintro e w9 ⟨rfl, W9, f9⟩
                have o9 := f9.own o7 (by decide)
                clear HAB W7 o7 f9 p0 c0 ixb
                go_wp2_with fail
                go_roundw
                case rel => exact ⟨a + 1, a + 1, la + 1, true, T2 ++ [⟨bt, ⟨la + 1, ⟨#[116]⟩, ow, 0⟩, [coA], cv⟩], by omega, by omega, ⟨Nat.le_refl _, fun h => absurd h (by decide), fun _ => rfl⟩, rfl, by go_num, HU2.out true, o9, W9⟩
                case measure => simp [intOf]; omega
            · have hab2 : ¬ ((a : Int) < (l.length : Int)) := by omega
              go_wp2_with fail
              go_roundw
              case rel => exact ⟨a + 1, a, la + 1, false, T2 ++ [⟨bt, ⟨la + 1, ⟨#[116]⟩, ow, 0⟩, [coA], cv⟩], by omega, by omega, ⟨Nat.le_succ _, fun _ => Nat.lt_succ_self _, fun h => absurd h (by decide)⟩, rfl, by go_num, HU2.out false, o7, W7⟩
              case measure => simp [intOf]; omega
        · have hjN : j = i := by omega
          go_wp2_with fail
          go_ret
          exact ⟨rfl, hW.below'⟩
set_option maxRecDepth 100000 in
set_option maxHeartbeats 4000000 in
theorem walk_t (n : Nat) (l : List Bool) (lc : Nat) (la : Option Addr) (w : World) (hn : n < 256) (hl : Rd w 1 la l.length (l.flatMap blE)) (hlc : l.length ≤ lc) (hlm : lc ≤ 9223372036854775807) :
    Calls Try.prog 5 #[.int .u8 (n : Int), .bool true, .slice la l.length lc] w fun e w' => e = .returned (.bool true) ∧ Below w.heap.size w w' := by
  obtain ⟨i1, hi1, hy0, hy1, hy2⟩ := info_parts4 info_sn
  obtain ⟨m, hm⟩ : ∃ m : Nat, (n : Int) % 8 = (m : Int) := ⟨n % 8, by omega⟩
  have hm8 : m < 8 := by omega
  obtain ⟨N, hN⟩ : ∃ N : Nat, (2 : Int) + (m : Int) = (N : Int) := ⟨2 + m, by omega⟩
  have hN9 : N ≤ 9 := by omega
  go_enter Try.func5, Try.ntmps5
  go_wp2_with fail
  refine (awake11_any w).mono ?_
  rintro e wa ⟨rfl, xa⟩
  go_wp2_with fail
  refine (lg_new wa 1 (by decide) (by decide)).mono ?_
  rintro e w1 ⟨rfl, h1, hb1⟩
  have hsza := xa.size
  have m1 : Mine w.heap.size w w1 (fun k => k = wa.heap.size) := ⟨fun k hk => by omega, xa.next hb1, Nat.le_trans xa.size hb1.size⟩
  clear hb1
  generalize hg : wa.heap.size = g at *
  clear xa hg hsza wa
  go_wp2_with fail
  refine (bnew_any w1).mono ?_
  rintro e w2 ⟨rfl, hb2, x2⟩
  have W2 := wd_new (h1.below x2) (m1.next x2) hb2 m1.size
  clear h1 m1 x2 hb2
  generalize hk : w1.heap.size = k at *
  clear hk w1
  go_wp2_with fail
  refine (wd_begin W2).mono ?_
  rintro e w3 ⟨rfl, W3, _⟩
  rw [show begR 1 [] = .tuple #[.int .u64 1, .int .i64 0] from rfl]
  rw [show begL 1 [] = [1] from rfl] at W3
  clear W2
  have HT := wd_take W3 1
  rw [show runs 1 [1] = [1] from rfl, show others [1] 1 = [] by decide, show least [] (1 + [1].length) = 2 from rfl, show 1 + [1].length = 2 from rfl] at HT
  go_wp2_with fail
  refine (HT).mono ?_
  rintro e w4 ⟨v4, rfl, W4, _⟩
  obtain ⟨A4, c4, rfl⟩ := W4.form (v := v4) (n := 0) List.mem_cons_self rfl
  clear HT W3
  go_wp2_with fail
  refine (one_ex w4).mono ?_
  rintro e w5 ⟨q5, rfl, o5, x5⟩
  have W5 := W4.next x5
  have hcr := crE_all [1] 1 2 [] ⟨#[116]⟩ name_t [] (fun t h => absurd h List.not_mem_nil)
  have HC := wd_crOK W5 1 2 2 w4.heap.size q5 (.slice A4 0 c4) [] ⟨#[116]⟩ List.mem_cons_self (by decide) (by decide) o5 hcr 1 2 2 rfl rfl rfl 1 rfl
  clear hcr W4 x5 o5
  go_wp2_with fail
  refine (HC).mono ?_
  rintro e w6 ⟨rfl, ⟨tb, cv, W6⟩, _⟩
  clear HC W5
  have HM := wd_commit W6 1 (by decide)
  rw [show endE 1 [1] 1 = 0 from rfl, show endL 1 [1] 1 2 = [2] from rfl] at HM
  go_wp2_with fail
  refine (HM).mono ?_
  rintro e w7 ⟨rfl, W7, _⟩
  have W7 : Wd w.heap.size w w7 g (2 :: List.replicate 0 1) k 1 [⟨tb, ⟨1, ⟨#[116]⟩, 1, 0⟩, [coA], cv⟩] [] [(.slice A4 0 c4, [])] := W7
  clear HM W6
  obtain ⟨T, hT⟩ : ∃ T : List Tb, T = [⟨tb, ⟨1, ⟨#[116]⟩, 1, 0⟩, [coA], cv⟩] := ⟨_, rfl⟩
  obtain ⟨Q0, hQ0⟩ : ∃ Q0 : List (Value × List Nat), Q0 = [(.slice A4 0 c4, [])] := ⟨_, rfl⟩
  rw [← hT, ← hQ0] at W7
  have HT := Lib.hid hT
  have W7 := Lib.hid W7
  clear hT hQ0
  go_wp2_with fail
  clear hm hN
  go_loopw [13, 47] (fun sv iv wr => ∃ (i : Nat) (A : Option Addr) (c : Nat) (L : List Sn) (Q : List (Value × List Nat)), i ≤ N ∧ iv = .int .i64 (i : Int) ∧ sv = .slice A i c ∧ L.length = i ∧ Lok L ∧ Sall L Q ∧ wr.ownsRow w.heap.size 50 4 (.slice A i c) i (L.flatMap Sn.e) ∧ Wd w.heap.size w wr g (2 :: List.replicate i 1) k 1 T [] Q) (fun _ iv _ => N - (intOf iv).toNat)
  case atStart => exact ⟨0, none, 0, [], Q0, Nat.zero_le _, rfl, rfl, rfl, fun j h => absurd h (Nat.not_lt_zero _), fun s h => absurd h List.not_mem_nil, World.ownsRow_nil _ _ _ _, W7.out⟩
  case round =>
    obtain ⟨i, A, c, L, Q, hi, rfl, rfl, hLi, hLok, hall, ho, hW⟩ := hrel
    have HLI := Lib.hid hLi
    have HLO := Lib.hid hLok
    have HAL := Lib.hid hall
    clear hLi hLok hall
    by_cases hlt : i < N
    · have HBG := wd_begin hW
      rw [begS i (by omega), begT i (by omega)] at HBG
      go_wp2_with fail
      refine (HBG).mono ?_
      rintro e w8 ⟨rfl, W8, f8⟩
      have o8 := f8.own ho (by decide)
      clear HBG hW ho f8
      have HT := wd_take W8 (i + 2)
      rw [show 1 + (2 :: List.replicate (i + 1) 1).length = i + 3 by simp; omega] at HT
      obtain ⟨R, hR⟩ : ∃ R, others (runs 1 (2 :: List.replicate (i + 1) 1)) (i + 2) = R := ⟨_, rfl⟩
      have hR1 : 1 ∉ R := by rw [← hR]; exact not_one
      rw [hR] at HT
      obtain ⟨xm, hxm⟩ : ∃ xm, least R (i + 3) = xm := ⟨_, rfl⟩
      rw [hxm] at HT
      have HR1 := Lib.hid hR1
      clear hR hR1 hxm
      go_wp2_with fail
      refine (HT).mono ?_
      rintro e w9 ⟨v9, rfl, W9, x9⟩
      obtain ⟨A9, c9, rfl⟩ := W9.form (v := v9) (n := R.length) List.mem_cons_self rfl
      have o9 := own_below o8 x9
      have y9 : Below w9.heap.size w9 (w9.alloc (.cells #[.int .u64 ((i + 2 : Nat) : Int), .int .u64 (xm : Int), .int .u64 ((i + 3 : Nat) : Int), .slice A9 R.length c9] 50)) := (Below.refl _ _).al _
      have o10 := own_below o9 y9
      have W10 := W9.next y9
      have hsz := W10.size
      clear HT W8 x9 o8 o9 W9
      go_wp2_with (at_builtin; refine wpList_append_src _ rfl (.tmp 54) (.tmp 58) 38 38 rfl w.heap.size 50 _ _ 4 48 Try.underlying38 hi1 hy0 hy1 hy2 rfl _ _ _ rfl o10 _ 1 (Sn.e ⟨i + 2, xm, i + 3, R, A9, c9⟩) rfl (src_rd Try.underlying38 _ (rd_lit (by first | rfl | simp) rfl rfl) (by decide) (sn_one _)) (by simp only [maxLen]; omega) (by omega) hsz ?_; intro v11 w11 ho11 hg11 ha11; have f11 : FrT [50] w.heap.size _ w11 := FrT.of_fr (Fr.of_own (S := fun k => Value.ownBlock (.slice A i c) = some k) hg11 fun k e => e) (fun j hj => ⟨(o10.lt j hj).1, _, by simp, own_ty o10 hj⟩); have W11 := W10.other f11 (by decide); obtain ⟨A11, c11, hv11, _, _, _⟩ := own_form ho11; subst hv11; have HO11 := Lib.hid ho11; clear ho11 hg11 ha11)
      go_roundw
      case rel => exact ⟨i + 1, A11, c11, L ++ [⟨i + 2, xm, i + 3, R, A9, c9⟩], _, by omega, by go_num, rfl, by rw [List.length_append, HLI.out]; rfl, HLO.out.more _ (by rw [HLI.out]) (by rw [HLI.out]) HR1.out, fun s hs => by
        rcases List.mem_append.1 hs with hs | hs
        · exact List.mem_cons_of_mem _ (HAL.out s hs)
        · rw [List.mem_singleton] at hs; subst hs; exact List.mem_cons_self, by rw [List.flatMap_append]; simpa using HO11.out, W11⟩
      case measure => simp [intOf]; omega
    · have hiN : i = N := by omega
      subst hiN
      have hW0 : Wd w.heap.size w wr g (SA i 0) k 1 T [] Q := by rw [SA_zero]; exact hW
      clear hW
      go_wp2_with fail
      have HS0 := Lib.hid hW0
      have HO0 := Lib.hid ho
      clear hW0 ho
      go_loopw [16, 63] (fun fv iv wr => ∃ (j a la : Nat) (f : Bool) (T : List Tb), j ≤ i ∧ la ≤ j + 1 ∧ Ph f a j ∧ fv = .bool f ∧ iv = .int .i64 (j : Int) ∧ Out true T i a f ∧ wr.ownsRow w.heap.size 50 4 (.slice A i c) i (L.flatMap Sn.e) ∧ Wd w.heap.size w wr g (SA i a) k la T [] Q) (fun _ iv _ => i - (intOf iv).toNat)
      case atStart => exact ⟨0, 0, 1, true, T, Nat.zero_le _, by omega, ⟨Nat.le_refl _, fun h => absurd h (by decide), fun _ => rfl⟩, rfl, rfl, (by unfold Out; rw [if_pos rfl]; exact ⟨_, HT.out, rfl, rfl, fun _ => .inl rfl, fun h => absurd h (by decide)⟩), HO0.out, HS0.out⟩
      case round =>
        obtain ⟨j, a, la, f, T2, hj, hla, hPh, rfl, rfl, hout, ho, hW⟩ := hrel
        have HP := Lib.hid hPh
        have HU := Lib.hid hout
        clear hPh hout
        by_cases hlt : j < i
        · have hjL : j < L.length := by rw [HLI.out]; exact hlt
          obtain ⟨A', c', hv', _, _, hrd⟩ := own_form ho
          injection hv' with e1 _ e2
          subst e1 e2
          have HSN := HLO.out j hjL
          obtain ⟨ad, rfl, q0, q1, q2, q3⟩ := sn_at (by rw [HLI.out]; exact hrd) hjL
          have hmem := HAL.out _ (List.getElem_mem hjL)
          obtain ⟨s, hs⟩ : ∃ s, L[j] = s := ⟨_, rfl⟩
          rw [hs] at HSN q0 q1 q2 q3 hmem
          obtain ⟨sown, sxm, sxx, sR, sA, sc⟩ := s
          obtain ⟨rfl, rfl, hR1⟩ := HSN
          replace q0 : wr.cell? (ad.add (j * 4)) = some (.int .u64 ((j + 2 : Nat) : Int)) := q0
          replace q1 : wr.cell? ⟨(ad.add (j * 4)).block, (ad.add (j * 4)).off + 1, none⟩ = some (.int .u64 (sxm : Int)) := q1
          replace q2 : wr.cell? ⟨(ad.add (j * 4)).block, (ad.add (j * 4)).off + 2, none⟩ = some (.int .u64 ((j + 3 : Nat) : Int)) := q2
          replace q3 : wr.cell? ⟨(ad.add (j * 4)).block, (ad.add (j * 4)).off + 3, none⟩ = some (.slice sA sR.length sc) := q3
          replace hmem : (Value.slice sA sR.length sc, sR) ∈ Q := hmem
          replace hR1 : 1 ∉ sR := hR1
          have ix := idx_sn ad i c j hlt
          have HMEM := Lib.hid hmem
          have HRR := Lib.hid hR1
          obtain ⟨ow, how⟩ : ∃ ow : Nat, j + 2 = ow := ⟨_, rfl⟩
          obtain ⟨xx, hxx⟩ : ∃ xx : Nat, j + 3 = xx := ⟨_, rfl⟩
          rw [how] at q0
          rw [hxx] at q2
          have HOW := Lib.hid how
          have HXX := Lib.hid hxx
          clear hs hrd hmem hR1 how hxx
          cases f with
          | false =>
            obtain ⟨t, hT2, hDr⟩ : ∃ t, T2 = [t] ∧ Dr t i a false := by have := HU.out; unfold Out at this; rw [if_pos rfl] at this; exact this
            subst hT2
            have HDR := Lib.hid hDr
            have HC := wd_drNo hW ow sxm xx (.slice sA sR.length sc) sR ⟨#[116]⟩ t HMEM.out (by decide) (by rw [← HOW.out]; exact hDr.find HP.out.1 HP.out.2.1 hlt xx sR (by have := HXX.out; omega) HRR.out) (by rw [← HOW.out]; exact hDr.free HP.out.1 HP.out.2.1 hlt xx sR (by have := HXX.out; omega) HRR.out) _ _ _ rfl rfl rfl
            clear hDr
            go_wp2_with fail
            refine (HC).mono ?_
            rintro e w6 ⟨rfl, W6, f6⟩
            have o6 := f6.own ho (by decide)
            clear HC hW ho q0 q1 q2 q3 f6
            go_wp2_with fail
            go_roundw
            case rel => exact ⟨j + 1, a, la, false, [t], by omega, by omega, ⟨Nat.le_succ_of_le HP.out.1, fun _ => Nat.lt_succ_of_le HP.out.1, fun h => absurd h (by decide)⟩, rfl, by go_num, HU.out, o6, W6⟩
            case measure => simp [intOf]; omega
          | true =>
            have haj := HP.out.2.2 rfl
            subst haj
            obtain ⟨t, hT2, hDr⟩ : ∃ t, T2 = [t] ∧ Dr t i a true := by have := HU.out; unfold Out at this; rw [if_pos rfl] at this; exact this
            subst hT2
            have HDR := Lib.hid hDr
            have HC := wd_drOK hW ow sxm xx (.slice sA sR.length sc) sR ⟨#[116]⟩ t HMEM.out (by decide) (by rw [← HOW.out]; exact hDr.find HP.out.1 HP.out.2.1 hlt xx sR (by have := HXX.out; omega) HRR.out) (by rw [← HOW.out]; exact hDr.free HP.out.1 HP.out.2.1 hlt xx sR (by have := HXX.out; omega) HRR.out) _ _ _ rfl rfl rfl
            obtain ⟨tid, htid⟩ : ∃ x, t.e.id = x := ⟨_, rfl⟩
            rw [htid] at HC
            clear hDr htid
            go_wp2_with fail
            refine (HC).mono ?_
            rintro e w7 ⟨rfl, W7, f7⟩
            have o7 := f7.own ho (by decide)
            have W7 : Wd w.heap.size w w7 g (SA i a) k la [t.st [t.b] ow] [] Q := W7
            have HU2 := Lib.hid (show ∀ b : Bool, Out true [t.st [t.b] ow] i (if b then a + 1 else a) b from fun b => by unfold Out; rw [if_pos rfl]; exact ⟨_, rfl, by rw [← HOW.out]; exact HDR.out.put b⟩)
            have hla2 : la ≤ a + 1 := hla
            clear HC hW ho q0 q1 q2 q3
            obtain ⟨A', c', hv', _, _, hrd⟩ := own_form o7
            injection hv' with e1 _ e2
            subst e1 e2
            obtain ⟨ad', had', p0, p1, p2, p3⟩ := sn_at (by rw [HLI.out]; exact hrd) hjL
            injection had' with had'
            subst had'
            have hLj := HLO.out a hjL
            rw [hLj.1, HOW.out] at p0
            clear p1 p2 p3 hLj hrd
            by_cases hab : a < l.length
            · obtain ⟨ab, hab', c0⟩ := bl_at (hl.below W7.below') hab
              subst hab'
              have ixb := idx_bl ab l.length lc a hab
              obtain ⟨bv, hbv⟩ : ∃ b, l[a] = b := ⟨_, rfl⟩
              rw [hbv] at c0
              have hab2 : ((a : Int) < (l.length : Int)) := by omega
              clear hbv
              cases bv with
              | false =>
                go_wp2_with fail
                go_roundw
                case rel => exact ⟨a + 1, a, la, false, [t.st [t.b] ow], by omega, by omega, ⟨Nat.le_succ _, fun _ => Nat.lt_succ_self _, fun h => absurd h (by decide)⟩, rfl, by go_num, HU2.out false, o7, W7⟩
                case measure => simp [intOf]; omega
              | true =>
                have HAB := wd_abort W7 ow (by have := HOW.out; omega)
                have hen : endL 1 (SA i a) ow 3 = SA i (a + 1) := by rw [← HOW.out]; exact SA_end hlt
                rw [hen] at HAB
                obtain ⟨ev, hev⟩ : ∃ x, endE 1 (SA i a) ow = x := ⟨_, rfl⟩
                rw [hev] at HAB
                clear hen hev
                go_wp2_with fail
                refine (HAB).mono ?_
                rintro e w9 ⟨rfl, W9, f9⟩
                have o9 := f9.own o7 (by decide)
                clear HAB W7 o7 f9 p0 c0 ixb
                go_wp2_with fail
                go_roundw
                case rel => exact ⟨a + 1, a + 1, la, true, [t.st [t.b] ow], by omega, by omega, ⟨Nat.le_refl _, fun h => absurd h (by decide), fun _ => rfl⟩, rfl, by go_num, HU2.out true, o9, W9⟩
                case measure => simp [intOf]; omega
            · have hab2 : ¬ ((a : Int) < (l.length : Int)) := by omega
              go_wp2_with fail
              go_roundw
              case rel => exact ⟨a + 1, a, la, false, [t.st [t.b] ow], by omega, by omega, ⟨Nat.le_succ _, fun _ => Nat.lt_succ_self _, fun h => absurd h (by decide)⟩, rfl, by go_num, HU2.out false, o7, W7⟩
              case measure => simp [intOf]; omega
        · have hjN : j = i := by omega
          go_wp2_with fail
          go_ret
          exact ⟨rfl, hW.below'⟩
theorem walk (n : Nat) (drop : Bool) (l : List Bool) (lc : Nat) (la : Option Addr) (w : World) (hn : n < 256) (hl : Rd w 1 la l.length (l.flatMap blE)) (hlc : l.length ≤ lc) (hlm : lc ≤ 9223372036854775807) :
    Calls Try.prog 5 #[.int .u8 (n : Int), .bool drop, .slice la l.length lc] w fun e w' => e = .returned (.bool true) ∧ Below w.heap.size w w' := by
  cases drop
  · exact walk_f n l lc la w hn hl hlc hlm
  · exact walk_t n l lc la w hn hl hlc hlm
end Go.Proofs.Ytbmkhopmhmmibaa.bookFirst
