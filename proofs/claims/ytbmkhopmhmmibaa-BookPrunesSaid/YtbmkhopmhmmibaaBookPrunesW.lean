/-
  BookPrunes: the walk.
-/
import Derived.Test.YtbmkhopmhmmibaaPruneQ
import Derived.Test.YtbmkhopmhmmibaaOpenP
namespace Go.Proofs.Ytbmkhopmhmmibaa.bookPrunes
open Go.RowKit Go.Maps
set_option linter.unusedVariables false

theorem info_snp : (Try.prog.info? 50).map (fun i => (i.zero, i.size, i.bytes)) = some (some (.agg #[.int .u64 0, .int .u64 0, .int .u64 0, .slice none 0 0]), 4, 48) := by kernel_rfl
theorem snp_one (s : Sn) : ∀ u ∈ s.e, u.oneCell' = true := by
  intro u hu
  simp only [Sn.e, sncells, Sn.v, List.mem_cons, List.not_mem_nil, or_false] at hu
  rcases hu with rfl | rfl | rfl | rfl <;> rfl
theorem idx_u64a (ad : Addr) (n c k : Nat) (h : k < n) (W : World) : (Instr.indexAt 48 (.slice (some ad) n c) (.int .i64 (k : Int))).run Try.prog W = .ok (.pointer (some (ad.add k))) W := by
  rw [run_indexAt_slice (h := by kernel_rfl), if_pos (by omega)]
  rw [show Try.prog.elem 48 = 28 by kernel_rfl, show (sizeOf 28).run Try.prog W = .ok 1 W by kernel_rfl]
  simp [Result.andThen]
/-- Between the steps. -/
structure Ro (w wr : World) (g k bm : Nat) (l : List Op11) (i m last cm nm : Nat) (S : List Nat) (T : List Tb) (I : List (Nat × Ix)) (fl : Nat → Option Sn) (Ao : Option Addr) (co : Nat) : Prop where
  lw : Lw w wr g k bm S last T I fl cm nm (.slice Ao m co) m
  lv : Lva S fl
  sl : S.length = m
  mi : m ≤ i
  la : last ≤ i
  ni : nm ≤ i
theorem Ro.more {w wr : World} {g k bm : Nat} {l : List Op11} {i m last cm nm : Nat} {S : List Nat} {T : List Tb} {I : List (Nat × Ix)} {fl : Nat → Option Sn} {Ao : Option Addr} {co : Nat} (h : Ro w wr g k bm l i m last cm nm S T I fl Ao co) {wr' : World} {last' : Nat} {T' : List Tb} {I' : List (Nat × Ix)} (h1 : Lw w wr' g k bm S last' T' I' fl cm nm (.slice Ao m co) m) (h2 : last' ≤ last + 1) : Ro w wr' g k bm l (i + 1) m last' cm nm S T' I' fl Ao co :=
  ⟨h1, h.lv, h.sl, Nat.le_succ_of_le h.mi, by have := h.la; omega, Nat.le_succ_of_le h.ni⟩
theorem Ro.fin {w wr : World} {g k bm : Nat} {l : List Op11} {i m last cm nm : Nat} {S : List Nat} {T : List Tb} {I : List (Nat × Ix)} {fl : Nat → Option Sn} {Ao : Option Addr} {co : Nat} (h : Ro w wr g k bm l i m last cm nm S T I fl Ao co) {wr' : World} {x z cm' nm' : Nat} (hx : 1 ≤ x) (hn : nm' ≤ nm) (h1 : Lw w wr' g k bm (endL 1 S x z) last T I (updG fl x none) cm' nm' (.slice Ao m co) m) : Ro w wr' g k bm l (i + 1) m last cm' nm' (endL 1 S x z) T I (updG fl x none) Ao co :=
  ⟨h1, h.lv.over x z hx, by rw [endL_len]; exact h.sl, Nat.le_succ_of_le h.mi, Nat.le_succ_of_le h.la, by have := h.ni; omega⟩
theorem take_new {w w1 : World} {g k bm last cm nm m : Nat} {S : List Nat} {T : List Tb} {I : List (Nat × Ix)} {fl : Nat → Option Sn} {vo : Value} (h : Lw w w1 g k bm (S ++ [1]) last T I fl cm nm vo m) (hlv : Lva S fl) (hS : S.length = m) :
    Calls Try.prog 15 #[.pointer (some ⟨g, 0, none⟩), .int .u64 ((m + 1 : Nat) : Int)] w1 fun e w' => ∃ s, e = .returned (Sn.V s) ∧ LwT w w' g k bm (S ++ [1]) last T I fl cm nm vo m s ∧ Below w1.heap.size w1 w' ∧ Lva (S ++ [1]) (updG fl (m + 1) (some s)) := by
  refine (lw_take h (m + 1)).mono ?_
  rintro e w' ⟨A, c, rfl, h1, h2⟩
  refine ⟨_, rfl, h1, h2, ?_⟩
  subst hS
  exact hlv.begin A c
set_option maxRecDepth 100000 in
set_option maxHeartbeats 8000000 in
theorem walk (l : List Op11) (lc : Nat) (la : Option Addr) (w : World) (hl : Rd w 6 la l.length (l.flatMap Op11.e)) (hlc : l.length ≤ lc) (hlm : lc ≤ 9223372036854775807) :
    Calls Try.prog 7 #[.slice la l.length lc] w fun e w' => e = .returned (.bool true) ∧ Below w.heap.size w w' := by
  obtain ⟨i1, hi1, hy0, hy1, hy2⟩ := info_parts4 info_u64
  have HLL := Lib.hid hl
  clear hl
  have hmm := (@run_makeMap Try.prog)
  go_enter Try.func7, Try.ntmps7
  go_wp2_with fail
  refine (awake11_any w).mono ?_
  rintro e wa ⟨rfl, xa⟩
  go_wp2_with fail
  refine (lg_new wa 1 (by decide) (by decide)).mono ?_
  rintro e w1 ⟨rfl, h1, hb1⟩
  have hsza := xa.size
  have m1 : Mine w.heap.size w w1 (fun k => k = wa.heap.size) := ⟨fun k hk => by omega, xa.next hb1, Nat.le_trans xa.size hb1.size⟩
  clear hb1
  generalize hg : wa.heap.size = g at *
  clear xa hg hsza wa
  go_wp2_with fail
  refine (bnew_any w1).mono ?_
  rintro e w2 ⟨rfl, hb2, x2⟩
  have W2 := wd_new (h1.below x2) (m1.next x2) hb2 m1.size
  clear h1 m1 x2 hb2
  generalize hk : w1.heap.size = k at *
  clear hk w1
  have R0 : Ro w (w2.alloc (.map #[] 0)) g k w2.heap.size l 0 0 0 0 0 [] [] [] (fun _ => none) none 0 := ⟨⟨⟨[], (W2.next ((Below.refl _ _).al _)).none, fun x s hs => (by cases hs), fun q hq => absurd hq List.not_mem_nil⟩, mg_made E11 w2, W2.size, by decide, by decide, fun t ht => absurd ht List.not_mem_nil, fun t ht => absurd ht List.not_mem_nil⟩, fun x s hs => (by cases hs), rfl, Nat.le_refl _, Nat.le_refl _, Nat.le_refl _⟩
  have HR0 := Lib.hid R0
  clear W2 R0
  go_upto_region 7 with fail
  generalize w2.alloc (.map #[] 0) = w3 at *
  generalize w2.heap.size = bm at *
  go_wp2_with fail
  go_loopw [7, 39] (fun ov iv wr => ∃ (i m last cm nm : Nat) (S : List Nat) (T : List Tb) (I : List (Nat × Ix)) (fl : Nat → Option Sn) (Ao : Option Addr) (co : Nat), i ≤ l.length ∧ i ≤ 40 ∧ iv = .int .i64 (i : Int) ∧ ov = .slice Ao m co ∧ Ro w wr g k bm l i m last cm nm S T I fl Ao co) (fun _ iv _ => l.length - (intOf iv).toNat)
  case atStart => exact ⟨0, 0, 0, 0, 0, [], [], [], _, none, 0, Nat.zero_le _, by omega, rfl, rfl, HR0.out⟩
  case round =>
    obtain ⟨i, m, last, cm, nm, S, T, I, fl, Ao, co, hi, hi40, rfl, rfl, hR⟩ := hrel
    have hm40 : m ≤ 40 := Nat.le_trans hR.mi hi40
    have hla40 : last ≤ 40 := Nat.le_trans hR.la hi40
    have hnm40 : nm ≤ 40 := Nat.le_trans hR.ni hi40
    by_cases hlt : i < l.length
    · obtain ⟨ad, rfl, q0, q1, q2, q3, q4, q5⟩ := op11_at (Rd.below HLL.out hR.lw.below) hlt
      have ix := idx_op11 ad l.length lc i hlt
      obtain ⟨o, ho⟩ : ∃ o, l[i] = o := ⟨_, rfl⟩
      rw [ho] at q0 q1 q2 q3 q4 q5
      clear ho
      have ho3 : o.nm.size ≤ 9223372036854775807 := by have := o.h3; unfold maxLen at this; exact this
      have ho4 : o.tn.size ≤ 9223372036854775807 := by have := o.h4; unfold maxLen at this; exact this
      have y9 : Below wr.heap.size wr (wr.alloc (.cells #[.int .u8 (o.do_ : Int), .int .u8 (o.who : Int), .string o.nm, .string o.tn, .string o.cn, .slice o.A o.N o.c] 42)) := (Below.refl _ _).al _
      have b9 := Bx.new wr 42 #[.int .u8 (o.do_ : Int), .int .u8 (o.who : Int), .string o.nm, .string o.tn, .string o.cn, .slice o.A o.N o.c] [.int .u8 (o.do_ : Int), .int .u8 (o.who : Int), .string o.nm, .string o.tn, .string o.cn, .slice o.A o.N o.c] rfl
      have L9 := hR.lw.next y9
      have HR := Lib.hid hR
      clear hR
      by_cases h40 : i < 40
      · go_upto_region 10 with fail
        generalize wr.alloc (.cells #[.int .u8 (o.do_ : Int), .int .u8 (o.who : Int), .string o.nm, .string o.tn, .string o.cn, .slice o.A o.N o.c] 42) = V at *
        generalize wr.heap.size = q9 at *
        clear y9 q0 q1 q2 q3 q4 q5 ix
        have k0 := b9.cell 0
        have k1 := b9.cell 1
        have h40' : ¬ (40 : Int) ≤ (i : Int) := by omega
        obtain ⟨d, hd⟩ : ∃ d : Nat, (o.do_ : Int) % 10 = (d : Int) := ⟨o.do_ % 10, by omega⟩
        have hd10 : d < 10 := by omega
        by_cases hbg : d = 0 ∨ m = 0
        · have HBG := lw_begin L9
          have hSl := HR.out.sl
          rw [begR_few (by omega), begL_few (by omega)] at HBG
          rw [hSl] at HBG
          have HBG := Lib.hid HBG
          have HSL := Lib.hid hSl
          clear hSl
          have hgo : (d = 0) ∨ (¬ d = 0 ∧ m = 0) := by omega
          rcases hgo with hd0 | ⟨hd0, hm0⟩
          · subst hd0
            as_aux_lemma =>
              go_wp2_with fail
              refine (HBG.out).mono ?_
              rintro e w4 ⟨rfl, L4⟩
              have HTK := Lib.hid (take_new L4 HR.out.lv HSL.out)
              clear L4 k0 k1 b9 L9 hbg hd hd10
              go_wp2_with fail
              refine (HTK.out).mono ?_
              rintro e w5 ⟨s, rfl, LT, x5, hlv⟩
              have HLV := Lib.hid hlv
              clear hlv x5
              unfold Sn.V
              go_wp2_with (first
                | (at_mapUpdate; refine wpList_mg_put E11 _ rfl _ _ _ 90 rfl Try.underlying90 bm cm nm fl rfl LT.mp (by omega) (m + 1) (by omega) s rfl rfl ?_; intro w6 hm6 hf6; have L6 := LT.put hf6 hm6; have L7 := L6.next ((Below.refl _ _).al (.cells #[.int .u64 ((m + 1 : Nat) : Int)] 28)); have hsz7 := L7.below.size; clear hm6 hf6 L6)
                | (at_builtin; refine wpList_append_src _ rfl (.tmp 65) (.tmp 67) 48 48 rfl w.heap.size 28 _ _ 1 8 Try.underlying48 hi1 hy0 hy1 hy2 rfl _ _ _ rfl L7.order _ 1 [.int .u64 ((m + 1 : Nat) : Int)] rfl (src_rd Try.underlying48 _ (rd_lit (by first | rfl | simp) rfl rfl) (by decide) (by intro u hu; rw [List.mem_singleton] at hu; subst hu; rfl)) (by simp only [maxLen]; omega) (by omega) hsz7 ?_; intro v8 w8 ho8 hg8 ha8; obtain ⟨A8, c8, hv8, _, _, _⟩ := own_form ho8; subst hv8; have L8 := Lib.hid (L7.app hg8 ho8 ha8); clear ho8 hg8 ha8 L7))
              go_roundw
              case rel => exact ⟨i + 1, m + 1, last, _, nm + 1, S ++ [1], T, I, _, A8, c8, by omega, by omega, by go_num, rfl, ⟨L8.out, HLV.out, by rw [List.length_append, HSL.out]; rfl, by have := HR.out.mi; omega, by have := HR.out.la; omega, by have := HR.out.ni; omega⟩⟩
              case measure => simp [intOf]; omega
          · subst hm0
            have hdn : ((d : Int) == 0) = false := beq_eq_false_iff_ne.2 (by omega)
            as_aux_lemma =>
              go_wp2_with fail
              refine (HBG.out).mono ?_
              rintro e w4 ⟨rfl, L4⟩
              have HTK := Lib.hid (take_new L4 HR.out.lv HSL.out)
              clear L4 k0 k1 b9 L9 hbg hd hd10
              go_wp2_with fail
              refine (HTK.out).mono ?_
              rintro e w5 ⟨s, rfl, LT, x5, hlv⟩
              have HLV := Lib.hid hlv
              clear hlv x5
              unfold Sn.V
              go_wp2_with (first
                | (at_mapUpdate; refine wpList_mg_put E11 _ rfl _ _ _ 90 rfl Try.underlying90 bm cm nm fl rfl LT.mp (by omega) (0 + 1) (by omega) s rfl rfl ?_; intro w6 hm6 hf6; have L6 := LT.put hf6 hm6; have L7 := L6.next ((Below.refl _ _).al (.cells #[.int .u64 ((0 + 1 : Nat) : Int)] 28)); have hsz7 := L7.below.size; clear hm6 hf6 L6)
                | (at_builtin; refine wpList_append_src _ rfl (.tmp 65) (.tmp 67) 48 48 rfl w.heap.size 28 _ _ 1 8 Try.underlying48 hi1 hy0 hy1 hy2 rfl _ _ _ rfl L7.order _ 1 [.int .u64 ((0 + 1 : Nat) : Int)] rfl (src_rd Try.underlying48 _ (rd_lit (by first | rfl | simp) rfl rfl) (by decide) (by intro u hu; rw [List.mem_singleton] at hu; subst hu; rfl)) (by simp only [maxLen]; omega) (by omega) hsz7 ?_; intro v8 w8 ho8 hg8 ha8; obtain ⟨A8, c8, hv8, _, _, _⟩ := own_form ho8; subst hv8; have L8 := Lib.hid (L7.app hg8 ho8 ha8); clear ho8 hg8 ha8 L7))
              go_roundw
              case rel => exact ⟨i + 1, 0 + 1, last, _, nm + 1, S ++ [1], T, I, _, A8, c8, by omega, by omega, by go_num, rfl, ⟨L8.out, HLV.out, by rw [List.length_append, HSL.out]; rfl, by have := HR.out.mi; omega, by have := HR.out.la; omega, by have := HR.out.ni; omega⟩⟩
              case measure => simp [intOf]; omega
        · have hd0 : ¬ d = 0 := fun e => hbg (.inl e)
          have hm0 : ¬ m = 0 := fun e => hbg (.inr e)
          clear hbg
          have hdn : ((d : Int) == 0) = false := beq_eq_false_iff_ne.2 (by omega)
          have hmn : ((m : Int) == 0) = false := beq_eq_false_iff_ne.2 (by omega)
          obtain ⟨r, hr⟩ : ∃ r : Nat, (o.who : Int) % (m : Int) = (r : Int) := ⟨o.who % m, by omega⟩
          have hrm : r < m := by have : (o.who : Int) % (m : Int) < m := Int.emod_lt_of_pos _ (by omega); omega
          obtain ⟨Ao', co', hv', _, _, hrd⟩ := own_form L9.order
          injection hv' with e1 _ e2
          subst e1 e2
          obtain ⟨ao, hao, p0⟩ := hrd.2 r (.int .u64 ((r + 1 : Nat) : Int)) (by
            unfold ucells
            rw [List.getElem?_map, List.getElem?_range' hrm]
            simp [Nat.add_comm])
          subst hao
          have ixo := idx_u64a ao m co r hrm
          obtain ⟨x, hx⟩ : ∃ x, r + 1 = x := ⟨_, rfl⟩
          rw [hx] at p0
          have hx1 : 1 ≤ x := by omega
          have hx41 : x ≤ 41 := by omega
          have hmz : ¬ ((m : Int) = 0) := by omega
          have hr2 : (wrap64 (o.who : Int)).tmod (m : Int) = (r : Int) := by rw [IntWalk.wrap64_in _ (by have := o.h2; omega), Int.tmod_eq_emod_of_nonneg (by omega)]; exact hr
          have hget := m11_get L9.mp (x := x) (Nat.lt_of_le_of_lt hx41 (by decide))
          cases hfx : fl x with
          | none =>
            rw [hfx] at hget
            replace hget : (Instr.lookup 90 (.map (some bm)) (.int .u64 (x : Int)) true).run Try.prog V = .ok (.tuple #[.agg #[.int .u64 0, .int .u64 0, .int .u64 0, .slice none 0 0], .bool false]) V := hget
            have L10 := Lib.hid (L9.next ((Below.refl _ _).al (.cells #[.int .u64 0, .int .u64 0, .int .u64 0, .slice none 0 0] 50)))
            clear L9 hfx hx hrd
            go_wp2_with fail
            go_roundw
            case rel => exact ⟨i + 1, m, last, cm, nm, S, T, I, fl, some ao, co, by omega, by omega, by go_num, rfl, HR.out.more L10.out (Nat.le_succ _)⟩
            case measure => simp [intOf]; omega
          | some s =>
            rw [hfx] at hget
            replace hget : (Instr.lookup 90 (.map (some bm)) (.int .u64 (x : Int)) true).run Try.prog V = .ok (.tuple #[.agg #[.int .u64 (s.own : Int), .int .u64 (s.xmin : Int), .int .u64 (s.xmax : Int), .slice s.A s.R.length s.c], .bool true]) V := hget
            have HFX := Lib.hid hfx
            have y13 : Below V.heap.size V (V.alloc (.cells #[.int .u64 (s.own : Int), .int .u64 (s.xmin : Int), .int .u64 (s.xmax : Int), .slice s.A s.R.length s.c] 50)) := (Below.refl _ _).al _
            have b13 := Bx.new V 50 #[.int .u64 (s.own : Int), .int .u64 (s.xmin : Int), .int .u64 (s.xmax : Int), .slice s.A s.R.length s.c] [.int .u64 (s.own : Int), .int .u64 (s.xmin : Int), .int .u64 (s.xmax : Int), .slice s.A s.R.length s.c] rfl
            have b9' := b9.below y13
            have L10 := L9.next y13
            clear L9 hfx hx hrd b9
            go_upto_region 17 with fail
            generalize V.alloc (.cells #[.int .u64 (s.own : Int), .int .u64 (s.xmin : Int), .int .u64 (s.xmax : Int), .slice s.A s.R.length s.c] 50) = V1 at *
            generalize V.heap.size = q13 at *
            clear y13 p0 ixo hget k0 k1 hr hmz hr2
            have x0d : Below V1.heap.size V1 V1.drew := below_n V1 1
            have L11 := L10.next x0d
            have b9d := b9'.below x0d
            have b13d := b13.below x0d
            have hSd : V1.drew.cell? ⟨q9, 2, none⟩ = some (.string o.nm) ∧ V1.drew.cell? ⟨q9, 3, none⟩ = some (.string o.tn) := ⟨b9d.cell 2, b9d.cell 3⟩
            have HF1 := Lib.hid (few_any V1.drew o.nm ho3)
            have HF2 := Lib.hid (few_any V1.drew o.tn ho4)
            clear L10 b9' b13
            go_upto_region 18 with fail
            go_region_held3 (fun w' => w'.cell? ⟨q9, 2, none⟩ = some (.string o.nm) ∧ w'.cell? ⟨q9, 3, none⟩ = some (.string o.tn)) (first | (with_reducible assumption))
              (first
              | (go_at_call 12; (with_reducible refine (HF1.out).mono ?_); rintro e wf1 ⟨nm1, rfl, hn1, hwf1⟩; subst hwf1)
              | (go_at_call 12; (with_reducible refine (HF2.out).mono ?_); rintro e wf2 ⟨nm2, rfl, hn2, hwf2⟩; subst hwf2))
            generalize V1.drew = V2 at *
            clear hSd HF1 HF2 x0d
            have k0 := b9d.cell 0
            have hn1' : nm1.size ≤ 9223372036854775807 := by omega
            have hn2' : nm2.size ≤ 9223372036854775807 := by omega
            go_upto_region 19 with fail
            obtain rfl | rfl | rfl | rfl | rfl | rfl | rfl | rfl | rfl : d = 1 ∨ d = 2 ∨ d = 3 ∨ d = 4 ∨ d = 5 ∨ d = 6 ∨ d = 7 ∨ d = 8 ∨ d = 9 := by omega
            · as_aux_lemma =>
                have HE := lw_commit L11 x (by omega)
                obtain ⟨ev, hev⟩ : ∃ ev, endE 1 S x = ev := ⟨_, rfl⟩
                rw [hev] at HE
                clear hev b13d b9d
                go_wp2_with fail
                refine (HE).mono ?_
                rintro e w8 ⟨rfl, L8⟩
                clear HE L11
                go_wp2_with (at_delete; refine wpList_mg_del E11 _ rfl _ _ 90 28 rfl rfl Try.underlying90 bm cm nm fl rfl L8.mp x (by omega) rfl ?_; intro w9 u9 f9; have L9 := Lib.hid (L8.del f9 u9); clear u9 f9)
                go_roundw
                case rel => exact ⟨i + 1, m, last, _, nm, endL 1 S x 2, T, I, updG fl x none, some ao, co, by omega, by omega, by go_num, rfl, HR.out.fin hx1 (Nat.le_refl _) L9.out⟩
                case measure => simp [intOf]; omega
            · as_aux_lemma =>
                have HE := lw_abort L11 x (by omega)
                obtain ⟨ev, hev⟩ : ∃ ev, endE 1 S x = ev := ⟨_, rfl⟩
                rw [hev] at HE
                clear hev b13d b9d
                go_wp2_with fail
                refine (HE).mono ?_
                rintro e w8 ⟨rfl, L8⟩
                clear HE L11
                go_wp2_with (at_delete; refine wpList_mg_del E11 _ rfl _ _ 90 28 rfl rfl Try.underlying90 bm cm nm fl rfl L8.mp x (by omega) rfl ?_; intro w9 u9 f9; have L9 := Lib.hid (L8.del f9 u9); clear u9 f9)
                go_roundw
                case rel => exact ⟨i + 1, m, last, _, nm, endL 1 S x 3, T, I, updG fl x none, some ao, co, by omega, by omega, by go_num, rfl, HR.out.fin hx1 (Nat.le_refl _) L9.out⟩
                case measure => simp [intOf]; omega
            · as_aux_lemma =>
                have x2d : Below V2.heap.size V2 V2.drew := below_n V2 1
                have L12 := L11.next x2d
                have b13e := b13d.below x2d
                have hSe : V2.drew.cell? ⟨q13, 0, none⟩ = some (.int .u64 (s.own : Int)) ∧ V2.drew.cell? ⟨q13, 1, none⟩ = some (.int .u64 (s.xmin : Int)) ∧ V2.drew.cell? ⟨q13, 2, none⟩ = some (.int .u64 (s.xmax : Int)) ∧ V2.drew.cell? ⟨q13, 3, none⟩ = some (.slice s.A s.R.length s.c) := ⟨b13e.cell 0, b13e.cell 1, b13e.cell 2, b13e.cell 3⟩
                have HONE := Lib.hid (one_ex V2.drew)
                have hc1 := fun V q (hV : Lw w V g k bm S last T I fl cm nm (.slice (some ao) m co) m) hL => lw_crtab hV x V2.drew.heap.size q s nm1 HFX.out (by omega) hn1' hL
                unfold Sn.V at hc1
                have HC1 := Lib.hid hc1
                clear hc1 L11 b13d b9d
                go_upto_region 46 with fail
                go_region_held3 (fun w' => w'.cell? ⟨q13, 0, none⟩ = some (.int .u64 (s.own : Int)) ∧ w'.cell? ⟨q13, 1, none⟩ = some (.int .u64 (s.xmin : Int)) ∧ w'.cell? ⟨q13, 2, none⟩ = some (.int .u64 (s.xmax : Int)) ∧ w'.cell? ⟨q13, 3, none⟩ = some (.slice s.A s.R.length s.c)) (first | (with_reducible assumption))
                  (first
                  | (go_at_call 35; (with_reducible refine (HONE.out).mono ?_); rintro e w6 ⟨q6, rfl, oc6, x6⟩; have L13 := L12.next x6; have b13f := b13e.below x6; have hS6 : w6.cell? ⟨q13, 0, none⟩ = some (.int .u64 (s.own : Int)) ∧ w6.cell? ⟨q13, 1, none⟩ = some (.int .u64 (s.xmin : Int)) ∧ w6.cell? ⟨q13, 2, none⟩ = some (.int .u64 (s.xmax : Int)) ∧ w6.cell? ⟨q13, 3, none⟩ = some (.slice s.A s.R.length s.c) := ⟨b13f.cell 0, b13f.cell 1, b13f.cell 2, b13f.cell 3⟩)
                  | (go_at_call 20; (with_reducible refine (HC1.out w6 q6 L13 oc6).mono ?_); rintro e w7 ⟨⟨z, la', T', hla', rfl, L14⟩, f7⟩; have b13g := f7.bx b13f (by decide); have hS7 : w7.cell? ⟨q13, 0, none⟩ = some (.int .u64 (s.own : Int)) ∧ w7.cell? ⟨q13, 1, none⟩ = some (.int .u64 (s.xmin : Int)) ∧ w7.cell? ⟨q13, 2, none⟩ = some (.int .u64 (s.xmax : Int)) ∧ w7.cell? ⟨q13, 3, none⟩ = some (.slice s.A s.R.length s.c) := ⟨b13g.cell 0, b13g.cell 1, b13g.cell 2, b13g.cell 3⟩))
                have HL := Lib.hid L14
                clear hS7 hS6 hSe b13e b13f b13g f7 L12 L13 L14 oc6 x6 x2d HONE HC1
                go_wp2_with fail
                go_roundw
                case rel => exact ⟨i + 1, m, la', cm, nm, S, T', I, fl, some ao, co, by omega, by omega, by go_num, rfl, HR.out.more HL.out hla'⟩
                case measure => simp [intOf]; omega
            · as_aux_lemma =>
                have x2d : Below V2.heap.size V2 V2.drew := below_n V2 1
                have L12 := L11.next x2d
                have b13e := b13d.below x2d
                have hSe : V2.drew.cell? ⟨q13, 0, none⟩ = some (.int .u64 (s.own : Int)) ∧ V2.drew.cell? ⟨q13, 1, none⟩ = some (.int .u64 (s.xmin : Int)) ∧ V2.drew.cell? ⟨q13, 2, none⟩ = some (.int .u64 (s.xmax : Int)) ∧ V2.drew.cell? ⟨q13, 3, none⟩ = some (.slice s.A s.R.length s.c) := ⟨b13e.cell 0, b13e.cell 1, b13e.cell 2, b13e.cell 3⟩
                have HONE := Lib.hid (one_ex V2.drew)
                have hc1 := fun V q (hV : Lw w V g k bm S last T I fl cm nm (.slice (some ao) m co) m) hL => lw_crtab hV x V2.drew.heap.size q s nm1 HFX.out (by omega) hn1' hL
                unfold Sn.V at hc1
                have HC1 := Lib.hid hc1
                clear hc1 L11 b13d b9d
                go_upto_region 46 with fail
                go_region_held3 (fun w' => w'.cell? ⟨q13, 0, none⟩ = some (.int .u64 (s.own : Int)) ∧ w'.cell? ⟨q13, 1, none⟩ = some (.int .u64 (s.xmin : Int)) ∧ w'.cell? ⟨q13, 2, none⟩ = some (.int .u64 (s.xmax : Int)) ∧ w'.cell? ⟨q13, 3, none⟩ = some (.slice s.A s.R.length s.c)) (first | (with_reducible assumption))
                  (first
                  | (go_at_call 35; (with_reducible refine (HONE.out).mono ?_); rintro e w6 ⟨q6, rfl, oc6, x6⟩; have L13 := L12.next x6; have b13f := b13e.below x6; have hS6 : w6.cell? ⟨q13, 0, none⟩ = some (.int .u64 (s.own : Int)) ∧ w6.cell? ⟨q13, 1, none⟩ = some (.int .u64 (s.xmin : Int)) ∧ w6.cell? ⟨q13, 2, none⟩ = some (.int .u64 (s.xmax : Int)) ∧ w6.cell? ⟨q13, 3, none⟩ = some (.slice s.A s.R.length s.c) := ⟨b13f.cell 0, b13f.cell 1, b13f.cell 2, b13f.cell 3⟩)
                  | (go_at_call 20; (with_reducible refine (HC1.out w6 q6 L13 oc6).mono ?_); rintro e w7 ⟨⟨z, la', T', hla', rfl, L14⟩, f7⟩; have b13g := f7.bx b13f (by decide); have hS7 : w7.cell? ⟨q13, 0, none⟩ = some (.int .u64 (s.own : Int)) ∧ w7.cell? ⟨q13, 1, none⟩ = some (.int .u64 (s.xmin : Int)) ∧ w7.cell? ⟨q13, 2, none⟩ = some (.int .u64 (s.xmax : Int)) ∧ w7.cell? ⟨q13, 3, none⟩ = some (.slice s.A s.R.length s.c) := ⟨b13g.cell 0, b13g.cell 1, b13g.cell 2, b13g.cell 3⟩))
                have HL := Lib.hid L14
                clear hS7 hS6 hSe b13e b13f b13g f7 L12 L13 L14 oc6 x6 x2d HONE HC1
                go_wp2_with fail
                go_roundw
                case rel => exact ⟨i + 1, m, la', cm, nm, S, T', I, fl, some ao, co, by omega, by omega, by go_num, rfl, HR.out.more HL.out hla'⟩
                case measure => simp [intOf]; omega
            · as_aux_lemma =>
                have hc1 := lw_cridx L11 x s nm1 nm2 ⟨#[97]⟩ HFX.out (by omega) hn1'
                unfold Sn.V at hc1
                have HC1 := Lib.hid hc1
                have l0 := b13d.cell 0
                have l1 := b13d.cell 1
                have l2 := b13d.cell 2
                have l3 := b13d.cell 3
                clear hc1 L11 b13d b9d
                go_wp2_with fail
                refine (HC1.out).mono ?_
                rintro e w7 ⟨⟨z, la', I', hla', rfl, L14⟩, f7⟩
                have HL := Lib.hid L14
                clear f7 l0 l1 l2 l3 HC1 L14
                go_wp2_with fail
                go_roundw
                case rel => exact ⟨i + 1, m, la', cm, nm, S, T, I', fl, some ao, co, by omega, by omega, by go_num, rfl, HR.out.more HL.out hla'⟩
                case measure => simp [intOf]; omega
            · as_aux_lemma =>
                have hc1 := lw_cridx L11 x s nm1 nm2 ⟨#[97]⟩ HFX.out (by omega) hn1'
                unfold Sn.V at hc1
                have HC1 := Lib.hid hc1
                have l0 := b13d.cell 0
                have l1 := b13d.cell 1
                have l2 := b13d.cell 2
                have l3 := b13d.cell 3
                clear hc1 L11 b13d b9d
                go_wp2_with fail
                refine (HC1.out).mono ?_
                rintro e w7 ⟨⟨z, la', I', hla', rfl, L14⟩, f7⟩
                have HL := Lib.hid L14
                clear f7 l0 l1 l2 l3 HC1 L14
                go_wp2_with fail
                go_roundw
                case rel => exact ⟨i + 1, m, la', cm, nm, S, T, I', fl, some ao, co, by omega, by omega, by go_num, rfl, HR.out.more HL.out hla'⟩
                case measure => simp [intOf]; omega
            · as_aux_lemma =>
                have hc1 := lw_drtab L11 x s nm1 HFX.out
                unfold Sn.V at hc1
                have HC1 := Lib.hid hc1
                have l0 := b13d.cell 0
                have l1 := b13d.cell 1
                have l2 := b13d.cell 2
                have l3 := b13d.cell 3
                clear hc1 L11 b13d b9d
                go_wp2_with fail
                refine (HC1.out).mono ?_
                rintro e w7 ⟨⟨z, T', I', rfl, L14⟩, f7⟩
                have HL := Lib.hid L14
                clear f7 l0 l1 l2 l3 HC1 L14
                go_wp2_with fail
                go_roundw
                case rel => exact ⟨i + 1, m, last, cm, nm, S, T', I', fl, some ao, co, by omega, by omega, by go_num, rfl, HR.out.more HL.out (Nat.le_succ _)⟩
                case measure => simp [intOf]; omega
            · as_aux_lemma =>
                have hc1 := lw_dridx L11 x s nm1 HFX.out
                unfold Sn.V at hc1
                have HC1 := Lib.hid hc1
                have l0 := b13d.cell 0
                have l1 := b13d.cell 1
                have l2 := b13d.cell 2
                have l3 := b13d.cell 3
                clear hc1 L11 b13d b9d
                go_wp2_with fail
                refine (HC1.out).mono ?_
                rintro e w7 ⟨⟨z, T', I', rfl, L14⟩, f7⟩
                have HL := Lib.hid L14
                clear f7 l0 l1 l2 l3 HC1 L14
                go_wp2_with fail
                go_roundw
                case rel => exact ⟨i + 1, m, last, cm, nm, S, T', I', fl, some ao, co, by omega, by omega, by go_num, rfl, HR.out.more HL.out (Nat.le_succ _)⟩
                case measure => simp [intOf]; omega
            · as_aux_lemma =>
                have y20 : Below V2.heap.size V2 (V2.alloc (.map #[] 0)) := (Below.refl _ _).al _
                have L20 := L11.next y20
                have WS0 := was_zero V2 fl (fun s => wasV S s nm1 T I)
                have hbne : bm ≠ V2.heap.size := by have := L11.mp.lt; omega
                have hbB : w.heap.size ≤ V2.heap.size := L11.below.size
                have HLV := Lib.hid HR.out.lv
                obtain ⟨j1, hj1, jz0, jz1, jz2⟩ := info_parts4 info_snp
                clear L11 b13d b9d
                go_upto_region 22 with fail
                simp only [hd, show ((9 : Nat) : Int) = 9 from rfl]
                clear hd hdn
                generalize V2.alloc (.map #[] 0) = V3 at *
                generalize V2.heap.size = bw at *
                clear y20
                have HL20 := Lib.hid L20
                have HWS := Lib.hid WS0
                clear L20 WS0 k0
                go_wp2_with fail
                go_loopw [17, 98] (fun av jv wr => ∃ (j N c n : Nat) (Aa : Option Addr) (ca : Nat), j ≤ m ∧ n ≤ j ∧ N ≤ j ∧ jv = .int .i64 (j : Int) ∧ av = .slice Aa N ca ∧ N = (lvs fl j).length ∧ wr.ownsRow w.heap.size 50 4 (.slice Aa N ca) N ((lvs fl j).flatMap Sn.e) ∧ Was wr bw fl (fun s => wasV S s nm1 T I) j c n ∧ Lw w wr g k bm S last T I fl cm nm (.slice (some ao) m co) m) (fun _ jv _ => m - (intOf jv).toNat)
                case atStart => exact ⟨0, 0, 0, 0, none, 0, Nat.zero_le _, Nat.le_refl _, Nat.le_refl _, rfl, rfl, rfl, World.ownsRow_nil _ _ _ _, HWS.out, HL20.out⟩
                case round =>
                  obtain ⟨j, N, c, n, Aa, ca, hj, hnj, hNj, rfl, rfl, hN, ho, hw, hL⟩ := hrel
                  have HN := Lib.hid hN
                  have HO := Lib.hid ho
                  have HW := Lib.hid hw
                  clear hN ho hw
                  by_cases hlj : j < m
                  · obtain ⟨Ao', co', hv', _, _, hrd⟩ := own_form hL.order
                    injection hv' with e1 _ e2
                    subst e2
                    obtain ⟨ao', hao, p0⟩ := hrd.2 j (.int .u64 ((j + 1 : Nat) : Int)) (by
                      unfold ucells
                      rw [List.getElem?_map, List.getElem?_range' hlj]
                      simp [Nat.add_comm])
                    have hao2 : ao = ao' := by rw [hao] at e1; injection e1
                    subst hao2
                    have ixo := idx_u64a ao m co j hlj
                    obtain ⟨y, hy⟩ : ∃ y, j + 1 = y := ⟨_, rfl⟩
                    rw [hy] at p0
                    have hy41 : y ≤ 41 := by omega
                    have HY := Lib.hid hy
                    have hget := m11_get hL.mp (x := y) (Nat.lt_of_le_of_lt hy41 (by decide))
                    clear hrd e1 hao
                    cases hfy : fl y with
                    | none =>
                      rw [hfy] at hget
                      replace hget : (Instr.lookup 90 (.map (some bm)) (.int .u64 (y : Int)) true).run Try.prog wr = .ok (.tuple #[.agg #[.int .u64 0, .int .u64 0, .int .u64 0, .slice none 0 0], .bool false]) wr := hget
                      have x1 : Below wr.heap.size wr (wr.alloc (.cells #[.int .u64 0, .int .u64 0, .int .u64 0, .slice none 0 0] 50)) := (Below.refl _ _).al _
                      have L1 := Lib.hid (hL.next x1)
                      have W1 := Lib.hid (HW.out.below x1)
                      have O1 := Lib.hid (own_below HO.out x1)
                      have HLS := Lib.hid (show lvs fl (j + 1) = lvs fl j by rw [lvs_succ, hy, hfy]; simp)
                      have HFY := Lib.hid (show fl (j + 1) = none by rw [hy]; exact hfy)
                      clear hL hfy hy x1
                      go_wp2_with fail
                      go_roundw
                      case rel => exact ⟨j + 1, N, c, n, Aa, ca, by omega, by omega, by omega, by go_num, rfl, by rw [HLS.out]; exact HN.out, by rw [HLS.out]; exact O1.out, W1.out.skip HFY.out, L1.out⟩
                      case measure => simp [intOf]; omega
                    | some t =>
                      rw [hfy] at hget
                      replace hget : (Instr.lookup 90 (.map (some bm)) (.int .u64 (y : Int)) true).run Try.prog wr = .ok (.tuple #[.agg #[.int .u64 (t.own : Int), .int .u64 (t.xmin : Int), .int .u64 (t.xmax : Int), .slice t.A t.R.length t.c], .bool true]) wr := hget
                      have x1 : Below wr.heap.size wr (wr.alloc (.cells #[.int .u64 (t.own : Int), .int .u64 (t.xmin : Int), .int .u64 (t.xmax : Int), .slice t.A t.R.length t.c] 50)) := (Below.refl _ _).al _
                      have b21 := Bx.new wr 50 #[.int .u64 (t.own : Int), .int .u64 (t.xmin : Int), .int .u64 (t.xmax : Int), .slice t.A t.R.length t.c] [.int .u64 (t.own : Int), .int .u64 (t.xmin : Int), .int .u64 (t.xmax : Int), .slice t.A t.R.length t.c] rfl
                      have L1 := hL.next x1
                      have W1 := HW.out.below x1
                      have O1 := own_below HO.out x1
                      have hq21 : ∀ i, (Value.slice Aa N ca).ownBlock = some i → i ≠ wr.heap.size := fun i hi => by have := (HO.out.lt i hi).2; omega
                      have HLS := Lib.hid (show lvs fl (j + 1) = lvs fl j ++ [t] by rw [lvs_succ, hy, hfy]; rfl)
                      have HFY := Lib.hid (show fl (j + 1) = some t by rw [hy]; exact hfy)
                      have HFT := Lib.hid hfy
                      clear hL hfy hy
                      go_upto_region 26 with fail
                      generalize wr.alloc (.cells #[.int .u64 (t.own : Int), .int .u64 (t.xmin : Int), .int .u64 (t.xmax : Int), .slice t.A t.R.length t.c] 50) = U1 at *
                      generalize wr.heap.size = q21 at *
                      clear x1 hget p0 ixo
                      have l0 := b21.cell 0
                      have l1 := b21.cell 1
                      have l2 := b21.cell 2
                      have l3 := b21.cell 3
                      have x2 : Below U1.heap.size U1 (U1.alloc (.cells #[.int .u64 (t.own : Int), .int .u64 (t.xmin : Int), .int .u64 (t.xmax : Int), .slice t.A t.R.length t.c] 50)) := (Below.refl _ _).al _
                      have L2 := L1.next x2
                      have W2 := W1.below x2
                      have O2 := own_below O1 x2
                      have b22 := b21.below x2
                      have hsz2 := L2.below.size
                      clear L1 W1 O1
                      go_wp2_with (at_builtin; refine wpList_append_src _ rfl (.tmp 109) (.tmp 111) 38 38 rfl w.heap.size 50 _ _ 4 48 Try.underlying38 hj1 jz0 jz1 jz2 rfl _ _ _ rfl O2 _ 1 (Sn.e t) rfl (src_rd Try.underlying38 _ (rd_lit (by first | rfl | simp) rfl rfl) (by decide) (snp_one t)) (by simp only [maxLen]; omega) (by omega) hsz2 ?_; intro v9 w9 ho9 hg9 ha9; have f9 : Fr (fun i => (Value.slice Aa N ca).ownBlock = some i) _ w9 := Fr.of_own hg9 fun k e => e; have L9 := L2.other f9 (fun i hi => (O2.lt i hi).1) (fun i hi => ⟨fun e => L2.mp.not_ty (e ▸ own_ty O2 hi), fun e ht => Classical.byContradiction fun hne => ht.ne (own_ty O2 hi) hne rfl⟩); have W9 := W2.fr f9 (fun i hi => ⟨_, own_ty O2 hi⟩); have b29 := f9.bx b22 (fun hi => hq21 _ hi rfl); obtain ⟨A9, c9, hv9, _, _, _⟩ := own_form ho9; subst hv9; have O9 := Lib.hid ho9; have m0 := b29.cell 0; have m1 := b29.cell 1; have m2 := b29.cell 2; have m3 := b29.cell 3; clear ho9 hg9 ha9 f9)
                      clear L2 W2 O2 l0 l1 l2 l3 b22 x2 hsz2 hq21
                      have htb := lw_table L9 y t nm1 HFT.out
                      unfold Sn.V at htb
                      obtain ⟨tid, htid⟩ : ∃ z, tidV S t nm1 T = z := ⟨_, rfl⟩
                      have htl := tid_le L9 t nm1
                      have hwv : wasV S t nm1 T I = tid + 1000 * (I.filter (ixP S t.own t.xmax t.R tid)).length := by unfold wasV; rw [htid]
                      rw [htid] at htb htl
                      have hil := ixs_le L9 (ixP S t.own t.xmax t.R tid)
                      have HTB := Lib.hid htb
                      clear htb htid
                      go_wp2_with fail
                      refine (HTB.out).mono ?_
                      rintro e w10 ⟨⟨n1, At, ct, Nt, x1, x2, bb1, rfl⟩, xt⟩
                      have L10 := L9.next xt
                      have W10 := W9.below xt
                      have O10 := own_below O9.out xt
                      have b210 := b29.below xt
                      have xz : Below w10.heap.size w10 (w10.alloc (.cells #[.int .u64 (tid : Int), .string n1, .slice At Nt ct, .int .u64 x1, .int .u64 x2] 85)) := (Below.refl _ _).al _
                      have b23 := Bx.new w10 85 #[.int .u64 (tid : Int), .string n1, .slice At Nt ct, .int .u64 x1, .int .u64 x2] [.int .u64 (tid : Int), .string n1, .slice At Nt ct, .int .u64 x1, .int .u64 x2] rfl
                      have L11 := L10.next xz
                      have W11 := W10.below xz
                      have O11 := own_below O10 xz
                      have b211 := b210.below xz
                      clear L9 W9 O9 HTB L10 W10 O10 b29 b210 m0 m1 m2 m3
                      go_upto_region 29 with fail
                      generalize w10.alloc (.cells #[.int .u64 (tid : Int), .string n1, .slice At Nt ct, .int .u64 x1, .int .u64 x2] 85) = U2 at *
                      generalize w10.heap.size = q23 at *
                      clear xz xt
                      obtain ⟨qn, hqn⟩ : ∃ z, (I.filter (ixP S t.own t.xmax t.R tid)).length = z := ⟨_, rfl⟩
                      rw [hqn] at hil hwv
                      have x5 : Below U2.heap.size U2 U2.drew := below_n U2 1
                      have L12 := L11.next x5
                      have W12 := W11.below x5
                      have O12 := own_below O11 x5
                      have b212 := b211.below x5
                      have b232 := b23.below x5
                      have hix := lw_ixs L12 y tid t HFT.out
                      rw [hqn] at hix
                      unfold Sn.V at hix
                      have HIX := Lib.hid hix
                      have hSd : U2.drew.cell? ⟨q21, 0, none⟩ = some (.int .u64 (t.own : Int)) ∧ U2.drew.cell? ⟨q21, 1, none⟩ = some (.int .u64 (t.xmin : Int)) ∧ U2.drew.cell? ⟨q21, 2, none⟩ = some (.int .u64 (t.xmax : Int)) ∧ U2.drew.cell? ⟨q21, 3, none⟩ = some (.slice t.A t.R.length t.c) ∧ U2.drew.cell? ⟨q23, 0, none⟩ = some (.int .u64 (tid : Int)) := ⟨b212.cell 0, b212.cell 1, b212.cell 2, b212.cell 3, b232.cell 0⟩
                      obtain ⟨pn, hpn⟩ : ∃ z, 1000 * qn = z := ⟨_, rfl⟩
                      obtain ⟨vn, hvn⟩ : ∃ z, tid + pn = z := ⟨_, rfl⟩
                      have hvl : vn < 1000000 := by omega
                      have a1 : IntKind.u64.wrap (qn : Int) = (qn : Int) := IntWalk.u64_in _ (by omega)
                      have a2 : IntKind.u64.wrap (1000 * (qn : Int)) = (pn : Int) := by rw [show 1000 * (qn : Int) = (pn : Int) by omega]; exact IntWalk.u64_in _ (by omega)
                      have a3 : IntKind.u64.wrap ((tid : Int) + (pn : Int)) = (vn : Int) := by rw [show (tid : Int) + (pn : Int) = (vn : Int) by omega]; exact IntWalk.u64_in _ (by omega)
                      have hwv2 : wasV S t nm1 T I = vn := by rw [hwv, hpn, hvn]
                      have HVN := Lib.hid hwv2
                      have hn40 : n < 1000 := by omega
                      have hj40 : j < 1000 := by omega
                      clear hqn hix L11 W11 O11 b211 b23 hpn hvn hwv hwv2
                      go_region_held3 (fun w' => w'.cell? ⟨q21, 0, none⟩ = some (.int .u64 (t.own : Int)) ∧ w'.cell? ⟨q21, 1, none⟩ = some (.int .u64 (t.xmin : Int)) ∧ w'.cell? ⟨q21, 2, none⟩ = some (.int .u64 (t.xmax : Int)) ∧ w'.cell? ⟨q21, 3, none⟩ = some (.slice t.A t.R.length t.c) ∧ w'.cell? ⟨q23, 0, none⟩ = some (.int .u64 (tid : Int))) (first | (with_reducible assumption))
                        (first | (go_at_call 39; (with_reducible refine (HIX.out).mono ?_); rintro e w13 ⟨⟨Ai, ci, rfl⟩, xi⟩; have L13 := L12.next xi; have W13 := W12.below xi; have O13 := own_below O12 xi; have b213 := b212.below xi; have b233 := b232.below xi; have hS3 : w13.cell? ⟨q21, 0, none⟩ = some (.int .u64 (t.own : Int)) ∧ w13.cell? ⟨q21, 1, none⟩ = some (.int .u64 (t.xmin : Int)) ∧ w13.cell? ⟨q21, 2, none⟩ = some (.int .u64 (t.xmax : Int)) ∧ w13.cell? ⟨q21, 3, none⟩ = some (.slice t.A t.R.length t.c) ∧ w13.cell? ⟨q23, 0, none⟩ = some (.int .u64 (tid : Int)) := ⟨b213.cell 0, b213.cell 1, b213.cell 2, b213.cell 3, b233.cell 0⟩; obtain ⟨W', hrun, ⟨c', WP⟩, fW⟩ := W13.put hn40 hj40 HFY.out (by rw [HVN.out]; omega); rw [HY.out, HVN.out] at hrun; have b214 := fW.bx b213 (fun e => W13.not_ty _ (e ▸ b213.ty)); have b234 := fW.bx b233 (fun e => W13.not_ty _ (e ▸ b233.ty)); have hS4 : W'.cell? ⟨q21, 0, none⟩ = some (.int .u64 (t.own : Int)) ∧ W'.cell? ⟨q21, 1, none⟩ = some (.int .u64 (t.xmin : Int)) ∧ W'.cell? ⟨q21, 2, none⟩ = some (.int .u64 (t.xmax : Int)) ∧ W'.cell? ⟨q21, 3, none⟩ = some (.slice t.A t.R.length t.c) ∧ W'.cell? ⟨q23, 0, none⟩ = some (.int .u64 (tid : Int)) := ⟨b214.cell 0, b214.cell 1, b214.cell 2, b214.cell 3, b234.cell 0⟩))
                      have L14 := Lib.hid (L13.map' fW W13.not_ty hbne hbB)
                      have O14 := Lib.hid (fW.own O13 fun i hi e => W13.not_ty _ (e ▸ own_ty O13 hi))
                      have WPH := Lib.hid WP
                      clear hS4 hS3 hSd b214 b234 b213 b233 b212 b232 L13 W13 O13 L12 W12 O12 fW WP hrun xi x5 a1 a2 a3 HIX
                      go_wp2_with fail
                      go_roundw
                      case rel => exact ⟨j + 1, N + 1, c', n + 1, A9, c9, by omega, by omega, by omega, by go_num, rfl, by rw [HLS.out, List.length_append, ← HN.out]; rfl, by rw [HLS.out, List.flatMap_append]; simpa using O14.out, WPH.out, L14.out⟩
                      case measure => simp [intOf]; omega
                  · have hjm : j = m := by omega
                    subst hjm
                    have W0 := HW.out
                    have hho := lw_hor hL N w.heap.size ca Aa (lvs fl j) HN.out (by rw [← HN.out]; exact HO.out)
                    obtain ⟨hz, hhz⟩ : ∃ z, hzn (1 + S.length) (lvs fl j) = z := ⟨_, rfl⟩
                    rw [hhz] at hho
                    have HHO := Lib.hid hho
                    have HHZ := Lib.hid (show ∀ t, t ∈ lvs fl j → hz ≤ t.xmin from fun t ht => by rw [← hhz]; exact hzn_le ht)
                    clear hho hhz
                    go_wp2_with fail
                    refine (HHO.out).mono ?_
                    rintro e w20 ⟨rfl, xh⟩
                    have L20 := hL.next xh
                    have W20 := W0.below xh
                    have HPR := Lib.hid (lw_prune L20 hz)
                    clear hL W0 HHO xh HW HO
                    go_wp2_with fail
                    refine (HPR.out).mono ?_
                    rintro e w21 ⟨zz, rfl, L21, f21⟩
                    have W21 := W20.frt f21
                    obtain ⟨D, hD, hat⟩ := W21.at
                    have HAT := Lib.hid hat
                    have HL21 := Lib.hid L21
                    clear L20 W20 HPR f21 W21 hat
                    go_wp2_with (at_range; refine wpList_range_own _ rfl _ 92 rfl 28 28 lawU Try.underlying92 _ bw n D rfl hD ?_; intro w22 hrg0 hg22 hs22)
                    go_frame
                    have L22 := HL21.out.next ⟨hg22.os, hg22.tape, hg22.output, hg22.size, fun i hi => hg22.block i hi (fun e => by cases e)⟩
                    have HL22 := Lib.hid L22
                    have hitB : w.heap.size ≤ w21.heap.size := HL21.out.below.size
                    generalize hit : w21.heap.size = it at *
                    clear hit L22 L21 hD hg22 hs22
                    go_loopw [] (fun wr => ∃ (left : Lit → Bool) (cnt : Nat), wr.ranges Try.prog 28 (plainElem Try.prog 28) bw it n D left cnt ∧ (∀ kl, left kl = true → Maps.has D kl = true) ∧ Lw w wr g k bm S last (liveT S hz T) (liveI S hz I) fl cm nm (.slice (some ao) j co) j) (fun wr => wr.rangeLeft bw it)
                    case atStart => exact ⟨_, _, hrg0, fun _ h => h, HL22.out⟩
                    case round =>
                      obtain ⟨left, cnt, hrg, hlf, hL⟩ := hrel
                      have HLF := Lib.hid hlf
                      have HL := Lib.hid hL
                      have HRG := Lib.hid hrg
                      clear hlf hL
                      go_wp2_with (at_next; refine wpList_next_ranges_ii _ rfl _ rfl 28 28 .u64 .u64 lawU Try.underlying28 Try.underlying28 bw it n _ _ _ rfl hrg ?_ ?_)
                      · intro _ _
                        clear hrg
                        go_wp2
                        go_roundw
                        case rel => exact ⟨i + 1, j, last, cm, nm, S, liveT S hz T, liveI S hz I, fl, some ao, co, by omega, by omega, by go_num, rfl, HR.out.more HL.out (Nat.le_succ _)⟩
                        case measure => simp [intOf]; omega
                      · intro x' cc w9 cnt1 hwx hwc hlx hat rg1 hlt9 hg9 hs9 hen
                        obtain ⟨y, t, rfl, hy1, hy2, hft, hcc⟩ := HAT.out x' cc hwx (HLF.out _ hlx) hat
                        have hnt : ∀ e, ¬ Ty wr it e := fun e ⟨cs, q, h⟩ => by
                          obtain ⟨es, clock, since, seen, c0, g1, g2, g3, g4, g5, _⟩ := HRG.out
                          rw [g5] at h
                          cases h
                        have hbmit : bm ≠ it := fun e => by
                          obtain ⟨es, clock, since, seen, c0, g1, g2, g3, g4, g5, _⟩ := HRG.out
                          obtain ⟨D2, ⟨es2, clock2, hb2, _⟩, _⟩ := HL.out.mp
                          rw [e, g5] at hb2
                          cases hb2
                        have f9 : Fr (fun i => i = it) wr w9 := ⟨hg9.os, hg9.tape, hg9.output, hg9.size, fun i hi hne => hg9.block i hi (fun ee => hne (by injection ee))⟩
                        have L9 := HL.out.map' f9 hnt hbmit hitB
                        have hyl : y < 18446744073709551616 := Nat.lt_of_le_of_lt (Nat.le_trans hy2 hm40) (by decide)
                        have HGT := Lib.hid (fun W (hW : MG E11 W bm fl cm nm) => (show (Instr.lookup 90 (.map (some bm)) (.int .u64 (y : Int)) false).run Try.prog W = .ok (.agg #[.int .u64 (t.own : Int), .int .u64 (t.xmin : Int), .int .u64 (t.xmax : Int), .slice t.A t.R.length t.c]) W from by have h := hW.get Try.underlying90 hyl; rw [hft] at h; exact h))
                        have hget := HGT.out w9 L9.mp
                        have hsame := was_live (h := hz) (T := T) (I := I) (HLV.out y t hft) (HHZ.out t (lvs_mem hft hy1 hy2)) nm1
                        have htb := lw_table L9 y t nm1 hft
                        unfold Sn.V at htb
                        obtain ⟨tid, htid⟩ : ∃ z, tidV S t nm1 (liveT S hz T) = z := ⟨_, rfl⟩
                        have htl := tid_le L9 t nm1
                        have hwv : wasV S t nm1 (liveT S hz T) (liveI S hz I) = tid + 1000 * ((liveI S hz I).filter (ixP S t.own t.xmax t.R tid)).length := by unfold wasV; rw [htid]
                        rw [htid] at htb htl
                        have hil := ixs_le L9 (ixP S t.own t.xmax t.R tid)
                        obtain ⟨qn, hqn⟩ : ∃ z, ((liveI S hz I).filter (ixP S t.own t.xmax t.R tid)).length = z := ⟨_, rfl⟩
                        rw [hqn] at hil hwv
                        obtain ⟨pn, hpn⟩ : ∃ z, 1000 * qn = z := ⟨_, rfl⟩
                        obtain ⟨vn, hvn⟩ : ∃ z, tid + pn = z := ⟨_, rfl⟩
                        have hcc2 : cc = (vn : Int) := by rw [hcc, ← hsame, hwv, hpn, hvn]
                        have a1 : IntKind.u64.wrap (qn : Int) = (qn : Int) := IntWalk.u64_in _ (by omega)
                        have a2 : IntKind.u64.wrap (1000 * (qn : Int)) = (pn : Int) := by rw [show 1000 * (qn : Int) = (pn : Int) by omega]; exact IntWalk.u64_in _ (by omega)
                        have a3 : IntKind.u64.wrap ((tid : Int) + (pn : Int)) = (vn : Int) := by rw [show (tid : Int) + (pn : Int) = (vn : Int) by omega]; exact IntWalk.u64_in _ (by omega)
                        have HIXF := Lib.hid (fun W (hW : Lw w W g k bm S last (liveT S hz T) (liveI S hz I) fl cm nm (.slice (some ao) j co) j) => (show Calls Try.prog 39 #[.pointer (some ⟨k, 0, none⟩), .pointer (some ⟨g, 0, none⟩), .agg #[.int .u64 (t.own : Int), .int .u64 (t.xmin : Int), .int .u64 (t.xmax : Int), .slice t.A t.R.length t.c], .int .u64 (tid : Int)] W fun e w' => (∃ A c, e = .returned (.slice A qn c)) ∧ Below W.heap.size W w' from by have h := lw_ixs hW y tid t hft; rw [hqn] at h; exact h))
                        have HTB := Lib.hid htb
                        have HRG9 := Lib.hid rg1
                        subst hcc2
                        clear htb htid hwv hqn hpn hvn hsame hcc hft hnt hbmit f9 rg1 hrg hg9 hlx hat
                        go_wp2_with fail
                        refine (HTB.out).mono ?_
                        rintro e w10 ⟨⟨n1, At, ct, Nt, x1, x2, bb1, rfl⟩, xt⟩
                        have L10 := L9.next xt
                        have RG10 := Lib.hid (ranges_below HRG9.out xt)
                        have xz : Below w10.heap.size w10 (w10.alloc (.cells #[.int .u64 (tid : Int), .string n1, .slice At Nt ct, .int .u64 x1, .int .u64 x2] 85)) := (Below.refl _ _).al _
                        have b23 := Bx.new w10 85 #[.int .u64 (tid : Int), .string n1, .slice At Nt ct, .int .u64 x1, .int .u64 x2] [.int .u64 (tid : Int), .string n1, .slice At Nt ct, .int .u64 x1, .int .u64 x2] rfl
                        have L11 := L10.next xz
                        have RG11 := Lib.hid (ranges_below RG10.out xz)
                        clear L9 HTB L10 hget hen
                        go_upto_region 36 with fail
                        generalize w10.alloc (.cells #[.int .u64 (tid : Int), .string n1, .slice At Nt ct, .int .u64 x1, .int .u64 x2] 85) = U2 at *
                        generalize w10.heap.size = q27 at *
                        clear xz xt
                        have x5 : Below U2.heap.size U2 U2.drew := below_n U2 1
                        have L12 := L11.next x5
                        have RG12 := Lib.hid (ranges_below RG11.out x5)
                        have b232 := b23.below x5
                        have hSd : (Instr.lookup 90 (.map (some bm)) (.int .u64 (y : Int)) false).run Try.prog U2.drew = .ok (.agg #[.int .u64 (t.own : Int), .int .u64 (t.xmin : Int), .int .u64 (t.xmax : Int), .slice t.A t.R.length t.c]) U2.drew ∧ U2.drew.cell? ⟨q27, 0, none⟩ = some (.int .u64 (tid : Int)) := ⟨HGT.out _ L12.mp, b232.cell 0⟩
                        have HIX := Lib.hid (HIXF.out _ L12)
                        clear L11 b23
                        go_region_held3 (fun w' => (Instr.lookup 90 (.map (some bm)) (.int .u64 (y : Int)) false).run Try.prog w' = .ok (.agg #[.int .u64 (t.own : Int), .int .u64 (t.xmin : Int), .int .u64 (t.xmax : Int), .slice t.A t.R.length t.c]) w' ∧ w'.cell? ⟨q27, 0, none⟩ = some (.int .u64 (tid : Int))) (first | (with_reducible assumption))
                          (first | (go_at_call 39; (with_reducible refine (HIX.out).mono ?_); rintro e w13 ⟨⟨Ai, ci, rfl⟩, xi⟩; have L13 := L12.next xi; have RG13 := Lib.hid (ranges_below RG12.out xi); have b233 := b232.below xi; have hS3 : (Instr.lookup 90 (.map (some bm)) (.int .u64 (y : Int)) false).run Try.prog w13 = .ok (.agg #[.int .u64 (t.own : Int), .int .u64 (t.xmin : Int), .int .u64 (t.xmax : Int), .slice t.A t.R.length t.c]) w13 ∧ w13.cell? ⟨q27, 0, none⟩ = some (.int .u64 (tid : Int)) := ⟨HGT.out _ L13.mp, b233.cell 0⟩))
                        have HL13 := Lib.hid L13
                        clear hS3 hSd b232 b233 L12 L13 HIX xi x5 a1 a2 a3
                        go_wp2_with fail
                        go_roundw
                        case rel => exact ⟨_, cnt1, RG13.out, fun kl h => HLF.out kl (by simp at h; exact h.1), HL13.out⟩
                        case measure => rw [RG13.out.left_eq, HRG.out.left_eq]; exact hlt9
      · have h40' : (40 : Int) ≤ (i : Int) := by omega
        clear b9 y9 L9
        go_wp2_with fail
        go_ret
        exact ⟨rfl, (HR.out.lw.next ((Below.refl _ _).al _)).below⟩
    · clear hi40
      go_wp2_with fail
      go_ret
      exact ⟨rfl, hR.lw.below⟩
end Go.Proofs.Ytbmkhopmhmmibaa.bookPrunes
