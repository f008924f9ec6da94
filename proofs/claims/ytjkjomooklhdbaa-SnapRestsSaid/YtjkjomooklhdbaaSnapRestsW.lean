/-
  SnapRests: the walk: the law answers true; of what was there nothing has turned.
-/
import Derived.Test.YtjkjomooklhdbaaSnapH
import Derived.Deep.DeepCutAuto
namespace Go.Proofs.Ytjkjomooklhdbaa.snapRests
open Go.RowKit Go.Maps
set_option linter.unusedVariables false

/-- What stands between the rounds. -/
structure Sr (w wr : World) (g m n : Nat) (S : List Nat) (F : Nat → Prop) (fl : Nat → Option Sn) (dv : Value) (D : List (Nat × Nat)) : Prop where
  log : LG wr g 1 S F
  mine : Mine w.heap.size w wr F
  map : ∃ c, MG E10 wr m fl c n
  m0 : w.heap.size ≤ m
  nF : ¬ F m
  dead : wr.ownsRow w.heap.size 71 6 dv D.length (D.flatMap tpc)
  rst : Rst S fl D
section
variable {w wr w1 : World} {g m n : Nat} {S : List Nat} {F : Nat → Prop} {fl : Nat → Option Sn} {dv : Value} {D : List (Nat × Nat)}
theorem Sr.below (h : Sr w wr g m n S F fl dv D) (hb : Below wr.heap.size wr w1) : Sr w w1 g m n S F fl dv D :=
  ⟨h.log.below hb, h.mine.next hb, h.map.imp fun c hc => hc.below hb, h.m0, h.nF, own_below h.dead hb, h.rst⟩
theorem Sr.mlt (h : Sr w wr g m n S F fl dv D) : m < wr.heap.size := by obtain ⟨c, hc⟩ := h.map; exact hc.lt
theorem Sr.fr {T : Nat → Prop} (h : Sr w wr g m n S F fl dv D) (hf : Fr T wr w1) (h0 : ∀ k, T k → w.heap.size ≤ k) (h1 : ∀ k, F k → ¬ T k) (h2 : ¬ T m) (h3 : ∀ k, dv.ownBlock = some k → ¬ T k) : Sr w w1 g m n S F fl dv D :=
  ⟨h.log.fr hf h1, ⟨h.mine.above, h.mine.below.trans (hf.below h0 h.mine.size), Nat.le_trans h.mine.size hf.size⟩, h.map.imp fun c hc => hc.fr hf h2, h.m0, h.nF, hf.own h.dead h3, h.rst⟩
theorem Sr.m_ty (h : Sr w wr g m n S F fl dv D) {t : TypeId} : ¬ Ty wr m t := by obtain ⟨c, hc⟩ := h.map; exact hc.not_ty
/-- A row of snapshots has grown. -/
theorem Sr.grown (h : Sr w wr g m n S F fl dv D) {v : Value} {k : Nat} {xs : List Value} (ho : wr.ownsRow w.heap.size 76 4 v k xs) (hg : wr.grownBy w1 v.ownBlock) : Sr w w1 g m n S F fl dv D :=
  h.fr (Fr.of_own (S := fun k => v.ownBlock = some k) hg fun k e => e) (fun k e => (ho.lt k e).1) (fun k hk e => h.log.not (own_ty ho e) (by decide) (by decide) (by decide) hk) (fun e => h.m_ty (own_ty ho e)) fun k e e' => (own_ty h.dead e).ne (own_ty ho e') (by decide) rfl
/-- One more version. -/
theorem Sr.more (h : Sr w wr g m n S F fl dv D) {v : Value} {t : Nat × Nat} (hg : wr.grownBy w1 dv.ownBlock) (ho : w1.ownsRow w.heap.size 71 6 v (D.length + 1) (D.flatMap tpc ++ tpc t)) (hr : Rst S fl (D ++ [t])) : Sr w w1 g m n S F fl v (D ++ [t]) := by
  have hf : Fr (fun k => dv.ownBlock = some k) wr w1 := Fr.of_own hg fun k e => e
  refine ⟨h.log.fr hf fun k hk e => h.log.not (own_ty h.dead e) (by decide) (by decide) (by decide) hk, ⟨h.mine.above, h.mine.below.trans (hf.below (fun k e => (h.dead.lt k e).1) h.mine.size), Nat.le_trans h.mine.size hf.size⟩, h.map.imp fun c hc => hc.fr hf fun e => h.m_ty (own_ty h.dead e), h.m0, h.nF, ?_, hr⟩
  rw [List.length_append, List.length_singleton, List.flatMap_append, List.flatMap_cons, List.flatMap_nil, List.append_nil]
  exact ho
/-- The log has gone ahead, and the map with it. -/
theorem Sr.step {w2 : World} {n' : Nat} {S' : List Nat} {F' : Nat → Prop} {fl' : Nat → Option Sn} (h : Sr w wr g m n S F fl dv D) (h1 : LG w1 g 1 S' F') (hc : Chg F F' wr w1) {w1' : World} (hb : Below w1.heap.size w1 w1') (h2 : ∃ c, MG E10 w2 m fl' c n') (hf : Fr (fun k => k = m) w1' w2) (hr : Rst S' fl' D) : Sr w w2 g m n' S' F' fl' dv D := by
  have hm1 := h.mine.chg hc
  have hnF : ¬ F' m := fun hh => (hc.new m hh).elim h.nF fun hh => by have := h.mlt; omega
  have hd1 := hc.fr.own h.dead fun k e hk => h.log.not (own_ty h.dead e) (by decide) (by decide) (by decide) hk
  obtain ⟨c, hmap⟩ := h.map
  have hmap1 := (hmap.fr hc.fr h.nF).below hb
  have hd2 := own_below hd1 hb
  have hm2 := hm1.next hb
  refine ⟨(h1.below hb).fr hf fun k hk e => hnF (e ▸ hk), ⟨hm2.above, hm2.below.trans (hf.below (fun k e => by have := h.m0; omega) hm2.size), Nat.le_trans hm2.size hf.size⟩, h2, h.m0, hnF, hf.own hd2 fun k e e' => ?_, hr⟩
  subst e'
  exact hmap1.not_ty (own_ty hd2 e)
end
theorem hor_any (w : World) (g f N b : Nat) (S : List Nat) (F : Nat → Prop) (L : List Sn) (A : Option Addr) (c : Nat) (hl : LG w g f S F) (hN : N = L.length) (ho : w.ownsRow b 76 4 (.slice A N c) L.length (L.flatMap Sn.e)) :
    Calls Try.prog 29 #[.pointer (some ⟨g, 0, none⟩), .slice A N c] w fun e w' => e = .returned (.int .u64 ((hzn (f + S.length) L : Nat) : Int)) ∧ Below w.heap.size w w' := by
  obtain ⟨A', c', hv, hc, hm, hr⟩ := own_form ho
  injection hv with e1 e2 e3
  subst e1 e3 hN
  cases L with
  | nil => exact hor_nil w g f S F A c hl
  | cons s r => exact hor_cons w _ s r A c hr hc (by unfold maxLen at hm; omega)
theorem cell_al {W : World} {a : Addr} {u : Value} (o : Obj) (h : W.cell? a = some u) : (W.alloc o).cell? a = some u := (World.cell?_alloc_lt W o _ (World.block_lt_of_cell? _ _ h)).trans h
theorem cell_set6 {W : World} {a : Addr} {b : Nat} {u u0 u1 u2 u3 u4 u5 : Value} (hne : a.block ≠ b) (h : W.cell? a = some u) : ((((((W.setCell ⟨b, 0, none⟩ u0).setCell ⟨b, 1, none⟩ u1).setCell ⟨b, 2, none⟩ u2).setCell ⟨b, 3, none⟩ u3).setCell ⟨b, 4, none⟩ u4).setCell ⟨b, 5, none⟩ u5).cell? a = some u := by
  unfold World.cell? at h ⊢
  rw [heap_setCell_other _ ⟨b, 5, none⟩ _ _ hne, heap_setCell_other _ ⟨b, 4, none⟩ _ _ hne, heap_setCell_other _ ⟨b, 3, none⟩ _ _ hne, heap_setCell_other _ ⟨b, 2, none⟩ _ _ hne, heap_setCell_other _ ⟨b, 1, none⟩ _ _ hne, heap_setCell_other _ ⟨b, 0, none⟩ _ _ hne]
  exact h
theorem below_set6 {w W : World} {b : Nat} {u0 u1 u2 u3 u4 u5 : Value} (h : Below w.heap.size w W) (hb : w.heap.size ≤ b) : Below w.heap.size w ((((((W.setCell ⟨b, 0, none⟩ u0).setCell ⟨b, 1, none⟩ u1).setCell ⟨b, 2, none⟩ u2).setCell ⟨b, 3, none⟩ u3).setCell ⟨b, 4, none⟩ u4).setCell ⟨b, 5, none⟩ u5) :=
  (((((h.setCell hb _).setCell hb _).setCell hb _).setCell hb _).setCell hb _).setCell hb _
theorem pr_under : Try.prog.underlying 67 = some (.array (Try.prog.arrayLen 67) (Try.prog.elem 67)) := by kernel_rfl
theorem pr_len : Try.prog.arrayLen 67 = 2 := by kernel_rfl
theorem pr_elem : Try.prog.elem 67 = 22 := by kernel_rfl
theorem elem_at_a (ad : Addr) (W : World) : (Instr.indexAt 67 (.pointer (some ad)) (.int .i64 0)).run Try.prog W = .ok (.pointer (some ad)) W := by
  rw [run_indexAt_array (h := pr_under), if_pos (by rw [pr_len]; omega), pr_elem, show (sizeOf 22).run Try.prog W = .ok 1 W by kernel_rfl]
  simp [Result.andThen, Addr.add]
theorem elem_at_b (ad : Addr) (W : World) : (Instr.indexAt 67 (.pointer (some ad)) (.int .i64 1)).run Try.prog W = .ok (.pointer (some ⟨ad.block, ad.off + 1, none⟩)) W := by
  rw [run_indexAt_array (h := pr_under), if_pos (by rw [pr_len]; omega), pr_elem, show (sizeOf 22).run Try.prog W = .ok 1 W by kernel_rfl]
  simp [Result.andThen, Addr.add]
set_option maxRecDepth 100000 in
set_option maxHeartbeats 16000000 in
theorem walk (A : Option Addr) (cc : Nat) (l : List Op10) (A1 : Option Addr) (cc1 : Nat) (lp : List Pr) (w : World) (r0 : Rd w 2 A l.length (l.flatMap Op10.e)) (n0 : l.length ≤ cc) (m0 : cc ≤ 9223372036854775807) (r1 : Rd w 2 A1 lp.length (lp.flatMap Pr.e)) (n1 : lp.length ≤ cc1) (m1 : cc1 ≤ 9223372036854775807) :
    Calls Try.prog 10 #[.slice A l.length cc, .slice A1 lp.length cc1] w fun e w' => e = .returned (.bool true) ∧ Below w.heap.size w w' := by
  have hmm := (@run_makeMap Try.prog)
  obtain ⟨i4, hi4, hz40, hz41, hz42⟩ := info_parts4 info_sn
  obtain ⟨i6, hi6, hz60, hz61, hz62⟩ := info_parts4 info_tp
  go_enter Try.func10, Try.ntmps10
  go_wp2_with fail
  refine (awake10_any w).mono ?_
  rintro e w1 ⟨rfl, hb1⟩
  go_wp2_with fail
  refine (lg_new w1 1 (by decide) (by decide)).mono ?_
  rintro e w2 ⟨rfl, h2, hb2⟩
  have m2 : Mine w.heap.size w w2 (fun k => k = w1.heap.size) := ⟨fun k hk => by have := hb1.size; omega, hb1.trans (hb2.mono hb1.size), Nat.le_trans hb1.size hb2.size⟩
  clear hb1 hb2
  generalize w1.heap.size = g at *
  have S0 : Sr w (w2.alloc (.map #[] 0)) g w2.heap.size 0 [] (fun k => k = g) (fun _ => none) (.slice none 0 0) [] :=
    ⟨h2.alloc _, m2.alloc _, ⟨_, mg_made E10 w2⟩, m2.size, fun hh => by have := h2.lt hh; omega, World.ownsRow_nil _ _ _ _, rst_nil⟩
  clear h2 m2
  go_wp2
  generalize w2.heap.size = m at *
  go_loopw [8, 31] (fun dv iv wr => ∃ (i n N8 : Nat) (S : List Nat) (F : Nat → Prop) (fl : Nat → Option Sn) (A8 : Option Addr) (c8 : Nat) (D : List (Nat × Nat)), i ≤ l.length ∧ i ≤ 50 ∧ n ≤ i ∧ S.length ≤ i ∧ D.length ≤ i ∧ N8 = D.length ∧ iv = .int .i64 (i : Int) ∧ dv = .slice A8 N8 c8 ∧ Sr w wr g m n S F fl (.slice A8 N8 c8) D) (fun _ iv _ => l.length - (intOf iv).toNat)
  case atStart => exact ⟨0, 0, 0, _, _, _, _, _, _, Nat.zero_le _, by omega, by omega, Nat.le_refl _, Nat.le_refl _, rfl, rfl, rfl, S0⟩
  case round =>
    obtain ⟨i, n, N8, S, F, fl, A8, c8, D, hi, hi5, hn, hSl, hDl, hN8, rfl, rfl, hS⟩ := hrel
    by_cases hend : i < l.length ∧ i < 50
    · obtain ⟨hlt, h50⟩ := hend
      obtain ⟨ad, rfl, q0, q1⟩ := op10_at (Rd.below r0 (hS.mine.below.mono (Nat.le_refl _))) hlt
      have ix := idx_op10 ad l.length cc i hlt
      have ho2 := l[i].h2
      generalize l[i] = o at *
      obtain ⟨d, hd⟩ : ∃ d, d = o.do_ % 4 := ⟨_, rfl⟩
      obtain ⟨x, hx⟩ : ∃ x, x = o.xid % 50 := ⟨_, rfl⟩
      have ed : ((o.do_ : Int)).tmod 4 = (d : Int) := by rw [hd, Int.tmod_eq_emod_of_nonneg (by omega)]; omega
      have ex : ((o.xid : Int)).tmod 50 = (x : Int) := by rw [hx, Int.tmod_eq_emod_of_nonneg (by omega)]; omega
      have hx5 : x < 50 := by omega
      have hd4 : d < 4 := by omega
      have HN8 := Lib.hid hN8
      have R1 := Lib.hid r1
      clear hd hx r0 S0 hN8
      have SW := hS.below ((Below.refl _ _).al (.cells #[.int .u8 (o.do_ : Int), .int .u64 (o.xid : Int)] 89))
      have b := Bx.new wr 89 #[.int .u8 (o.do_ : Int), .int .u64 (o.xid : Int)] [.int .u8 (o.do_ : Int), .int .u64 (o.xid : Int)] rfl
      have c0 := b.cell 0
      have c1 := b.cell 1
      clear hS b
      by_cases hd0 : d = 0
      · subst hd0
        obtain ⟨c, hmap⟩ := SW.map
        have hB := lg_begin _ g 1 S F SW.log
        have hbl : begL 1 S = S ++ [1] := by unfold begL; rw [if_pos (by omega)]
        obtain ⟨y1, hy1⟩ : ∃ y1, y1 = 1 + S.length := ⟨_, rfl⟩
        have hbr : begR 1 S = .tuple #[.int .u64 (y1 : Int), .int .i64 0] := by unfold begR; rw [if_pos (by omega), ← hy1]
        rw [hbl, hbr] at hB
        have HC := Lib.hid hB
        have hy6 : y1 < 60 := by omega
        have HR := Lib.hid (fun (sn : Sn) (h : sn.xmin = least (others (runs 1 (S ++ [1])) y1) (1 + (S ++ [1]).length)) => by
          have := rst_begin SW.rst sn (by rw [← hy1]; exact h)
          rw [← hy1] at this
          exact this)
        have hTl : (S ++ [1]).length ≤ i + 1 := by simp; omega
        clear hB hbl hbr hy1
        go_wp2_with fail
        refine (HC.out).mono ?_
        rintro e w3 ⟨rfl, F3, h3, g3⟩
        have u3 := hmap.fr g3.fr SW.nF
        have hT := take_any w3 g 1 y1 _ _ h3
        unfold snv at hT
        have HT := Lib.hid hT
        obtain ⟨xm, hxm⟩ : ∃ xm, xm = least (others (runs 1 (S ++ [1])) y1) (1 + (S ++ [1]).length) := ⟨_, rfl⟩
        obtain ⟨nx, hnx⟩ : ∃ nx, nx = 1 + (S ++ [1]).length := ⟨_, rfl⟩
        obtain ⟨Q, hQ⟩ : ∃ Q, Q = others (runs 1 (S ++ [1])) y1 := ⟨_, rfl⟩
        rw [← hxm] at HT HR
        rw [← hnx, ← hQ] at HT
        clear hT c0 c1 q0 q1 HC hxm hnx hQ
        go_wp2_with fail
        refine (HT.out).mono ?_
        rintro e w4 ⟨v4, rfl, o4, b4⟩
        obtain ⟨A4, k4, hv4, _, _, _⟩ := own_form o4
        subst hv4
        have u4 := u3.below b4
        clear o4 HT u3
        go_wp2_with (at_mapUpdate; refine wpList_mg_put E10 _ rfl _ _ _ 94 rfl Try.underlying94 m c n fl rfl u4 (by omega) y1 (by omega) ⟨y1, xm, nx, Q, A4, k4⟩ rfl rfl ?_; intro w5 u5 f5; have S5 := SW.step h3 g3 b4 ⟨_, u5⟩ f5 (HR.out ⟨y1, xm, nx, Q, A4, k4⟩ rfl); clear u5 f5 u4 b4 h3 g3 SW hmap)
        clear HR
        generalize S ++ [1] = T at *
        generalize updG fl y1 (some ⟨y1, xm, nx, Q, A4, k4⟩) = fk at *
        go_loopw [14, 69] (fun av kv wr => ∃ (k NA : Nat) (A14 : Option Addr) (c14 : Nat), k ≤ 60 ∧ NA = (lv fk k).length ∧ kv = .int .u64 (k : Int) ∧ av = .slice A14 NA c14 ∧ wr.ownsRow w.heap.size 76 4 (.slice A14 NA c14) (lv fk k).length ((lv fk k).flatMap Sn.e) ∧ Sr w wr g m (n + 1) T F3 fk (.slice A8 N8 c8) D) (fun _ kv _ => 60 - (intOf kv).toNat)
        case atStart => exact ⟨0, 0, none, 0, by omega, rfl, rfl, rfl, World.ownsRow_nil _ _ _ _, S5⟩
        case round =>
          obtain ⟨k, NA, A14, c14, hk, hNA, rfl, rfl, oA, S6⟩ := hrel
          clear S5
          by_cases hk6 : k < 60
          · obtain ⟨c, hmap⟩ := S6.map
            have hg0 := mg_get hmap (x := k) (by omega)
            have hls := lv_succ fk k
            have HNA := Lib.hid hNA
            have hNl := lv_len fk k
            have hbw := S6.mine.size
            clear hmap hNA
            cases hfk : fk k with
            | none =>
              rw [hfk] at hg0 hls
              have hgl : (Instr.lookup 94 (.map (some m)) (.int .u64 (k : Int)) true).run Try.prog wr = .ok (.tuple #[.agg #[.int .u64 0, .int .u64 0, .int .u64 0, .slice none 0 0], .bool false]) wr := hg0
              have HLS := Lib.hid (show lv fk (k + 1) = lv fk k by simpa using hls)
              have HO := Lib.hid (own_below oA ((Below.refl _ _).al (.cells #[.int .u64 0, .int .u64 0, .int .u64 0, .slice none 0 0] 76)))
              have HS7 := Lib.hid (S6.below ((Below.refl _ _).al (.cells #[.int .u64 0, .int .u64 0, .int .u64 0, .slice none 0 0] 76)))
              clear hg0 hls S6 oA hfk
              go_wp2
              go_roundw
              case rel => exact ⟨k + 1, NA, A14, c14, by omega, by rw [HLS.out]; exact HNA.out, by go_num, rfl, by rw [HLS.out]; exact HO.out, HS7.out⟩
              case measure => simp [intOf]; omega
            | some s =>
              rw [hfk] at hg0 hls
              have hgl : (Instr.lookup 94 (.map (some m)) (.int .u64 (k : Int)) true).run Try.prog wr = .ok (.tuple #[.agg #[.int .u64 (s.own : Int), .int .u64 (s.xmin : Int), .int .u64 (s.xmax : Int), .slice s.A s.R.length s.c], .bool true]) wr := hg0
              have HLS := Lib.hid (show lv fk (k + 1) = lv fk k ++ [s] by simpa using hls)
              have xb := (Below.refl wr.heap.size wr).al (.cells #[.int .u64 (s.own : Int), .int .u64 (s.xmin : Int), .int .u64 (s.xmax : Int), .slice s.A s.R.length s.c] 76)
              have HO := Lib.hid (own_below (own_below oA xb) ((Below.refl _ _).al (.cells #[.int .u64 (s.own : Int), .int .u64 (s.xmin : Int), .int .u64 (s.xmax : Int), .slice s.A s.R.length s.c] 76)))
              have HS7 := Lib.hid ((S6.below xb).below ((Below.refl _ _).al (.cells #[.int .u64 (s.own : Int), .int .u64 (s.xmin : Int), .int .u64 (s.xmax : Int), .slice s.A s.R.length s.c] 76)))
              clear hg0 hls S6 oA hfk xb
              go_wp2_with (at_builtin; refine wpList_append_src _ rfl (.tmp 79) (.tmp 81) 62 62 rfl w.heap.size 76 _ _ 4 48 Try.underlying62 hi4 hz40 hz41 hz42 rfl _ _ _ rfl HO.out _ 1 s.e rfl (src_rd Try.underlying62 _ (rd_lit (by first | rfl | simp) rfl rfl) (by decide) (sn_one s)) (by simp only [maxLen]; omega) (by omega) (by simp; omega) ?_; intro v9 w9 ho9 hg9 ha9; have S9 := HS7.out.grown HO.out hg9; obtain ⟨A9, c9, hv9, _, _, _⟩ := own_form ho9; subst hv9; have HO9 := Lib.hid ho9; clear ho9 hg9 ha9)
              go_roundw
              case rel => exact ⟨k + 1, _, A9, c9, by omega, by rw [HLS.out, List.length_append]; rfl, by go_num, rfl, by
                rw [HLS.out, List.length_append, List.flatMap_append, List.flatMap_cons, List.flatMap_nil, List.append_nil]
                exact HO9.out, S9⟩
              case measure => simp [intOf]; omega
          · obtain rfl : k = 60 := by omega
            have HH := Lib.hid (hor_any wr g 1 NA _ T F3 (lv fk 60) A14 c14 S6.log hNA oA)
            have HD := Lib.hid (fun (t : Nat × Nat) (ht : t ∈ D) => rst_holds S6.rst ht)
            have HNW := Lib.hid (fun (a b : Nat) (h : deadB 1 T a b (hzn (1 + T.length) (lv fk 60)) = true) => rst_new S6.rst (by omega) h)
            obtain ⟨hz, hhz⟩ : ∃ hz, hz = hzn (1 + T.length) (lv fk 60) := ⟨_, rfl⟩
            rw [← hhz] at HH HD HNW
            clear hhz hNA oA
            go_wp2_with (go_at_call 29; (with_reducible refine (HH.out).mono ?_); rintro e w7 ⟨rfl, b7⟩; have S7 := S6.below b7; clear b7 S6)
            go_loopw [89] (fun jv wr => ∃ j : Nat, j ≤ D.length ∧ jv = .int .i64 (j : Int) ∧ Sr w wr g m (n + 1) T F3 fk (.slice A8 N8 c8) D) (fun jv _ => D.length - (intOf jv).toNat)
            case atStart => exact ⟨0, Nat.zero_le _, rfl, S7⟩
            case round =>
              obtain ⟨j, hj, rfl, S8⟩ := hrel
              clear S7
              have hbw := S8.mine.size
              by_cases hjD : j < D.length
              · have hjN : j < N8 := by rw [HN8.out]; exact hjD
                obtain ⟨A8', c8', hv8, _, _, hr8⟩ := own_form S8.dead
                injection hv8 with hA8 hNN hc8
                clear hNN
                subst hA8 hc8
                obtain ⟨ad8, hA8, p0, p1, p2, p3, p4, p5⟩ := tp_at hr8 hjD
                subst hA8
                have ix8 := idx_tp ad8 N8 c8 j hjN
                have hdd := HD.out D[j] (List.getElem_mem hjD)
                generalize D[j] = t at *
                obtain ⟨a, b⟩ := t
                have hdd : deadB 1 T a b hz = true := hdd
                have xb := (Below.refl wr.heap.size wr).al (.cells #[.int .u64 0, .int .u64 (a : Int), .int .u64 (b : Int), .int .i64 0, .int .i64 0, .slice none 0 0] 71)
                have S9 := S8.below xb
                have hdc := dead_any _ g 1 a b hz T F3 S9.log
                rw [hdd] at hdc
                have HDC := Lib.hid hdc
                clear hdd hr8 S8 xb hdc
                go_wp2_with (go_at_call 32; (with_reducible refine (HDC.out).mono ?_); rintro e wa ⟨rfl, ba⟩; have Sa := S9.below ba; clear ba S9)
                go_roundw
                case rel => exact ⟨j + 1, by omega, by go_num, Sa⟩
                case measure => simp [intOf]; omega
              · have hjN : ¬ j < N8 := by rw [HN8.out]; exact hjD
                by_cases his : i < lp.length
                · obtain ⟨ad2, rfl, p0, p1⟩ := pr_at (Rd.below R1.out (S8.mine.below.mono (Nat.le_refl _))) his
                  have ix2 := idx_pr ad2 lp.length cc1 i his
                  have ixa := elem_at_a (ad2.add (i * 2))
                  have ixb := elem_at_b (ad2.add (i * 2))
                  have hp1 := lp[i].h1
                  have hp2 := lp[i].h2
                  generalize lp[i].a = ya at *
                  generalize lp[i].b = yb at *
                  obtain ⟨a, ha⟩ : ∃ a, a = ya % 50 := ⟨_, rfl⟩
                  obtain ⟨b, hb⟩ : ∃ b, b = yb % 50 := ⟨_, rfl⟩
                  have ea : ((ya : Int)).tmod 50 = (a : Int) := by rw [ha, Int.tmod_eq_emod_of_nonneg (by omega)]; omega
                  have eb : ((yb : Int)).tmod 50 = (b : Int) := by rw [hb, Int.tmod_eq_emod_of_nonneg (by omega)]; omega
                  clear ha hb
                  have hT := fun W => tuple_any W a b
                  unfold tpv at hT
                  have HT := Lib.hid hT
                  clear hT
                  go_upto_region 37 with fail
                  go_cut [21] (fun s21 wx => ∃ t : Nat, s21 = .pointer (some ⟨t, 0, none⟩) ∧ Bx wx t 71 (tpcells a b) ∧ Below wr.heap.size wr wx)
                  case first =>
                    have hlt2 : (ad2.add (i * 2)).block < wr.heap.size := World.block_lt_of_cell? _ _ p0
                    have hne2 : (ad2.add (i * 2)).block ≠ wr.heap.size := by omega
                    have p0d : wr.drew.cell? (ad2.add (i * 2)) = some (.int .u64 (ya : Int)) := p0
                    have p1d : wr.drew.cell? ⟨(ad2.add (i * 2)).block, (ad2.add (i * 2)).off + 1, none⟩ = some (.int .u64 (yb : Int)) := p1
                    have a0d : (wr.alloc (.cells #[.int .u64 0, .int .u64 0, .int .u64 0, .int .i64 0, .int .i64 0, .slice none 0 0] 71)).drew.cell? (ad2.add (i * 2)) = some (.int .u64 (ya : Int)) := cell_al _ p0
                    have a1d : (wr.alloc (.cells #[.int .u64 0, .int .u64 0, .int .u64 0, .int .i64 0, .int .i64 0, .slice none 0 0] 71)).drew.cell? ⟨(ad2.add (i * 2)).block, (ad2.add (i * 2)).off + 1, none⟩ = some (.int .u64 (yb : Int)) := cell_al _ p1
                    have bA : Bx (wr.alloc (.cells #[.int .u64 0, .int .u64 0, .int .u64 0, .int .i64 0, .int .i64 0, .slice none 0 0] 71)).drew wr.heap.size 71 [.int .u64 0, .int .u64 0, .int .u64 0, .int .i64 0, .int .i64 0, .slice none 0 0] := Bx.new wr 71 _ _ rfl
                    have xA : Below wr.heap.size wr (wr.alloc (.cells #[.int .u64 0, .int .u64 0, .int .u64 0, .int .i64 0, .int .i64 0, .slice none 0 0] 71)).drew := ((Below.refl _ _).al _).next (below_n _ 1)
                    have xd : Below wr.heap.size wr wr.drew := below_n wr 1
                    have HTd := HT.out wr.drew
                    have HTa := HT.out (wr.alloc (.cells #[.int .u64 0, .int .u64 0, .int .u64 0, .int .i64 0, .int .i64 0, .slice none 0 0] 71)).drew
                    have HK : ∀ w4, Below wr.heap.size wr w4 → w4.cell? (ad2.add (i * 2)) = some (.int .u64 (ya : Int)) ∧ w4.cell? ⟨(ad2.add (i * 2)).block, (ad2.add (i * 2)).off + 1, none⟩ = some (.int .u64 (yb : Int)) := fun w4 x4 => ⟨(x4.cell hlt2).trans p0, (x4.cell (p := ⟨(ad2.add (i * 2)).block, (ad2.add (i * 2)).off + 1, none⟩) hlt2).trans p1⟩
                    go_region_held3 (fun w' => w'.cell? (ad2.add (i * 2)) = some (.int .u64 (ya : Int)) ∧ w'.cell? ⟨(ad2.add (i * 2)).block, (ad2.add (i * 2)).off + 1, none⟩ = some (.int .u64 (yb : Int))) (first | (with_reducible assumption) | (with_reducible exact ⟨p0d, p1d⟩) | (with_reducible exact ⟨a0d, a1d⟩) | (with_reducible exact ⟨cell_al _ (And.left (by assumption)), cell_al _ (And.right (by assumption))⟩) | (with_reducible exact ⟨cell_set6 hne2 (And.left (by assumption)), cell_set6 hne2 (And.right (by assumption))⟩))
                      (first
                      | (go_at_call 31; (with_reducible refine HTd.mono ?_); rintro e w4 ⟨rfl, hb4⟩; have x4 := xd.next hb4; have hS4 := HK w4 x4)
                      | (go_at_call 31; (with_reducible refine HTa.mono ?_); rintro e w4 ⟨rfl, hb4⟩; have x4 := xA.next hb4; have bt4 := bA.below hb4; have hS4 := HK w4 x4; have k0 := bt4.cell 0; have k1 := bt4.cell 1; have k2 := bt4.cell 2; have k3 := bt4.cell 3; have k4 := bt4.cell 4; have k5 := bt4.cell 5; have f0 := bt4.frozen 0; have f1 := bt4.frozen 1; have f2 := bt4.frozen 2; have f3 := bt4.frozen 3; have f4 := bt4.frozen 4; have f5 := bt4.frozen 5))
                    · go_wp2_with fail
                      go_meet
                      exact ⟨_, rfl, Bx.new w4 71 _ _ rfl, x4.al _⟩
                    · go_wp2_with fail
                      go_meet
                      exact ⟨_, rfl, ((((((bt4.set 0 _).set 1 _).set 2 _).set 3 _).set 4 _).set 5 _), below_set6 x4 (Nat.le_refl _)⟩
                  case rest =>
                    obtain ⟨t, rfl, bt, xt⟩ := hcut
                    have S9 := S8.below xt
                    have k0 : wc.cell? ⟨t, 0, none⟩ = some (.int .u64 0) := bt.cell 0
                    have k1 : wc.cell? ⟨t, 1, none⟩ = some (.int .u64 (a : Int)) := bt.cell 1
                    have k2 : wc.cell? ⟨t, 2, none⟩ = some (.int .u64 (b : Int)) := bt.cell 2
                    have k3 : wc.cell? ⟨t, 3, none⟩ = some (.int .i64 0) := bt.cell 3
                    have k4 : wc.cell? ⟨t, 4, none⟩ = some (.int .i64 0) := bt.cell 4
                    have k5 : wc.cell? ⟨t, 5, none⟩ = some (.slice none 0 0) := bt.cell 5
                    have HDC := Lib.hid (dead_any _ g 1 a b hz T F3 S9.log)
                    have hdn : deadB 1 T a b hz = true → Rst T fk (D ++ [(a, b)]) := fun h => HNW.out a b h
                    clear S8 xt
                    cases hdb : deadB 1 T a b hz with
                    | false =>
                      rw [hdb] at HDC
                      go_wp2_with (go_at_call 32; (with_reducible refine (HDC.out).mono ?_); rintro e wa ⟨rfl, ba⟩; have Sa := S9.below ba; clear ba S9)
                      go_roundw
                      case rel => exact ⟨i + 1, _, N8, _, _, _, _, _, _, by omega, by omega, by omega, hTl, by omega, HN8.out, by go_num, rfl, Sa⟩
                      case measure => simp [intOf]; omega
                    | true =>
                      rw [hdb] at HDC
                      have HRN := Lib.hid (hdn hdb)
                      go_wp2_with fail
                      refine (HDC.out).mono ?_
                      rintro e wa ⟨rfl, ba⟩
                      have Sa := S9.below ba
                      have bta := bt.below ba
                      have j0 : wa.cell? ⟨t, 0, none⟩ = some (.int .u64 0) := bta.cell 0
                      have j1 : wa.cell? ⟨t, 1, none⟩ = some (.int .u64 (a : Int)) := bta.cell 1
                      have j2 : wa.cell? ⟨t, 2, none⟩ = some (.int .u64 (b : Int)) := bta.cell 2
                      have j3 : wa.cell? ⟨t, 3, none⟩ = some (.int .i64 0) := bta.cell 3
                      have j4 : wa.cell? ⟨t, 4, none⟩ = some (.int .i64 0) := bta.cell 4
                      have j5 : wa.cell? ⟨t, 5, none⟩ = some (.slice none 0 0) := bta.cell 5
                      have Sb := Sa.below ((Below.refl _ _).al (.cells #[.int .u64 0, .int .u64 (a : Int), .int .u64 (b : Int), .int .i64 0, .int .i64 0, .slice none 0 0] 71))
                      have hbw2 := Sa.mine.size
                      clear k0 k1 k2 k3 k4 k5 bt bta ba S9 Sa hdn hdb
                      go_wp2_with (at_builtin; refine wpList_append_src _ rfl (.tmp 124) (.tmp 126) 91 91 rfl w.heap.size 71 _ _ 6 64 Try.underlying91 hi6 hz60 hz61 hz62 rfl _ _ _ rfl Sb.dead _ 1 (tpc (a, b)) rfl (src_rd Try.underlying91 _ (rd_lit (by first | rfl | simp) rfl rfl) (by decide) (tp_one (a, b))) (by simp only [maxLen]; omega) (by omega) (by simp; omega) ?_; intro v9 w9 ho9 hg9 ha9; have S9 := Sb.more (t := (a, b)) hg9 ho9 HRN.out; obtain ⟨A9, c9, hv9, _, _, _⟩ := own_form ho9; subst hv9; clear ho9 hg9 ha9)
                      go_roundw
                      case rel => exact ⟨i + 1, _, _, _, _, _, _, _, _, by omega, by omega, by omega, hTl, by rw [List.length_append, List.length_singleton]; omega, by rw [List.length_append, List.length_singleton], by go_num, rfl, S9⟩
                      case measure => simp [intOf]; omega
                · go_wp2_with fail
                  go_roundw
                  case rel => exact ⟨i + 1, _, N8, _, _, _, _, _, _, by omega, by omega, by omega, hTl, by omega, HN8.out, by go_num, rfl, S8⟩
                  case measure => simp [intOf]; omega
      · have t0 : ((d : Int) == 0) = false := beq_eq_false_iff_ne.2 (by omega)
        by_cases hd1 : d = 1
        · subst hd1
          obtain ⟨c, hmap⟩ := SW.map
          have hB := lg_begin _ g 1 S F SW.log
          have hbl : begL 1 S = S ++ [1] := by unfold begL; rw [if_pos (by omega)]
          obtain ⟨y1, hy1⟩ : ∃ y1, y1 = 1 + S.length := ⟨_, rfl⟩
          have hbr : begR 1 S = .tuple #[.int .u64 (y1 : Int), .int .i64 0] := by unfold begR; rw [if_pos (by omega), ← hy1]
          rw [hbl, hbr] at hB
          have HC := Lib.hid hB
          have hy6 : y1 < 60 := by omega
          have HR := Lib.hid (fun (sn : Sn) (h : sn.xmin = least (others (runs 1 (S ++ [1])) y1) (1 + (S ++ [1]).length)) => by
            have := rst_begin SW.rst sn (by rw [← hy1]; exact h)
            rw [← hy1] at this
            exact this)
          have hTl : (S ++ [1]).length ≤ i + 1 := by simp; omega
          clear hB hbl hbr hy1
          go_wp2_with fail
          refine (HC.out).mono ?_
          rintro e w3 ⟨rfl, F3, h3, g3⟩
          have u3 := hmap.fr g3.fr SW.nF
          have hT := take_any w3 g 1 y1 _ _ h3
          unfold snv at hT
          have HT := Lib.hid hT
          obtain ⟨xm, hxm⟩ : ∃ xm, xm = least (others (runs 1 (S ++ [1])) y1) (1 + (S ++ [1]).length) := ⟨_, rfl⟩
          obtain ⟨nx, hnx⟩ : ∃ nx, nx = 1 + (S ++ [1]).length := ⟨_, rfl⟩
          obtain ⟨Q, hQ⟩ : ∃ Q, Q = others (runs 1 (S ++ [1])) y1 := ⟨_, rfl⟩
          rw [← hxm] at HT HR
          rw [← hnx, ← hQ] at HT
          clear hT c0 c1 q0 q1 HC hxm hnx hQ
          go_wp2_with fail
          refine (HT.out).mono ?_
          rintro e w4 ⟨v4, rfl, o4, b4⟩
          obtain ⟨A4, k4, hv4, _, _, _⟩ := own_form o4
          subst hv4
          have u4 := u3.below b4
          clear o4 HT u3
          go_wp2_with (at_mapUpdate; refine wpList_mg_put E10 _ rfl _ _ _ 94 rfl Try.underlying94 m c n fl rfl u4 (by omega) y1 (by omega) ⟨y1, xm, nx, Q, A4, k4⟩ rfl rfl ?_; intro w5 u5 f5; have S5 := SW.step h3 g3 b4 ⟨_, u5⟩ f5 (HR.out ⟨y1, xm, nx, Q, A4, k4⟩ rfl); clear u5 f5 u4 b4 h3 g3 SW hmap)
          clear HR
          generalize S ++ [1] = T at *
          generalize updG fl y1 (some ⟨y1, xm, nx, Q, A4, k4⟩) = fk at *
          go_loopw [14, 69] (fun av kv wr => ∃ (k NA : Nat) (A14 : Option Addr) (c14 : Nat), k ≤ 60 ∧ NA = (lv fk k).length ∧ kv = .int .u64 (k : Int) ∧ av = .slice A14 NA c14 ∧ wr.ownsRow w.heap.size 76 4 (.slice A14 NA c14) (lv fk k).length ((lv fk k).flatMap Sn.e) ∧ Sr w wr g m (n + 1) T F3 fk (.slice A8 N8 c8) D) (fun _ kv _ => 60 - (intOf kv).toNat)
          case atStart => exact ⟨0, 0, none, 0, by omega, rfl, rfl, rfl, World.ownsRow_nil _ _ _ _, S5⟩
          case round =>
            obtain ⟨k, NA, A14, c14, hk, hNA, rfl, rfl, oA, S6⟩ := hrel
            clear S5
            by_cases hk6 : k < 60
            · obtain ⟨c, hmap⟩ := S6.map
              have hg0 := mg_get hmap (x := k) (by omega)
              have hls := lv_succ fk k
              have HNA := Lib.hid hNA
              have hNl := lv_len fk k
              have hbw := S6.mine.size
              clear hmap hNA
              cases hfk : fk k with
              | none =>
                rw [hfk] at hg0 hls
                have hgl : (Instr.lookup 94 (.map (some m)) (.int .u64 (k : Int)) true).run Try.prog wr = .ok (.tuple #[.agg #[.int .u64 0, .int .u64 0, .int .u64 0, .slice none 0 0], .bool false]) wr := hg0
                have HLS := Lib.hid (show lv fk (k + 1) = lv fk k by simpa using hls)
                have HO := Lib.hid (own_below oA ((Below.refl _ _).al (.cells #[.int .u64 0, .int .u64 0, .int .u64 0, .slice none 0 0] 76)))
                have HS7 := Lib.hid (S6.below ((Below.refl _ _).al (.cells #[.int .u64 0, .int .u64 0, .int .u64 0, .slice none 0 0] 76)))
                clear hg0 hls S6 oA hfk
                go_wp2
                go_roundw
                case rel => exact ⟨k + 1, NA, A14, c14, by omega, by rw [HLS.out]; exact HNA.out, by go_num, rfl, by rw [HLS.out]; exact HO.out, HS7.out⟩
                case measure => simp [intOf]; omega
              | some s =>
                rw [hfk] at hg0 hls
                have hgl : (Instr.lookup 94 (.map (some m)) (.int .u64 (k : Int)) true).run Try.prog wr = .ok (.tuple #[.agg #[.int .u64 (s.own : Int), .int .u64 (s.xmin : Int), .int .u64 (s.xmax : Int), .slice s.A s.R.length s.c], .bool true]) wr := hg0
                have HLS := Lib.hid (show lv fk (k + 1) = lv fk k ++ [s] by simpa using hls)
                have xb := (Below.refl wr.heap.size wr).al (.cells #[.int .u64 (s.own : Int), .int .u64 (s.xmin : Int), .int .u64 (s.xmax : Int), .slice s.A s.R.length s.c] 76)
                have HO := Lib.hid (own_below (own_below oA xb) ((Below.refl _ _).al (.cells #[.int .u64 (s.own : Int), .int .u64 (s.xmin : Int), .int .u64 (s.xmax : Int), .slice s.A s.R.length s.c] 76)))
                have HS7 := Lib.hid ((S6.below xb).below ((Below.refl _ _).al (.cells #[.int .u64 (s.own : Int), .int .u64 (s.xmin : Int), .int .u64 (s.xmax : Int), .slice s.A s.R.length s.c] 76)))
                clear hg0 hls S6 oA hfk xb
                go_wp2_with (at_builtin; refine wpList_append_src _ rfl (.tmp 79) (.tmp 81) 62 62 rfl w.heap.size 76 _ _ 4 48 Try.underlying62 hi4 hz40 hz41 hz42 rfl _ _ _ rfl HO.out _ 1 s.e rfl (src_rd Try.underlying62 _ (rd_lit (by first | rfl | simp) rfl rfl) (by decide) (sn_one s)) (by simp only [maxLen]; omega) (by omega) (by simp; omega) ?_; intro v9 w9 ho9 hg9 ha9; have S9 := HS7.out.grown HO.out hg9; obtain ⟨A9, c9, hv9, _, _, _⟩ := own_form ho9; subst hv9; have HO9 := Lib.hid ho9; clear ho9 hg9 ha9)
                go_roundw
                case rel => exact ⟨k + 1, _, A9, c9, by omega, by rw [HLS.out, List.length_append]; rfl, by go_num, rfl, by
                  rw [HLS.out, List.length_append, List.flatMap_append, List.flatMap_cons, List.flatMap_nil, List.append_nil]
                  exact HO9.out, S9⟩
                case measure => simp [intOf]; omega
            · obtain rfl : k = 60 := by omega
              have HH := Lib.hid (hor_any wr g 1 NA _ T F3 (lv fk 60) A14 c14 S6.log hNA oA)
              have HD := Lib.hid (fun (t : Nat × Nat) (ht : t ∈ D) => rst_holds S6.rst ht)
              have HNW := Lib.hid (fun (a b : Nat) (h : deadB 1 T a b (hzn (1 + T.length) (lv fk 60)) = true) => rst_new S6.rst (by omega) h)
              obtain ⟨hz, hhz⟩ : ∃ hz, hz = hzn (1 + T.length) (lv fk 60) := ⟨_, rfl⟩
              rw [← hhz] at HH HD HNW
              clear hhz hNA oA
              go_wp2_with (go_at_call 29; (with_reducible refine (HH.out).mono ?_); rintro e w7 ⟨rfl, b7⟩; have S7 := S6.below b7; clear b7 S6)
              go_loopw [89] (fun jv wr => ∃ j : Nat, j ≤ D.length ∧ jv = .int .i64 (j : Int) ∧ Sr w wr g m (n + 1) T F3 fk (.slice A8 N8 c8) D) (fun jv _ => D.length - (intOf jv).toNat)
              case atStart => exact ⟨0, Nat.zero_le _, rfl, S7⟩
              case round =>
                obtain ⟨j, hj, rfl, S8⟩ := hrel
                clear S7
                have hbw := S8.mine.size
                by_cases hjD : j < D.length
                · have hjN : j < N8 := by rw [HN8.out]; exact hjD
                  obtain ⟨A8', c8', hv8, _, _, hr8⟩ := own_form S8.dead
                  injection hv8 with hA8 hNN hc8
                  clear hNN
                  subst hA8 hc8
                  obtain ⟨ad8, hA8, p0, p1, p2, p3, p4, p5⟩ := tp_at hr8 hjD
                  subst hA8
                  have ix8 := idx_tp ad8 N8 c8 j hjN
                  have hdd := HD.out D[j] (List.getElem_mem hjD)
                  generalize D[j] = t at *
                  obtain ⟨a, b⟩ := t
                  have hdd : deadB 1 T a b hz = true := hdd
                  have xb := (Below.refl wr.heap.size wr).al (.cells #[.int .u64 0, .int .u64 (a : Int), .int .u64 (b : Int), .int .i64 0, .int .i64 0, .slice none 0 0] 71)
                  have S9 := S8.below xb
                  have hdc := dead_any _ g 1 a b hz T F3 S9.log
                  rw [hdd] at hdc
                  have HDC := Lib.hid hdc
                  clear hdd hr8 S8 xb hdc
                  go_wp2_with (go_at_call 32; (with_reducible refine (HDC.out).mono ?_); rintro e wa ⟨rfl, ba⟩; have Sa := S9.below ba; clear ba S9)
                  go_roundw
                  case rel => exact ⟨j + 1, by omega, by go_num, Sa⟩
                  case measure => simp [intOf]; omega
                · have hjN : ¬ j < N8 := by rw [HN8.out]; exact hjD
                  by_cases his : i < lp.length
                  · obtain ⟨ad2, rfl, p0, p1⟩ := pr_at (Rd.below R1.out (S8.mine.below.mono (Nat.le_refl _))) his
                    have ix2 := idx_pr ad2 lp.length cc1 i his
                    have ixa := elem_at_a (ad2.add (i * 2))
                    have ixb := elem_at_b (ad2.add (i * 2))
                    have hp1 := lp[i].h1
                    have hp2 := lp[i].h2
                    generalize lp[i].a = ya at *
                    generalize lp[i].b = yb at *
                    obtain ⟨a, ha⟩ : ∃ a, a = ya % 50 := ⟨_, rfl⟩
                    obtain ⟨b, hb⟩ : ∃ b, b = yb % 50 := ⟨_, rfl⟩
                    have ea : ((ya : Int)).tmod 50 = (a : Int) := by rw [ha, Int.tmod_eq_emod_of_nonneg (by omega)]; omega
                    have eb : ((yb : Int)).tmod 50 = (b : Int) := by rw [hb, Int.tmod_eq_emod_of_nonneg (by omega)]; omega
                    clear ha hb
                    have hT := fun W => tuple_any W a b
                    unfold tpv at hT
                    have HT := Lib.hid hT
                    clear hT
                    go_upto_region 37 with fail
                    go_cut [21] (fun s21 wx => ∃ t : Nat, s21 = .pointer (some ⟨t, 0, none⟩) ∧ Bx wx t 71 (tpcells a b) ∧ Below wr.heap.size wr wx)
                    case first =>
                      have hlt2 : (ad2.add (i * 2)).block < wr.heap.size := World.block_lt_of_cell? _ _ p0
                      have hne2 : (ad2.add (i * 2)).block ≠ wr.heap.size := by omega
                      have p0d : wr.drew.cell? (ad2.add (i * 2)) = some (.int .u64 (ya : Int)) := p0
                      have p1d : wr.drew.cell? ⟨(ad2.add (i * 2)).block, (ad2.add (i * 2)).off + 1, none⟩ = some (.int .u64 (yb : Int)) := p1
                      have a0d : (wr.alloc (.cells #[.int .u64 0, .int .u64 0, .int .u64 0, .int .i64 0, .int .i64 0, .slice none 0 0] 71)).drew.cell? (ad2.add (i * 2)) = some (.int .u64 (ya : Int)) := cell_al _ p0
                      have a1d : (wr.alloc (.cells #[.int .u64 0, .int .u64 0, .int .u64 0, .int .i64 0, .int .i64 0, .slice none 0 0] 71)).drew.cell? ⟨(ad2.add (i * 2)).block, (ad2.add (i * 2)).off + 1, none⟩ = some (.int .u64 (yb : Int)) := cell_al _ p1
                      have bA : Bx (wr.alloc (.cells #[.int .u64 0, .int .u64 0, .int .u64 0, .int .i64 0, .int .i64 0, .slice none 0 0] 71)).drew wr.heap.size 71 [.int .u64 0, .int .u64 0, .int .u64 0, .int .i64 0, .int .i64 0, .slice none 0 0] := Bx.new wr 71 _ _ rfl
                      have xA : Below wr.heap.size wr (wr.alloc (.cells #[.int .u64 0, .int .u64 0, .int .u64 0, .int .i64 0, .int .i64 0, .slice none 0 0] 71)).drew := ((Below.refl _ _).al _).next (below_n _ 1)
                      have xd : Below wr.heap.size wr wr.drew := below_n wr 1
                      have HTd := HT.out wr.drew
                      have HTa := HT.out (wr.alloc (.cells #[.int .u64 0, .int .u64 0, .int .u64 0, .int .i64 0, .int .i64 0, .slice none 0 0] 71)).drew
                      have HK : ∀ w4, Below wr.heap.size wr w4 → w4.cell? (ad2.add (i * 2)) = some (.int .u64 (ya : Int)) ∧ w4.cell? ⟨(ad2.add (i * 2)).block, (ad2.add (i * 2)).off + 1, none⟩ = some (.int .u64 (yb : Int)) := fun w4 x4 => ⟨(x4.cell hlt2).trans p0, (x4.cell (p := ⟨(ad2.add (i * 2)).block, (ad2.add (i * 2)).off + 1, none⟩) hlt2).trans p1⟩
                      go_region_held3 (fun w' => w'.cell? (ad2.add (i * 2)) = some (.int .u64 (ya : Int)) ∧ w'.cell? ⟨(ad2.add (i * 2)).block, (ad2.add (i * 2)).off + 1, none⟩ = some (.int .u64 (yb : Int))) (first | (with_reducible assumption) | (with_reducible exact ⟨p0d, p1d⟩) | (with_reducible exact ⟨a0d, a1d⟩) | (with_reducible exact ⟨cell_al _ (And.left (by assumption)), cell_al _ (And.right (by assumption))⟩) | (with_reducible exact ⟨cell_set6 hne2 (And.left (by assumption)), cell_set6 hne2 (And.right (by assumption))⟩))
                        (first
                        | (go_at_call 31; (with_reducible refine HTd.mono ?_); rintro e w4 ⟨rfl, hb4⟩; have x4 := xd.next hb4; have hS4 := HK w4 x4)
                        | (go_at_call 31; (with_reducible refine HTa.mono ?_); rintro e w4 ⟨rfl, hb4⟩; have x4 := xA.next hb4; have bt4 := bA.below hb4; have hS4 := HK w4 x4; have k0 := bt4.cell 0; have k1 := bt4.cell 1; have k2 := bt4.cell 2; have k3 := bt4.cell 3; have k4 := bt4.cell 4; have k5 := bt4.cell 5; have f0 := bt4.frozen 0; have f1 := bt4.frozen 1; have f2 := bt4.frozen 2; have f3 := bt4.frozen 3; have f4 := bt4.frozen 4; have f5 := bt4.frozen 5))
                      · go_wp2_with fail
                        go_meet
                        exact ⟨_, rfl, Bx.new w4 71 _ _ rfl, x4.al _⟩
                      · go_wp2_with fail
                        go_meet
                        exact ⟨_, rfl, ((((((bt4.set 0 _).set 1 _).set 2 _).set 3 _).set 4 _).set 5 _), below_set6 x4 (Nat.le_refl _)⟩
                    case rest =>
                      obtain ⟨t, rfl, bt, xt⟩ := hcut
                      have S9 := S8.below xt
                      have k0 : wc.cell? ⟨t, 0, none⟩ = some (.int .u64 0) := bt.cell 0
                      have k1 : wc.cell? ⟨t, 1, none⟩ = some (.int .u64 (a : Int)) := bt.cell 1
                      have k2 : wc.cell? ⟨t, 2, none⟩ = some (.int .u64 (b : Int)) := bt.cell 2
                      have k3 : wc.cell? ⟨t, 3, none⟩ = some (.int .i64 0) := bt.cell 3
                      have k4 : wc.cell? ⟨t, 4, none⟩ = some (.int .i64 0) := bt.cell 4
                      have k5 : wc.cell? ⟨t, 5, none⟩ = some (.slice none 0 0) := bt.cell 5
                      have HDC := Lib.hid (dead_any _ g 1 a b hz T F3 S9.log)
                      have hdn : deadB 1 T a b hz = true → Rst T fk (D ++ [(a, b)]) := fun h => HNW.out a b h
                      clear S8 xt
                      cases hdb : deadB 1 T a b hz with
                      | false =>
                        rw [hdb] at HDC
                        go_wp2_with (go_at_call 32; (with_reducible refine (HDC.out).mono ?_); rintro e wa ⟨rfl, ba⟩; have Sa := S9.below ba; clear ba S9)
                        go_roundw
                        case rel => exact ⟨i + 1, _, N8, _, _, _, _, _, _, by omega, by omega, by omega, hTl, by omega, HN8.out, by go_num, rfl, Sa⟩
                        case measure => simp [intOf]; omega
                      | true =>
                        rw [hdb] at HDC
                        have HRN := Lib.hid (hdn hdb)
                        go_wp2_with fail
                        refine (HDC.out).mono ?_
                        rintro e wa ⟨rfl, ba⟩
                        have Sa := S9.below ba
                        have bta := bt.below ba
                        have j0 : wa.cell? ⟨t, 0, none⟩ = some (.int .u64 0) := bta.cell 0
                        have j1 : wa.cell? ⟨t, 1, none⟩ = some (.int .u64 (a : Int)) := bta.cell 1
                        have j2 : wa.cell? ⟨t, 2, none⟩ = some (.int .u64 (b : Int)) := bta.cell 2
                        have j3 : wa.cell? ⟨t, 3, none⟩ = some (.int .i64 0) := bta.cell 3
                        have j4 : wa.cell? ⟨t, 4, none⟩ = some (.int .i64 0) := bta.cell 4
                        have j5 : wa.cell? ⟨t, 5, none⟩ = some (.slice none 0 0) := bta.cell 5
                        have Sb := Sa.below ((Below.refl _ _).al (.cells #[.int .u64 0, .int .u64 (a : Int), .int .u64 (b : Int), .int .i64 0, .int .i64 0, .slice none 0 0] 71))
                        have hbw2 := Sa.mine.size
                        clear k0 k1 k2 k3 k4 k5 bt bta ba S9 Sa hdn hdb
                        go_wp2_with (at_builtin; refine wpList_append_src _ rfl (.tmp 124) (.tmp 126) 91 91 rfl w.heap.size 71 _ _ 6 64 Try.underlying91 hi6 hz60 hz61 hz62 rfl _ _ _ rfl Sb.dead _ 1 (tpc (a, b)) rfl (src_rd Try.underlying91 _ (rd_lit (by first | rfl | simp) rfl rfl) (by decide) (tp_one (a, b))) (by simp only [maxLen]; omega) (by omega) (by simp; omega) ?_; intro v9 w9 ho9 hg9 ha9; have S9 := Sb.more (t := (a, b)) hg9 ho9 HRN.out; obtain ⟨A9, c9, hv9, _, _, _⟩ := own_form ho9; subst hv9; clear ho9 hg9 ha9)
                        go_roundw
                        case rel => exact ⟨i + 1, _, _, _, _, _, _, _, _, by omega, by omega, by omega, hTl, by rw [List.length_append, List.length_singleton]; omega, by rw [List.length_append, List.length_singleton], by go_num, rfl, S9⟩
                        case measure => simp [intOf]; omega
                  · go_wp2_with fail
                    go_roundw
                    case rel => exact ⟨i + 1, _, N8, _, _, _, _, _, _, by omega, by omega, by omega, hTl, by omega, HN8.out, by go_num, rfl, S8⟩
                    case measure => simp [intOf]; omega
        · have t1 : ((d : Int) == 1) = false := beq_eq_false_iff_ne.2 (by omega)
          by_cases hd2 : d = 2
          · subst hd2
            obtain ⟨c, hmap⟩ := SW.map
            have HC := Lib.hid (lg_commit _ g 1 x S F SW.log (by omega))
            have hel : (endL 1 S x 2).length = S.length := by unfold endL; split <;> simp
            have HR := Lib.hid (rst_end SW.rst x 2 (by decide))
            go_wp2_with fail
            refine (HC.out).mono ?_
            rintro e w3 ⟨rfl, F3, h3, g3⟩
            have u3 := hmap.fr g3.fr SW.nF
            clear c0 c1 q0 q1 HC
            go_wp2_with (at_delete; refine wpList_mg_del E10 _ rfl _ _ 94 22 rfl rfl Try.underlying94 m c n fl rfl u3 x (by omega) rfl ?_; intro w5 u5 f5; have S5 := SW.step h3 g3 (Below.refl _ _) ⟨_, u5⟩ f5 HR.out; clear u5 f5 u3 h3 g3 SW hmap)
            have hTl : (endL 1 S x 2).length ≤ i + 1 := by omega
            clear HR hel
            generalize endL 1 S x 2 = T at *
            generalize updG fl x none = fk at *
            go_loopw [14, 69] (fun av kv wr => ∃ (k NA : Nat) (A14 : Option Addr) (c14 : Nat), k ≤ 60 ∧ NA = (lv fk k).length ∧ kv = .int .u64 (k : Int) ∧ av = .slice A14 NA c14 ∧ wr.ownsRow w.heap.size 76 4 (.slice A14 NA c14) (lv fk k).length ((lv fk k).flatMap Sn.e) ∧ Sr w wr g m (n) T F3 fk (.slice A8 N8 c8) D) (fun _ kv _ => 60 - (intOf kv).toNat)
            case atStart => exact ⟨0, 0, none, 0, by omega, rfl, rfl, rfl, World.ownsRow_nil _ _ _ _, S5⟩
            case round =>
              obtain ⟨k, NA, A14, c14, hk, hNA, rfl, rfl, oA, S6⟩ := hrel
              clear S5
              by_cases hk6 : k < 60
              · obtain ⟨c, hmap⟩ := S6.map
                have hg0 := mg_get hmap (x := k) (by omega)
                have hls := lv_succ fk k
                have HNA := Lib.hid hNA
                have hNl := lv_len fk k
                have hbw := S6.mine.size
                clear hmap hNA
                cases hfk : fk k with
                | none =>
                  rw [hfk] at hg0 hls
                  have hgl : (Instr.lookup 94 (.map (some m)) (.int .u64 (k : Int)) true).run Try.prog wr = .ok (.tuple #[.agg #[.int .u64 0, .int .u64 0, .int .u64 0, .slice none 0 0], .bool false]) wr := hg0
                  have HLS := Lib.hid (show lv fk (k + 1) = lv fk k by simpa using hls)
                  have HO := Lib.hid (own_below oA ((Below.refl _ _).al (.cells #[.int .u64 0, .int .u64 0, .int .u64 0, .slice none 0 0] 76)))
                  have HS7 := Lib.hid (S6.below ((Below.refl _ _).al (.cells #[.int .u64 0, .int .u64 0, .int .u64 0, .slice none 0 0] 76)))
                  clear hg0 hls S6 oA hfk
                  go_wp2
                  go_roundw
                  case rel => exact ⟨k + 1, NA, A14, c14, by omega, by rw [HLS.out]; exact HNA.out, by go_num, rfl, by rw [HLS.out]; exact HO.out, HS7.out⟩
                  case measure => simp [intOf]; omega
                | some s =>
                  rw [hfk] at hg0 hls
                  have hgl : (Instr.lookup 94 (.map (some m)) (.int .u64 (k : Int)) true).run Try.prog wr = .ok (.tuple #[.agg #[.int .u64 (s.own : Int), .int .u64 (s.xmin : Int), .int .u64 (s.xmax : Int), .slice s.A s.R.length s.c], .bool true]) wr := hg0
                  have HLS := Lib.hid (show lv fk (k + 1) = lv fk k ++ [s] by simpa using hls)
                  have xb := (Below.refl wr.heap.size wr).al (.cells #[.int .u64 (s.own : Int), .int .u64 (s.xmin : Int), .int .u64 (s.xmax : Int), .slice s.A s.R.length s.c] 76)
                  have HO := Lib.hid (own_below (own_below oA xb) ((Below.refl _ _).al (.cells #[.int .u64 (s.own : Int), .int .u64 (s.xmin : Int), .int .u64 (s.xmax : Int), .slice s.A s.R.length s.c] 76)))
                  have HS7 := Lib.hid ((S6.below xb).below ((Below.refl _ _).al (.cells #[.int .u64 (s.own : Int), .int .u64 (s.xmin : Int), .int .u64 (s.xmax : Int), .slice s.A s.R.length s.c] 76)))
                  clear hg0 hls S6 oA hfk xb
                  go_wp2_with (at_builtin; refine wpList_append_src _ rfl (.tmp 79) (.tmp 81) 62 62 rfl w.heap.size 76 _ _ 4 48 Try.underlying62 hi4 hz40 hz41 hz42 rfl _ _ _ rfl HO.out _ 1 s.e rfl (src_rd Try.underlying62 _ (rd_lit (by first | rfl | simp) rfl rfl) (by decide) (sn_one s)) (by simp only [maxLen]; omega) (by omega) (by simp; omega) ?_; intro v9 w9 ho9 hg9 ha9; have S9 := HS7.out.grown HO.out hg9; obtain ⟨A9, c9, hv9, _, _, _⟩ := own_form ho9; subst hv9; have HO9 := Lib.hid ho9; clear ho9 hg9 ha9)
                  go_roundw
                  case rel => exact ⟨k + 1, _, A9, c9, by omega, by rw [HLS.out, List.length_append]; rfl, by go_num, rfl, by
                    rw [HLS.out, List.length_append, List.flatMap_append, List.flatMap_cons, List.flatMap_nil, List.append_nil]
                    exact HO9.out, S9⟩
                  case measure => simp [intOf]; omega
              · obtain rfl : k = 60 := by omega
                have HH := Lib.hid (hor_any wr g 1 NA _ T F3 (lv fk 60) A14 c14 S6.log hNA oA)
                have HD := Lib.hid (fun (t : Nat × Nat) (ht : t ∈ D) => rst_holds S6.rst ht)
                have HNW := Lib.hid (fun (a b : Nat) (h : deadB 1 T a b (hzn (1 + T.length) (lv fk 60)) = true) => rst_new S6.rst (by omega) h)
                obtain ⟨hz, hhz⟩ : ∃ hz, hz = hzn (1 + T.length) (lv fk 60) := ⟨_, rfl⟩
                rw [← hhz] at HH HD HNW
                clear hhz hNA oA
                go_wp2_with (go_at_call 29; (with_reducible refine (HH.out).mono ?_); rintro e w7 ⟨rfl, b7⟩; have S7 := S6.below b7; clear b7 S6)
                go_loopw [89] (fun jv wr => ∃ j : Nat, j ≤ D.length ∧ jv = .int .i64 (j : Int) ∧ Sr w wr g m (n) T F3 fk (.slice A8 N8 c8) D) (fun jv _ => D.length - (intOf jv).toNat)
                case atStart => exact ⟨0, Nat.zero_le _, rfl, S7⟩
                case round =>
                  obtain ⟨j, hj, rfl, S8⟩ := hrel
                  clear S7
                  have hbw := S8.mine.size
                  by_cases hjD : j < D.length
                  · have hjN : j < N8 := by rw [HN8.out]; exact hjD
                    obtain ⟨A8', c8', hv8, _, _, hr8⟩ := own_form S8.dead
                    injection hv8 with hA8 hNN hc8
                    clear hNN
                    subst hA8 hc8
                    obtain ⟨ad8, hA8, p0, p1, p2, p3, p4, p5⟩ := tp_at hr8 hjD
                    subst hA8
                    have ix8 := idx_tp ad8 N8 c8 j hjN
                    have hdd := HD.out D[j] (List.getElem_mem hjD)
                    generalize D[j] = t at *
                    obtain ⟨a, b⟩ := t
                    have hdd : deadB 1 T a b hz = true := hdd
                    have xb := (Below.refl wr.heap.size wr).al (.cells #[.int .u64 0, .int .u64 (a : Int), .int .u64 (b : Int), .int .i64 0, .int .i64 0, .slice none 0 0] 71)
                    have S9 := S8.below xb
                    have hdc := dead_any _ g 1 a b hz T F3 S9.log
                    rw [hdd] at hdc
                    have HDC := Lib.hid hdc
                    clear hdd hr8 S8 xb hdc
                    go_wp2_with (go_at_call 32; (with_reducible refine (HDC.out).mono ?_); rintro e wa ⟨rfl, ba⟩; have Sa := S9.below ba; clear ba S9)
                    go_roundw
                    case rel => exact ⟨j + 1, by omega, by go_num, Sa⟩
                    case measure => simp [intOf]; omega
                  · have hjN : ¬ j < N8 := by rw [HN8.out]; exact hjD
                    by_cases his : i < lp.length
                    · obtain ⟨ad2, rfl, p0, p1⟩ := pr_at (Rd.below R1.out (S8.mine.below.mono (Nat.le_refl _))) his
                      have ix2 := idx_pr ad2 lp.length cc1 i his
                      have ixa := elem_at_a (ad2.add (i * 2))
                      have ixb := elem_at_b (ad2.add (i * 2))
                      have hp1 := lp[i].h1
                      have hp2 := lp[i].h2
                      generalize lp[i].a = ya at *
                      generalize lp[i].b = yb at *
                      obtain ⟨a, ha⟩ : ∃ a, a = ya % 50 := ⟨_, rfl⟩
                      obtain ⟨b, hb⟩ : ∃ b, b = yb % 50 := ⟨_, rfl⟩
                      have ea : ((ya : Int)).tmod 50 = (a : Int) := by rw [ha, Int.tmod_eq_emod_of_nonneg (by omega)]; omega
                      have eb : ((yb : Int)).tmod 50 = (b : Int) := by rw [hb, Int.tmod_eq_emod_of_nonneg (by omega)]; omega
                      clear ha hb
                      have hT := fun W => tuple_any W a b
                      unfold tpv at hT
                      have HT := Lib.hid hT
                      clear hT
                      go_upto_region 37 with fail
                      go_cut [21] (fun s21 wx => ∃ t : Nat, s21 = .pointer (some ⟨t, 0, none⟩) ∧ Bx wx t 71 (tpcells a b) ∧ Below wr.heap.size wr wx)
                      case first =>
                        have hlt2 : (ad2.add (i * 2)).block < wr.heap.size := World.block_lt_of_cell? _ _ p0
                        have hne2 : (ad2.add (i * 2)).block ≠ wr.heap.size := by omega
                        have p0d : wr.drew.cell? (ad2.add (i * 2)) = some (.int .u64 (ya : Int)) := p0
                        have p1d : wr.drew.cell? ⟨(ad2.add (i * 2)).block, (ad2.add (i * 2)).off + 1, none⟩ = some (.int .u64 (yb : Int)) := p1
                        have a0d : (wr.alloc (.cells #[.int .u64 0, .int .u64 0, .int .u64 0, .int .i64 0, .int .i64 0, .slice none 0 0] 71)).drew.cell? (ad2.add (i * 2)) = some (.int .u64 (ya : Int)) := cell_al _ p0
                        have a1d : (wr.alloc (.cells #[.int .u64 0, .int .u64 0, .int .u64 0, .int .i64 0, .int .i64 0, .slice none 0 0] 71)).drew.cell? ⟨(ad2.add (i * 2)).block, (ad2.add (i * 2)).off + 1, none⟩ = some (.int .u64 (yb : Int)) := cell_al _ p1
                        have bA : Bx (wr.alloc (.cells #[.int .u64 0, .int .u64 0, .int .u64 0, .int .i64 0, .int .i64 0, .slice none 0 0] 71)).drew wr.heap.size 71 [.int .u64 0, .int .u64 0, .int .u64 0, .int .i64 0, .int .i64 0, .slice none 0 0] := Bx.new wr 71 _ _ rfl
                        have xA : Below wr.heap.size wr (wr.alloc (.cells #[.int .u64 0, .int .u64 0, .int .u64 0, .int .i64 0, .int .i64 0, .slice none 0 0] 71)).drew := ((Below.refl _ _).al _).next (below_n _ 1)
                        have xd : Below wr.heap.size wr wr.drew := below_n wr 1
                        have HTd := HT.out wr.drew
                        have HTa := HT.out (wr.alloc (.cells #[.int .u64 0, .int .u64 0, .int .u64 0, .int .i64 0, .int .i64 0, .slice none 0 0] 71)).drew
                        have HK : ∀ w4, Below wr.heap.size wr w4 → w4.cell? (ad2.add (i * 2)) = some (.int .u64 (ya : Int)) ∧ w4.cell? ⟨(ad2.add (i * 2)).block, (ad2.add (i * 2)).off + 1, none⟩ = some (.int .u64 (yb : Int)) := fun w4 x4 => ⟨(x4.cell hlt2).trans p0, (x4.cell (p := ⟨(ad2.add (i * 2)).block, (ad2.add (i * 2)).off + 1, none⟩) hlt2).trans p1⟩
                        go_region_held3 (fun w' => w'.cell? (ad2.add (i * 2)) = some (.int .u64 (ya : Int)) ∧ w'.cell? ⟨(ad2.add (i * 2)).block, (ad2.add (i * 2)).off + 1, none⟩ = some (.int .u64 (yb : Int))) (first | (with_reducible assumption) | (with_reducible exact ⟨p0d, p1d⟩) | (with_reducible exact ⟨a0d, a1d⟩) | (with_reducible exact ⟨cell_al _ (And.left (by assumption)), cell_al _ (And.right (by assumption))⟩) | (with_reducible exact ⟨cell_set6 hne2 (And.left (by assumption)), cell_set6 hne2 (And.right (by assumption))⟩))
                          (first
                          | (go_at_call 31; (with_reducible refine HTd.mono ?_); rintro e w4 ⟨rfl, hb4⟩; have x4 := xd.next hb4; have hS4 := HK w4 x4)
                          | (go_at_call 31; (with_reducible refine HTa.mono ?_); rintro e w4 ⟨rfl, hb4⟩; have x4 := xA.next hb4; have bt4 := bA.below hb4; have hS4 := HK w4 x4; have k0 := bt4.cell 0; have k1 := bt4.cell 1; have k2 := bt4.cell 2; have k3 := bt4.cell 3; have k4 := bt4.cell 4; have k5 := bt4.cell 5; have f0 := bt4.frozen 0; have f1 := bt4.frozen 1; have f2 := bt4.frozen 2; have f3 := bt4.frozen 3; have f4 := bt4.frozen 4; have f5 := bt4.frozen 5))
                        · go_wp2_with fail
                          go_meet
                          exact ⟨_, rfl, Bx.new w4 71 _ _ rfl, x4.al _⟩
                        · go_wp2_with fail
                          go_meet
                          exact ⟨_, rfl, ((((((bt4.set 0 _).set 1 _).set 2 _).set 3 _).set 4 _).set 5 _), below_set6 x4 (Nat.le_refl _)⟩
                      case rest =>
                        obtain ⟨t, rfl, bt, xt⟩ := hcut
                        have S9 := S8.below xt
                        have k0 : wc.cell? ⟨t, 0, none⟩ = some (.int .u64 0) := bt.cell 0
                        have k1 : wc.cell? ⟨t, 1, none⟩ = some (.int .u64 (a : Int)) := bt.cell 1
                        have k2 : wc.cell? ⟨t, 2, none⟩ = some (.int .u64 (b : Int)) := bt.cell 2
                        have k3 : wc.cell? ⟨t, 3, none⟩ = some (.int .i64 0) := bt.cell 3
                        have k4 : wc.cell? ⟨t, 4, none⟩ = some (.int .i64 0) := bt.cell 4
                        have k5 : wc.cell? ⟨t, 5, none⟩ = some (.slice none 0 0) := bt.cell 5
                        have HDC := Lib.hid (dead_any _ g 1 a b hz T F3 S9.log)
                        have hdn : deadB 1 T a b hz = true → Rst T fk (D ++ [(a, b)]) := fun h => HNW.out a b h
                        clear S8 xt
                        cases hdb : deadB 1 T a b hz with
                        | false =>
                          rw [hdb] at HDC
                          go_wp2_with (go_at_call 32; (with_reducible refine (HDC.out).mono ?_); rintro e wa ⟨rfl, ba⟩; have Sa := S9.below ba; clear ba S9)
                          go_roundw
                          case rel => exact ⟨i + 1, _, N8, _, _, _, _, _, _, by omega, by omega, by omega, hTl, by omega, HN8.out, by go_num, rfl, Sa⟩
                          case measure => simp [intOf]; omega
                        | true =>
                          rw [hdb] at HDC
                          have HRN := Lib.hid (hdn hdb)
                          go_wp2_with fail
                          refine (HDC.out).mono ?_
                          rintro e wa ⟨rfl, ba⟩
                          have Sa := S9.below ba
                          have bta := bt.below ba
                          have j0 : wa.cell? ⟨t, 0, none⟩ = some (.int .u64 0) := bta.cell 0
                          have j1 : wa.cell? ⟨t, 1, none⟩ = some (.int .u64 (a : Int)) := bta.cell 1
                          have j2 : wa.cell? ⟨t, 2, none⟩ = some (.int .u64 (b : Int)) := bta.cell 2
                          have j3 : wa.cell? ⟨t, 3, none⟩ = some (.int .i64 0) := bta.cell 3
                          have j4 : wa.cell? ⟨t, 4, none⟩ = some (.int .i64 0) := bta.cell 4
                          have j5 : wa.cell? ⟨t, 5, none⟩ = some (.slice none 0 0) := bta.cell 5
                          have Sb := Sa.below ((Below.refl _ _).al (.cells #[.int .u64 0, .int .u64 (a : Int), .int .u64 (b : Int), .int .i64 0, .int .i64 0, .slice none 0 0] 71))
                          have hbw2 := Sa.mine.size
                          clear k0 k1 k2 k3 k4 k5 bt bta ba S9 Sa hdn hdb
                          go_wp2_with (at_builtin; refine wpList_append_src _ rfl (.tmp 124) (.tmp 126) 91 91 rfl w.heap.size 71 _ _ 6 64 Try.underlying91 hi6 hz60 hz61 hz62 rfl _ _ _ rfl Sb.dead _ 1 (tpc (a, b)) rfl (src_rd Try.underlying91 _ (rd_lit (by first | rfl | simp) rfl rfl) (by decide) (tp_one (a, b))) (by simp only [maxLen]; omega) (by omega) (by simp; omega) ?_; intro v9 w9 ho9 hg9 ha9; have S9 := Sb.more (t := (a, b)) hg9 ho9 HRN.out; obtain ⟨A9, c9, hv9, _, _, _⟩ := own_form ho9; subst hv9; clear ho9 hg9 ha9)
                          go_roundw
                          case rel => exact ⟨i + 1, _, _, _, _, _, _, _, _, by omega, by omega, by omega, hTl, by rw [List.length_append, List.length_singleton]; omega, by rw [List.length_append, List.length_singleton], by go_num, rfl, S9⟩
                          case measure => simp [intOf]; omega
                    · go_wp2_with fail
                      go_roundw
                      case rel => exact ⟨i + 1, _, N8, _, _, _, _, _, _, by omega, by omega, by omega, hTl, by omega, HN8.out, by go_num, rfl, S8⟩
                      case measure => simp [intOf]; omega
          · have t2 : ((d : Int) == 2) = false := beq_eq_false_iff_ne.2 (by omega)
            obtain ⟨c, hmap⟩ := SW.map
            have HC := Lib.hid (lg_abort _ g 1 x S F SW.log (by omega))
            have hel : (endL 1 S x 3).length = S.length := by unfold endL; split <;> simp
            have HR := Lib.hid (rst_end SW.rst x 3 (by decide))
            go_wp2_with fail
            refine (HC.out).mono ?_
            rintro e w3 ⟨rfl, F3, h3, g3⟩
            have u3 := hmap.fr g3.fr SW.nF
            clear c0 c1 q0 q1 HC
            go_wp2_with (at_delete; refine wpList_mg_del E10 _ rfl _ _ 94 22 rfl rfl Try.underlying94 m c n fl rfl u3 x (by omega) rfl ?_; intro w5 u5 f5; have S5 := SW.step h3 g3 (Below.refl _ _) ⟨_, u5⟩ f5 HR.out; clear u5 f5 u3 h3 g3 SW hmap)
            have hTl : (endL 1 S x 3).length ≤ i + 1 := by omega
            clear HR hel
            generalize endL 1 S x 3 = T at *
            generalize updG fl x none = fk at *
            go_loopw [14, 69] (fun av kv wr => ∃ (k NA : Nat) (A14 : Option Addr) (c14 : Nat), k ≤ 60 ∧ NA = (lv fk k).length ∧ kv = .int .u64 (k : Int) ∧ av = .slice A14 NA c14 ∧ wr.ownsRow w.heap.size 76 4 (.slice A14 NA c14) (lv fk k).length ((lv fk k).flatMap Sn.e) ∧ Sr w wr g m (n) T F3 fk (.slice A8 N8 c8) D) (fun _ kv _ => 60 - (intOf kv).toNat)
            case atStart => exact ⟨0, 0, none, 0, by omega, rfl, rfl, rfl, World.ownsRow_nil _ _ _ _, S5⟩
            case round =>
              obtain ⟨k, NA, A14, c14, hk, hNA, rfl, rfl, oA, S6⟩ := hrel
              clear S5
              by_cases hk6 : k < 60
              · obtain ⟨c, hmap⟩ := S6.map
                have hg0 := mg_get hmap (x := k) (by omega)
                have hls := lv_succ fk k
                have HNA := Lib.hid hNA
                have hNl := lv_len fk k
                have hbw := S6.mine.size
                clear hmap hNA
                cases hfk : fk k with
                | none =>
                  rw [hfk] at hg0 hls
                  have hgl : (Instr.lookup 94 (.map (some m)) (.int .u64 (k : Int)) true).run Try.prog wr = .ok (.tuple #[.agg #[.int .u64 0, .int .u64 0, .int .u64 0, .slice none 0 0], .bool false]) wr := hg0
                  have HLS := Lib.hid (show lv fk (k + 1) = lv fk k by simpa using hls)
                  have HO := Lib.hid (own_below oA ((Below.refl _ _).al (.cells #[.int .u64 0, .int .u64 0, .int .u64 0, .slice none 0 0] 76)))
                  have HS7 := Lib.hid (S6.below ((Below.refl _ _).al (.cells #[.int .u64 0, .int .u64 0, .int .u64 0, .slice none 0 0] 76)))
                  clear hg0 hls S6 oA hfk
                  go_wp2
                  go_roundw
                  case rel => exact ⟨k + 1, NA, A14, c14, by omega, by rw [HLS.out]; exact HNA.out, by go_num, rfl, by rw [HLS.out]; exact HO.out, HS7.out⟩
                  case measure => simp [intOf]; omega
                | some s =>
                  rw [hfk] at hg0 hls
                  have hgl : (Instr.lookup 94 (.map (some m)) (.int .u64 (k : Int)) true).run Try.prog wr = .ok (.tuple #[.agg #[.int .u64 (s.own : Int), .int .u64 (s.xmin : Int), .int .u64 (s.xmax : Int), .slice s.A s.R.length s.c], .bool true]) wr := hg0
                  have HLS := Lib.hid (show lv fk (k + 1) = lv fk k ++ [s] by simpa using hls)
                  have xb := (Below.refl wr.heap.size wr).al (.cells #[.int .u64 (s.own : Int), .int .u64 (s.xmin : Int), .int .u64 (s.xmax : Int), .slice s.A s.R.length s.c] 76)
                  have HO := Lib.hid (own_below (own_below oA xb) ((Below.refl _ _).al (.cells #[.int .u64 (s.own : Int), .int .u64 (s.xmin : Int), .int .u64 (s.xmax : Int), .slice s.A s.R.length s.c] 76)))
                  have HS7 := Lib.hid ((S6.below xb).below ((Below.refl _ _).al (.cells #[.int .u64 (s.own : Int), .int .u64 (s.xmin : Int), .int .u64 (s.xmax : Int), .slice s.A s.R.length s.c] 76)))
                  clear hg0 hls S6 oA hfk xb
                  go_wp2_with (at_builtin; refine wpList_append_src _ rfl (.tmp 79) (.tmp 81) 62 62 rfl w.heap.size 76 _ _ 4 48 Try.underlying62 hi4 hz40 hz41 hz42 rfl _ _ _ rfl HO.out _ 1 s.e rfl (src_rd Try.underlying62 _ (rd_lit (by first | rfl | simp) rfl rfl) (by decide) (sn_one s)) (by simp only [maxLen]; omega) (by omega) (by simp; omega) ?_; intro v9 w9 ho9 hg9 ha9; have S9 := HS7.out.grown HO.out hg9; obtain ⟨A9, c9, hv9, _, _, _⟩ := own_form ho9; subst hv9; have HO9 := Lib.hid ho9; clear ho9 hg9 ha9)
                  go_roundw
                  case rel => exact ⟨k + 1, _, A9, c9, by omega, by rw [HLS.out, List.length_append]; rfl, by go_num, rfl, by
                    rw [HLS.out, List.length_append, List.flatMap_append, List.flatMap_cons, List.flatMap_nil, List.append_nil]
                    exact HO9.out, S9⟩
                  case measure => simp [intOf]; omega
              · obtain rfl : k = 60 := by omega
                have HH := Lib.hid (hor_any wr g 1 NA _ T F3 (lv fk 60) A14 c14 S6.log hNA oA)
                have HD := Lib.hid (fun (t : Nat × Nat) (ht : t ∈ D) => rst_holds S6.rst ht)
                have HNW := Lib.hid (fun (a b : Nat) (h : deadB 1 T a b (hzn (1 + T.length) (lv fk 60)) = true) => rst_new S6.rst (by omega) h)
                obtain ⟨hz, hhz⟩ : ∃ hz, hz = hzn (1 + T.length) (lv fk 60) := ⟨_, rfl⟩
                rw [← hhz] at HH HD HNW
                clear hhz hNA oA
                go_wp2_with (go_at_call 29; (with_reducible refine (HH.out).mono ?_); rintro e w7 ⟨rfl, b7⟩; have S7 := S6.below b7; clear b7 S6)
                go_loopw [89] (fun jv wr => ∃ j : Nat, j ≤ D.length ∧ jv = .int .i64 (j : Int) ∧ Sr w wr g m (n) T F3 fk (.slice A8 N8 c8) D) (fun jv _ => D.length - (intOf jv).toNat)
                case atStart => exact ⟨0, Nat.zero_le _, rfl, S7⟩
                case round =>
                  obtain ⟨j, hj, rfl, S8⟩ := hrel
                  clear S7
                  have hbw := S8.mine.size
                  by_cases hjD : j < D.length
                  · have hjN : j < N8 := by rw [HN8.out]; exact hjD
                    obtain ⟨A8', c8', hv8, _, _, hr8⟩ := own_form S8.dead
                    injection hv8 with hA8 hNN hc8
                    clear hNN
                    subst hA8 hc8
                    obtain ⟨ad8, hA8, p0, p1, p2, p3, p4, p5⟩ := tp_at hr8 hjD
                    subst hA8
                    have ix8 := idx_tp ad8 N8 c8 j hjN
                    have hdd := HD.out D[j] (List.getElem_mem hjD)
                    generalize D[j] = t at *
                    obtain ⟨a, b⟩ := t
                    have hdd : deadB 1 T a b hz = true := hdd
                    have xb := (Below.refl wr.heap.size wr).al (.cells #[.int .u64 0, .int .u64 (a : Int), .int .u64 (b : Int), .int .i64 0, .int .i64 0, .slice none 0 0] 71)
                    have S9 := S8.below xb
                    have hdc := dead_any _ g 1 a b hz T F3 S9.log
                    rw [hdd] at hdc
                    have HDC := Lib.hid hdc
                    clear hdd hr8 S8 xb hdc
                    go_wp2_with (go_at_call 32; (with_reducible refine (HDC.out).mono ?_); rintro e wa ⟨rfl, ba⟩; have Sa := S9.below ba; clear ba S9)
                    go_roundw
                    case rel => exact ⟨j + 1, by omega, by go_num, Sa⟩
                    case measure => simp [intOf]; omega
                  · have hjN : ¬ j < N8 := by rw [HN8.out]; exact hjD
                    by_cases his : i < lp.length
                    · obtain ⟨ad2, rfl, p0, p1⟩ := pr_at (Rd.below R1.out (S8.mine.below.mono (Nat.le_refl _))) his
                      have ix2 := idx_pr ad2 lp.length cc1 i his
                      have ixa := elem_at_a (ad2.add (i * 2))
                      have ixb := elem_at_b (ad2.add (i * 2))
                      have hp1 := lp[i].h1
                      have hp2 := lp[i].h2
                      generalize lp[i].a = ya at *
                      generalize lp[i].b = yb at *
                      obtain ⟨a, ha⟩ : ∃ a, a = ya % 50 := ⟨_, rfl⟩
                      obtain ⟨b, hb⟩ : ∃ b, b = yb % 50 := ⟨_, rfl⟩
                      have ea : ((ya : Int)).tmod 50 = (a : Int) := by rw [ha, Int.tmod_eq_emod_of_nonneg (by omega)]; omega
                      have eb : ((yb : Int)).tmod 50 = (b : Int) := by rw [hb, Int.tmod_eq_emod_of_nonneg (by omega)]; omega
                      clear ha hb
                      have hT := fun W => tuple_any W a b
                      unfold tpv at hT
                      have HT := Lib.hid hT
                      clear hT
                      go_upto_region 37 with fail
                      go_cut [21] (fun s21 wx => ∃ t : Nat, s21 = .pointer (some ⟨t, 0, none⟩) ∧ Bx wx t 71 (tpcells a b) ∧ Below wr.heap.size wr wx)
                      case first =>
                        have hlt2 : (ad2.add (i * 2)).block < wr.heap.size := World.block_lt_of_cell? _ _ p0
                        have hne2 : (ad2.add (i * 2)).block ≠ wr.heap.size := by omega
                        have p0d : wr.drew.cell? (ad2.add (i * 2)) = some (.int .u64 (ya : Int)) := p0
                        have p1d : wr.drew.cell? ⟨(ad2.add (i * 2)).block, (ad2.add (i * 2)).off + 1, none⟩ = some (.int .u64 (yb : Int)) := p1
                        have a0d : (wr.alloc (.cells #[.int .u64 0, .int .u64 0, .int .u64 0, .int .i64 0, .int .i64 0, .slice none 0 0] 71)).drew.cell? (ad2.add (i * 2)) = some (.int .u64 (ya : Int)) := cell_al _ p0
                        have a1d : (wr.alloc (.cells #[.int .u64 0, .int .u64 0, .int .u64 0, .int .i64 0, .int .i64 0, .slice none 0 0] 71)).drew.cell? ⟨(ad2.add (i * 2)).block, (ad2.add (i * 2)).off + 1, none⟩ = some (.int .u64 (yb : Int)) := cell_al _ p1
                        have bA : Bx (wr.alloc (.cells #[.int .u64 0, .int .u64 0, .int .u64 0, .int .i64 0, .int .i64 0, .slice none 0 0] 71)).drew wr.heap.size 71 [.int .u64 0, .int .u64 0, .int .u64 0, .int .i64 0, .int .i64 0, .slice none 0 0] := Bx.new wr 71 _ _ rfl
                        have xA : Below wr.heap.size wr (wr.alloc (.cells #[.int .u64 0, .int .u64 0, .int .u64 0, .int .i64 0, .int .i64 0, .slice none 0 0] 71)).drew := ((Below.refl _ _).al _).next (below_n _ 1)
                        have xd : Below wr.heap.size wr wr.drew := below_n wr 1
                        have HTd := HT.out wr.drew
                        have HTa := HT.out (wr.alloc (.cells #[.int .u64 0, .int .u64 0, .int .u64 0, .int .i64 0, .int .i64 0, .slice none 0 0] 71)).drew
                        have HK : ∀ w4, Below wr.heap.size wr w4 → w4.cell? (ad2.add (i * 2)) = some (.int .u64 (ya : Int)) ∧ w4.cell? ⟨(ad2.add (i * 2)).block, (ad2.add (i * 2)).off + 1, none⟩ = some (.int .u64 (yb : Int)) := fun w4 x4 => ⟨(x4.cell hlt2).trans p0, (x4.cell (p := ⟨(ad2.add (i * 2)).block, (ad2.add (i * 2)).off + 1, none⟩) hlt2).trans p1⟩
                        go_region_held3 (fun w' => w'.cell? (ad2.add (i * 2)) = some (.int .u64 (ya : Int)) ∧ w'.cell? ⟨(ad2.add (i * 2)).block, (ad2.add (i * 2)).off + 1, none⟩ = some (.int .u64 (yb : Int))) (first | (with_reducible assumption) | (with_reducible exact ⟨p0d, p1d⟩) | (with_reducible exact ⟨a0d, a1d⟩) | (with_reducible exact ⟨cell_al _ (And.left (by assumption)), cell_al _ (And.right (by assumption))⟩) | (with_reducible exact ⟨cell_set6 hne2 (And.left (by assumption)), cell_set6 hne2 (And.right (by assumption))⟩))
                          (first
                          | (go_at_call 31; (with_reducible refine HTd.mono ?_); rintro e w4 ⟨rfl, hb4⟩; have x4 := xd.next hb4; have hS4 := HK w4 x4)
                          | (go_at_call 31; (with_reducible refine HTa.mono ?_); rintro e w4 ⟨rfl, hb4⟩; have x4 := xA.next hb4; have bt4 := bA.below hb4; have hS4 := HK w4 x4; have k0 := bt4.cell 0; have k1 := bt4.cell 1; have k2 := bt4.cell 2; have k3 := bt4.cell 3; have k4 := bt4.cell 4; have k5 := bt4.cell 5; have f0 := bt4.frozen 0; have f1 := bt4.frozen 1; have f2 := bt4.frozen 2; have f3 := bt4.frozen 3; have f4 := bt4.frozen 4; have f5 := bt4.frozen 5))
                        · go_wp2_with fail
                          go_meet
                          exact ⟨_, rfl, Bx.new w4 71 _ _ rfl, x4.al _⟩
                        · go_wp2_with fail
                          go_meet
                          exact ⟨_, rfl, ((((((bt4.set 0 _).set 1 _).set 2 _).set 3 _).set 4 _).set 5 _), below_set6 x4 (Nat.le_refl _)⟩
                      case rest =>
                        obtain ⟨t, rfl, bt, xt⟩ := hcut
                        have S9 := S8.below xt
                        have k0 : wc.cell? ⟨t, 0, none⟩ = some (.int .u64 0) := bt.cell 0
                        have k1 : wc.cell? ⟨t, 1, none⟩ = some (.int .u64 (a : Int)) := bt.cell 1
                        have k2 : wc.cell? ⟨t, 2, none⟩ = some (.int .u64 (b : Int)) := bt.cell 2
                        have k3 : wc.cell? ⟨t, 3, none⟩ = some (.int .i64 0) := bt.cell 3
                        have k4 : wc.cell? ⟨t, 4, none⟩ = some (.int .i64 0) := bt.cell 4
                        have k5 : wc.cell? ⟨t, 5, none⟩ = some (.slice none 0 0) := bt.cell 5
                        have HDC := Lib.hid (dead_any _ g 1 a b hz T F3 S9.log)
                        have hdn : deadB 1 T a b hz = true → Rst T fk (D ++ [(a, b)]) := fun h => HNW.out a b h
                        clear S8 xt
                        cases hdb : deadB 1 T a b hz with
                        | false =>
                          rw [hdb] at HDC
                          go_wp2_with (go_at_call 32; (with_reducible refine (HDC.out).mono ?_); rintro e wa ⟨rfl, ba⟩; have Sa := S9.below ba; clear ba S9)
                          go_roundw
                          case rel => exact ⟨i + 1, _, N8, _, _, _, _, _, _, by omega, by omega, by omega, hTl, by omega, HN8.out, by go_num, rfl, Sa⟩
                          case measure => simp [intOf]; omega
                        | true =>
                          rw [hdb] at HDC
                          have HRN := Lib.hid (hdn hdb)
                          go_wp2_with fail
                          refine (HDC.out).mono ?_
                          rintro e wa ⟨rfl, ba⟩
                          have Sa := S9.below ba
                          have bta := bt.below ba
                          have j0 : wa.cell? ⟨t, 0, none⟩ = some (.int .u64 0) := bta.cell 0
                          have j1 : wa.cell? ⟨t, 1, none⟩ = some (.int .u64 (a : Int)) := bta.cell 1
                          have j2 : wa.cell? ⟨t, 2, none⟩ = some (.int .u64 (b : Int)) := bta.cell 2
                          have j3 : wa.cell? ⟨t, 3, none⟩ = some (.int .i64 0) := bta.cell 3
                          have j4 : wa.cell? ⟨t, 4, none⟩ = some (.int .i64 0) := bta.cell 4
                          have j5 : wa.cell? ⟨t, 5, none⟩ = some (.slice none 0 0) := bta.cell 5
                          have Sb := Sa.below ((Below.refl _ _).al (.cells #[.int .u64 0, .int .u64 (a : Int), .int .u64 (b : Int), .int .i64 0, .int .i64 0, .slice none 0 0] 71))
                          have hbw2 := Sa.mine.size
                          clear k0 k1 k2 k3 k4 k5 bt bta ba S9 Sa hdn hdb
                          go_wp2_with (at_builtin; refine wpList_append_src _ rfl (.tmp 124) (.tmp 126) 91 91 rfl w.heap.size 71 _ _ 6 64 Try.underlying91 hi6 hz60 hz61 hz62 rfl _ _ _ rfl Sb.dead _ 1 (tpc (a, b)) rfl (src_rd Try.underlying91 _ (rd_lit (by first | rfl | simp) rfl rfl) (by decide) (tp_one (a, b))) (by simp only [maxLen]; omega) (by omega) (by simp; omega) ?_; intro v9 w9 ho9 hg9 ha9; have S9 := Sb.more (t := (a, b)) hg9 ho9 HRN.out; obtain ⟨A9, c9, hv9, _, _, _⟩ := own_form ho9; subst hv9; clear ho9 hg9 ha9)
                          go_roundw
                          case rel => exact ⟨i + 1, _, _, _, _, _, _, _, _, by omega, by omega, by omega, hTl, by rw [List.length_append, List.length_singleton]; omega, by rw [List.length_append, List.length_singleton], by go_num, rfl, S9⟩
                          case measure => simp [intOf]; omega
                    · go_wp2_with fail
                      go_roundw
                      case rel => exact ⟨i + 1, _, N8, _, _, _, _, _, _, by omega, by omega, by omega, hTl, by omega, HN8.out, by go_num, rfl, S8⟩
                      case measure => simp [intOf]; omega
    · rcases (show i = l.length ∨ (i < l.length ∧ i = 50) by omega) with hil | ⟨hlt2, hil⟩
      · subst hil
        have hbel := hS.mine.below
        clear r0 r1 S0 hS
        go_wp2_with fail
        go_ret
        exact ⟨rfl, hbel⟩
      · obtain ⟨ad, rfl, q0, q1⟩ := op10_at (Rd.below r0 (hS.mine.below.mono (Nat.le_refl _))) hlt2
        have ix := idx_op10 ad l.length cc i hlt2
        generalize l[i] = o at *
        have h50 : (50 : Int) ≤ (i : Int) := by omega
        have hbel := (hS.mine.alloc (.cells #[.int .u8 (o.do_ : Int), .int .u64 (o.xid : Int)] 89)).below
        clear r0 r1 S0 hS hil hi5
        go_wp2_with fail
        go_ret
        exact ⟨rfl, hbel⟩
end Go.Proofs.Ytjkjomooklhdbaa.snapRests
