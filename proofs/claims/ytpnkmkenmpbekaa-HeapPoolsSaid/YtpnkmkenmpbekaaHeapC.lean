/-
  Package heap: insertOnNew.
-/
import Derived.Test.YtpnkmkenmpbekaaHeapB
namespace Go.Proofs.Ytpnkmkenmpbekaa
open Go.RowKit
set_option linter.unusedVariables false

theorem push_bx {w w' : World} {b n : Nat} {T : TypeId} {v : Value} {xs l : List Value} {o : Obj} (hb : Bx w b T l) (hT : 35 ≠ T) (hrow : w.ownsRow 0 35 1 v n xs) (hg : (w.alloc o).grownBy w' v.ownBlock) : Bx w' b T l :=
  (Fr.of_own (S := fun k => v.ownBlock = some k) hg fun k e => e).bx (hb.alloc o) fun e => (own_ty (World.ownsRow.alloc hrow o) e).ne (hb.alloc o).ty hT rfl
section
variable (w : World) (h p g : Nat) (v rv : Value) (gs : List Nat) (Ps : List Pg) (rs : List Int) (n : Nat) (t : Ver) (A : Option Addr) (c : Nat)
set_option maxRecDepth 100000 in
set_option maxHeartbeats 1000000 in
theorem onnew_bad (hok : ¬ t.ok) (hd : Rd w 1 A t.d.length (bcells t.d)) (hA : ∀ ad : Addr, A = some ad → ad.block < w.heap.size) :
    Calls Try.prog 94 #[.pointer (some ⟨h, 0, none⟩), .agg #[.int .u64 (t.r : Int), .int .u64 (t.x : Int), .int .u64 (t.m : Int), .int .i64 t.p, .int .i64 t.s, .slice A t.d.length c]] w fun e w' => e = .returned (.tuple #[.agg #[.int .i64 0, .int .i64 0], .int .i64 3]) ∧ Below w.heap.size w w' := by
  have b0 := Bx.new w 44 _ [.int .u64 (t.r : Int), .int .u64 (t.x : Int), .int .u64 (t.m : Int), .int .i64 t.p, .int .i64 t.s, .slice A t.d.length c] rfl
  have bT := b0.alloc (.cells #[.int .i64 0, .int .i64 0] 41)
  have bI := Bx.new (w.alloc (.cells #[.int .u64 (t.r : Int), .int .u64 (t.x : Int), .int .u64 (t.m : Int), .int .i64 t.p, .int .i64 t.s, .slice A t.d.length c] 44)) 41 _ [.int .i64 0, .int .i64 0] rfl
  have z1 : (w.alloc (.cells #[.int .u64 (t.r : Int), .int .u64 (t.x : Int), .int .u64 (t.m : Int), .int .i64 t.p, .int .i64 t.s, .slice A t.d.length c] 44)).heap.size = w.heap.size + 1 := by simp
  rw [z1] at bI
  have hbl : Below w.heap.size w ((w.alloc (.cells #[.int .u64 (t.r : Int), .int .u64 (t.x : Int), .int .u64 (t.m : Int), .int .i64 t.p, .int .i64 t.s, .slice A t.d.length c] 44)).alloc (.cells #[.int .i64 0, .int .i64 0] 41)) := ((Below.refl _ _).al _).al _
  have zW : ((w.alloc (.cells #[.int .u64 (t.r : Int), .int .u64 (t.x : Int), .int .u64 (t.m : Int), .int .i64 t.p, .int .i64 t.s, .slice A t.d.length c] 44)).alloc (.cells #[.int .i64 0, .int .i64 0] 41)).heap.size = w.heap.size + 2 := by simp
  have ZW := Lib.hid zW
  clear z1 b0 zW
  have hI : ∀ W a, Pge W a Pg0 → Below w.heap.size w W → w.heap.size ≤ a → Calls Try.prog 39 #[.pointer (some ⟨a, 0, none⟩), .agg #[.int .u64 (t.r : Int), .int .u64 (t.x : Int), .int .u64 (t.m : Int), .int .i64 t.p, .int .i64 t.s, .slice A t.d.length c]] W fun e w' => e = .returned (.tuple #[.int .i64 0, .int .i64 3]) ∧ Pge w' a Pg0 ∧ W.grownBy w' (some a) := fun W a hP hW ha => by
    have := insE_any W a Pg0 t A c hP (hd.below hW) (fun ad e => by have := hA ad e; omega)
    rw [insE_bad hok, show insS Pg0 t = 0 by unfold insS; rw [insE_bad hok, if_neg (by decide)], insN_bad (by rw [insE_bad hok]; decide)] at this
    exact this
  have HI := Lib.hid hI
  clear hI hd hA
  go_enter Try.func94, Try.ntmps94
  go_wp2_with fail
  generalize ((w.alloc (.cells #[.int .u64 (t.r : Int), .int .u64 (t.x : Int), .int .u64 (t.m : Int), .int .i64 t.p, .int .i64 t.s, .slice A t.d.length c] 44)).alloc (.cells #[.int .i64 0, .int .i64 0] 41)) = W at *
  refine (pnewE_any W).mono ?_
  rintro e w1 ⟨rfl, hP1, hb1⟩
  have bT1 := bT.below hb1
  have bI1 := bI.below hb1
  have x1 := hbl.next hb1
  have k0 := bT1.cell 0
  have k1 := bT1.cell 1
  have k2 := bT1.cell 2
  have k3 := bT1.cell 3
  have k4 := bT1.cell 4
  have k5 := bT1.cell 5
  have hWle := hbl.size
  clear bT bI
  go_wp2_with fail
  refine (HI.out w1 W.heap.size hP1 x1 hWle).mono ?_
  rintro e w2 ⟨rfl, hP2, g2⟩
  have bI2 := bI1.kept g2 (fun e => by injection e with e; have := ZW.out; omega)
  have x2 := x1.trans (below_of_grown g2 hWle x1.size)
  clear k0 k1 k2 k3 k4 k5 bI1 bT1
  have y0 := bI2.cell 0
  have y1 := bI2.cell 1
  have fz0 := bI2.frozen 0
  have fz1 := bI2.frozen 1
  go_wp2_with fail
  have bz := (bI2.set 0 (.int .i64 0)).set 1 (.int .i64 0)
  have fz : Fr (fun k => k = w.heap.size + 1) w2 ((w2.setCell ⟨w.heap.size + 1, 0, none⟩ (.int .i64 0)).setCell ⟨w.heap.size + 1, 1, none⟩ (.int .i64 0)) := ((Fr.refl (fun k => k = w.heap.size + 1) _).set (.inl rfl) 0 _).set (.inl rfl) 1 _
  clear y0 y1 fz0 fz1
  generalize ((w2.setCell ⟨w.heap.size + 1, 0, none⟩ (.int .i64 0)).setCell ⟨w.heap.size + 1, 1, none⟩ (.int .i64 0)) = WZ at *
  have y0 := bz.cell 0
  have y1 := bz.cell 1
  refine bodyPost_ret (v := .tuple #[.agg #[.int .i64 0, .int .i64 0], .int .i64 3]) (by simp [results, Try.results94, go_sem, y0, y1]) rfl ?_
  exact ⟨rfl, x2.trans (fz.below (fun k e => by subst e; omega) x2.size)⟩
set_option maxRecDepth 100000 in
set_option maxHeartbeats 1000000 in
theorem onnew_full (H : Hm w h p g v rv gs Ps rs) (hp : Pool w p 0) (hok : t.ok) (hd : Rd w 1 A t.d.length (bcells t.d)) (hA : ∀ ad : Addr, A = some ad → ad.block < w.heap.size) :
    Calls Try.prog 94 #[.pointer (some ⟨h, 0, none⟩), .agg #[.int .u64 (t.r : Int), .int .u64 (t.x : Int), .int .u64 (t.m : Int), .int .i64 t.p, .int .i64 t.s, .slice A t.d.length c]] w fun e w' => e = .returned (.tuple #[.agg #[.int .i64 0, .int .i64 0], .int .i64 12]) ∧ Below w.heap.size w w' := by
  have he := insE_ok (P := Pg0) hok (by rw [room0]; have := Ver.ok_len hok; omega)
  have hH : ∀ W, Below w.heap.size w W → W.cell? ⟨h, 0, none⟩ = some (.pointer (some ⟨p, 0, none⟩)) ∧ Pool W p 0 := fun W hW => ⟨(H.box.below hW).cell 0, hp.below hW⟩
  have HH := Lib.hid hH
  clear hH H hp
  have b0 := Bx.new w 44 _ [.int .u64 (t.r : Int), .int .u64 (t.x : Int), .int .u64 (t.m : Int), .int .i64 t.p, .int .i64 t.s, .slice A t.d.length c] rfl
  have bT := b0.alloc (.cells #[.int .i64 0, .int .i64 0] 41)
  have bI := Bx.new (w.alloc (.cells #[.int .u64 (t.r : Int), .int .u64 (t.x : Int), .int .u64 (t.m : Int), .int .i64 t.p, .int .i64 t.s, .slice A t.d.length c] 44)) 41 _ [.int .i64 0, .int .i64 0] rfl
  have z1 : (w.alloc (.cells #[.int .u64 (t.r : Int), .int .u64 (t.x : Int), .int .u64 (t.m : Int), .int .i64 t.p, .int .i64 t.s, .slice A t.d.length c] 44)).heap.size = w.heap.size + 1 := by simp
  rw [z1] at bI
  have hbl : Below w.heap.size w ((w.alloc (.cells #[.int .u64 (t.r : Int), .int .u64 (t.x : Int), .int .u64 (t.m : Int), .int .i64 t.p, .int .i64 t.s, .slice A t.d.length c] 44)).alloc (.cells #[.int .i64 0, .int .i64 0] 41)) := ((Below.refl _ _).al _).al _
  have zW : ((w.alloc (.cells #[.int .u64 (t.r : Int), .int .u64 (t.x : Int), .int .u64 (t.m : Int), .int .i64 t.p, .int .i64 t.s, .slice A t.d.length c] 44)).alloc (.cells #[.int .i64 0, .int .i64 0] 41)).heap.size = w.heap.size + 2 := by simp
  have ZW := Lib.hid zW
  clear z1 b0 zW
  have hI : ∀ W a, Pge W a Pg0 → Below w.heap.size w W → w.heap.size ≤ a → Calls Try.prog 39 #[.pointer (some ⟨a, 0, none⟩), .agg #[.int .u64 (t.r : Int), .int .u64 (t.x : Int), .int .u64 (t.m : Int), .int .i64 t.p, .int .i64 t.s, .slice A t.d.length c]] W fun e w' => e = .returned (.tuple #[.int .i64 0, .int .i64 0]) ∧ Pge w' a (insP Pg0 t) ∧ W.grownBy w' (some a) := fun W a hP hW ha => by
    have := insE_any W a Pg0 t A c hP (hd.below hW) (fun ad e => by have := hA ad e; omega)
    rw [he, insS_ok he, low0, insN_ok he] at this
    exact this
  have HI := Lib.hid hI
  clear hI hd hA
  clear he
  go_enter Try.func94, Try.ntmps94
  go_wp2_with fail
  generalize ((w.alloc (.cells #[.int .u64 (t.r : Int), .int .u64 (t.x : Int), .int .u64 (t.m : Int), .int .i64 t.p, .int .i64 t.s, .slice A t.d.length c] 44)).alloc (.cells #[.int .i64 0, .int .i64 0] 41)) = W at *
  refine (pnewE_any W).mono ?_
  rintro e w1 ⟨rfl, hP1, hb1⟩
  have bT1 := bT.below hb1
  have bI1 := bI.below hb1
  have x1 := hbl.next hb1
  have k0 := bT1.cell 0
  have k1 := bT1.cell 1
  have k2 := bT1.cell 2
  have k3 := bT1.cell 3
  have k4 := bT1.cell 4
  have k5 := bT1.cell 5
  have hWle := hbl.size
  clear bT bI
  go_wp2_with fail
  refine (HI.out w1 W.heap.size hP1 x1 hWle).mono ?_
  rintro e w2 ⟨rfl, hP2, g2⟩
  have bI2 := bI1.kept g2 (fun e => by injection e with e; have := ZW.out; omega)
  have x2 := x1.trans (below_of_grown g2 hWle x1.size)
  clear k0 k1 k2 k3 k4 k5 bI1 bT1
  obtain ⟨q0, hp2⟩ := HH.out w2 x2
  have HL := Lib.hid (left_any w2 p 0 hp2)
  clear hp2
  have y0 := bI2.cell 0
  have y1 := bI2.cell 1
  have fz0 := bI2.frozen 0
  have fz1 := bI2.frozen 1
  go_wp2_with (go_at_call 44; (with_reducible refine (HL.out).mono ?_); rintro e w3 ⟨rfl, hw1⟩; have hw := hw1.symm; subst hw)
  have bz := (bI2.set 0 (.int .i64 0)).set 1 (.int .i64 0)
  have fz : Fr (fun k => k = w.heap.size + 1) w2 ((w2.setCell ⟨w.heap.size + 1, 0, none⟩ (.int .i64 0)).setCell ⟨w.heap.size + 1, 1, none⟩ (.int .i64 0)) := ((Fr.refl (fun k => k = w.heap.size + 1) _).set (.inl rfl) 0 _).set (.inl rfl) 1 _
  clear y0 y1 fz0 fz1
  generalize ((w2.setCell ⟨w.heap.size + 1, 0, none⟩ (.int .i64 0)).setCell ⟨w.heap.size + 1, 1, none⟩ (.int .i64 0)) = WZ at *
  have y0 := bz.cell 0
  have y1 := bz.cell 1
  refine bodyPost_ret (v := .tuple #[.agg #[.int .i64 0, .int .i64 0], .int .i64 12]) (by simp [results, Try.results94, go_sem, y0, y1]) rfl ?_
  exact ⟨rfl, x2.trans (fz.below (fun k e => by subst e; omega) x2.size)⟩
set_option maxRecDepth 100000 in
set_option maxHeartbeats 1000000 in
theorem onnew_ok (H : Hm w h p g v rv gs Ps (Ps.map Pg.room)) (hp : Pool w p (n + 1)) (h256 : Ps.length + (n + 1) ≤ 256) (hok : t.ok) (hd : Rd w 1 A t.d.length (bcells t.d)) (hA : ∀ ad : Addr, A = some ad → ad.block < w.heap.size) :
    Calls Try.prog 94 #[.pointer (some ⟨h, 0, none⟩), .agg #[.int .u64 (t.r : Int), .int .u64 (t.x : Int), .int .u64 (t.m : Int), .int .i64 t.p, .int .i64 t.s, .slice A t.d.length c]] w fun e w' => e = .returned (.tuple #[.agg #[.int .i64 (Ps.length : Int), .int .i64 0], .int .i64 0]) ∧ ∃ F', Heap w' h p F' (Ps ++ [insP Pg0 t]) ∧ Pool w' p n ∧ Fr (fun k => Fp h g v rv gs k ∨ k = p) w w' ∧ ∀ k, F' k → Fp h g v rv gs k ∨ w.heap.size ≤ k := by
  obtain ⟨i0, hi0, hz0, hz1, hz2⟩ := info_parts4 info_ptr
  have he := insE_ok (P := Pg0) hok (by rw [room0]; have := Ver.ok_len hok; omega)
  have hlen := H.len
  have hgs : gs.length ≤ 255 := by omega
  have hwn : IntKind.i64.wrap (((n + 1 : Nat) : Int) - 1) = (n : Int) := by rw [show ((n + 1 : Nat) : Int) - 1 = (n : Int) by omega]; exact IntWalk.i64_in _ (by omega)
  have hwn' : ((n + 1 : Nat) : Int) - 1 = (n : Int) := by omega
  have hn1 : (((n + 1 : Nat) : Int) == 0) = false := beq_eq_false_iff_ne.2 (by omega)
  have HH := Lib.hid H
  have HP := Lib.hid hp
  clear H hp
  rw [← hlen]
  have HLN := Lib.hid hlen
  clear hlen
  have b0 := Bx.new w 44 _ [.int .u64 (t.r : Int), .int .u64 (t.x : Int), .int .u64 (t.m : Int), .int .i64 t.p, .int .i64 t.s, .slice A t.d.length c] rfl
  have bT := b0.alloc (.cells #[.int .i64 0, .int .i64 0] 41)
  have bI := Bx.new (w.alloc (.cells #[.int .u64 (t.r : Int), .int .u64 (t.x : Int), .int .u64 (t.m : Int), .int .i64 t.p, .int .i64 t.s, .slice A t.d.length c] 44)) 41 _ [.int .i64 0, .int .i64 0] rfl
  have z1 : (w.alloc (.cells #[.int .u64 (t.r : Int), .int .u64 (t.x : Int), .int .u64 (t.m : Int), .int .i64 t.p, .int .i64 t.s, .slice A t.d.length c] 44)).heap.size = w.heap.size + 1 := by simp
  rw [z1] at bI
  have hbl : Below w.heap.size w ((w.alloc (.cells #[.int .u64 (t.r : Int), .int .u64 (t.x : Int), .int .u64 (t.m : Int), .int .i64 t.p, .int .i64 t.s, .slice A t.d.length c] 44)).alloc (.cells #[.int .i64 0, .int .i64 0] 41)) := ((Below.refl _ _).al _).al _
  have zW : ((w.alloc (.cells #[.int .u64 (t.r : Int), .int .u64 (t.x : Int), .int .u64 (t.m : Int), .int .i64 t.p, .int .i64 t.s, .slice A t.d.length c] 44)).alloc (.cells #[.int .i64 0, .int .i64 0] 41)).heap.size = w.heap.size + 2 := by simp
  have ZW := Lib.hid zW
  clear z1 b0 zW
  have hI : ∀ W a, Pge W a Pg0 → Below w.heap.size w W → w.heap.size ≤ a → Calls Try.prog 39 #[.pointer (some ⟨a, 0, none⟩), .agg #[.int .u64 (t.r : Int), .int .u64 (t.x : Int), .int .u64 (t.m : Int), .int .i64 t.p, .int .i64 t.s, .slice A t.d.length c]] W fun e w' => e = .returned (.tuple #[.int .i64 0, .int .i64 0]) ∧ Pge w' a (insP Pg0 t) ∧ W.grownBy w' (some a) := fun W a hP hW ha => by
    have := insE_any W a Pg0 t A c hP (hd.below hW) (fun ad e => by have := hA ad e; omega)
    rw [he, insS_ok he, low0, insN_ok he] at this
    exact this
  have HI := Lib.hid hI
  clear hI hd hA
  clear he
  go_enter Try.func94, Try.ntmps94
  go_wp2_with fail
  generalize ((w.alloc (.cells #[.int .u64 (t.r : Int), .int .u64 (t.x : Int), .int .u64 (t.m : Int), .int .i64 t.p, .int .i64 t.s, .slice A t.d.length c] 44)).alloc (.cells #[.int .i64 0, .int .i64 0] 41)) = W at *
  refine (pnewE_any W).mono ?_
  rintro e w1 ⟨rfl, hP1, hb1⟩
  have bT1 := bT.below hb1
  have bI1 := bI.below hb1
  have x1 := hbl.next hb1
  have k0 := bT1.cell 0
  have k1 := bT1.cell 1
  have k2 := bT1.cell 2
  have k3 := bT1.cell 3
  have k4 := bT1.cell 4
  have k5 := bT1.cell 5
  have hWle := hbl.size
  clear bT bI
  go_wp2_with fail
  refine (HI.out w1 W.heap.size hP1 x1 hWle).mono ?_
  rintro e w2 ⟨rfl, hP2, g2⟩
  have bI2 := bI1.kept g2 (fun e => by injection e with e; have := ZW.out; omega)
  have x2 := x1.trans (below_of_grown g2 hWle x1.size)
  clear k0 k1 k2 k3 k4 k5 bI1 bT1
  have H2 := HH.out.below x2
  have p2 := HP.out.below x2
  have HL := Lib.hid (left_any w2 p (n + 1) p2)
  have q0 := H2.box.cell 0
  have q1 := H2.box.cell 1
  have pc := p2.cell 0
  have pf := p2.frozen 0
  have hpne := H2.nep p2
  obtain ⟨B, cc, hv, hn3, hm3, _⟩ := own_form H2.row
  have s3 : Fr (fun k => k = p) w2 (w2.setCell ⟨p, 0, none⟩ (.int .i64 (n : Int))) := (Fr.refl (fun k => k = p) _).set (.inl rfl) 0 _
  have p3 : Pool (w2.setCell ⟨p, 0, none⟩ (.int .i64 (n : Int))) p n := p2.set 0 _
  have H3 := H2.fr s3 fun k hk e => hpne (by rw [← e]; exact hk)
  have hPn : ¬ W.heap.size = p := hP2.ty.ne p2.ty (by decide)
  have hIn : ¬ w.heap.size + 1 = p := bI2.ty.ne p2.ty (by decide)
  have P3 := s3.pge hP2 hPn
  have bI3 := s3.bx bI2 hIn
  have r0 := H3.box.cell 0
  have r1 := H3.box.cell 1
  have f3 := H3.box.frozen 1
  have hrow := H3.row
  have hfresh : W.heap.size ∉ gs := fun hm => HH.out.new hWle (.inr (.inr (.inr (.inr hm))))
  subst hv
  go_wp2_with (first
    | (go_at_call 44; (with_reducible refine (HL.out).mono ?_); rintro e w3 ⟨rfl, hw1⟩; have hw := hw1.symm; subst hw)
    | (at_builtin; refine wpList_append_src _ rfl (.tmp 47) (.tmp 49) 147 147 rfl 0 35 _ _ 1 8 Try.underlying147 hi0 hz0 hz1 hz2 rfl _ _ _ rfl (World.ownsRow.alloc hrow _) _ 1 (ptrs [W.heap.size]) rfl (src_rd Try.underlying147 _ (rd_lit (by first | rfl | simp) rfl rfl) (by decide) (ptrs_one _)) (by simp only [maxLen]; omega) (by omega) (by simp) ?_; intro v4 w4 ho4 hg4 ha4; obtain ⟨g4, c4, hv4, _, hn4, hm4⟩ := own_shape ho4 (by omega); subst hv4; have b4 := push_bx H3.box (by decide) hrow hg4; have t1 := b4.cell 1; have tf := b4.frozen 1))
  have hf4 : Fr (fun k => (Value.slice B gs.length cc).ownBlock = some k) _ w4 := Fr.of_own hg4 (fun k e => e)
  have H5 := Hm.push H3 P3 hfresh hg4 ho4
  have P5 := H5.pages gs.length W.heap.size (insP Pg0 t) (by simp) (by rw [HLN.out]; simp)
  have s5 : Fr (fun k => k = h) w4 (w4.setCell ⟨h, 1, none⟩ (.slice (some ⟨g4, 0, none⟩) (gs.length + 1) c4)) := (Fr.refl (fun k => k = h) _).set (.inl rfl) 1 (.slice (some ⟨g4, 0, none⟩) (gs.length + 1) c4)
  have bI4 := push_bx bI3 (by decide) hrow hg4
  have p4 := push_bx p3 (by decide) hrow hg4
  have bI5 := s5.bx bI4 (bI4.ty.ne b4.ty (by decide))
  have p5 := s5.bx p4 (p4.ty.ne b4.ty (by decide))
  have F3 : Fr (fun k => Fp h g (.slice B gs.length cc) rv gs k ∨ k = p) w (w2.setCell ⟨p, 0, none⟩ (.int .i64 (n : Int))) := (Fr.of_below x2).trans s3 (fun k e => .inl (.inr e))
  have F4 := (F3.alloc _).trans hf4 (fun k e => .inl (.inl (.inr (.inr (.inr (.inl e))))))
  have F5 := F4.trans s5 (fun k e => .inl (.inl (.inl e)))
  have hsz4 := (F3.alloc (.cells #[.pointer (some ⟨W.heap.size, 0, none⟩)] 35)).size
  have HN := Lib.hid (note_any _ h p g (.slice (some ⟨g4, 0, none⟩) (gs.length + 1) c4) rv (gs ++ [W.heap.size]) (Ps.map Pg.room) gs.length W.heap.size (insP Pg0 t) H5.box H5.row H5.rooms (by simp) P5 (by rw [HLN.out]; simp) (by omega))
  clear H2 p2 HL q0 q1 pc pf hpne s3 p3 H3 hPn hIn P3 bI3 bI4 p4 r0 r1 f3 hrow b4 t1 tf s5 F3 F4 hf4
  generalize w4.setCell ⟨h, 1, none⟩ (.slice (some ⟨g4, 0, none⟩) (gs.length + 1) c4) = w5 at *
  refine HN.out.mono ?_
  rintro e w6 ⟨rfl, rv6, o6, r6⟩
  have hf6 : Fr (fun k => k = g ∨ rv.ownBlock = some k) w5 w6 := Fr.of_only o6 (.inl rfl) fun k e => .inr e
  have H6 := H5.note o6 r6
  have hno : ∀ {k : Nat} {T : TypeId}, Ty w5 k T → T ≠ 119 → T ≠ 3 → ¬ (k = g ∨ rv.ownBlock = some k) := fun hT h1 h2 e => by
    rcases e with e | e
    · exact hT.ne H5.rooms.ty h1 e
    · exact hT.ne (own_ty H5.rooms.row e) h2 rfl
  have bI6 := hf6.bx bI5 (hno bI5.ty (by decide) (by decide))
  have p6 := hf6.bx p5 (hno p5.ty (by decide) (by decide))
  have F6 := F5.trans hf6 (fun k e => .inl (.inl (e.elim (fun e => .inr (.inl e)) (fun e => .inr (.inr (.inl e))))))
  have hput : putR (Ps.map Pg.room) gs.length (insP Pg0 t).room = (Ps ++ [insP Pg0 t]).map Pg.room := by
    unfold putR
    rw [if_pos (by rw [HLN.out]; simp)]; simp
  rw [hput] at H6
  have hsz5 := F5.size
  have y0 := bI6.cell 0
  have y1 := bI6.cell 1
  have fz0 := bI6.frozen 0
  have fz1 := bI6.frozen 1
  go_wp2_with fail
  have bz := (bI6.set 0 (.int .i64 (gs.length : Int))).set 1 (.int .i64 0)
  have fz : Fr (fun k => k = w.heap.size + 1) w6 ((w6.setCell ⟨w.heap.size + 1, 0, none⟩ (.int .i64 (gs.length : Int))).setCell ⟨w.heap.size + 1, 1, none⟩ (.int .i64 0)) := ((Fr.refl (fun k => k = w.heap.size + 1) _).set (.inl rfl) 0 _).set (.inl rfl) 1 _
  clear y0 y1 fz0 fz1
  generalize ((w6.setCell ⟨w.heap.size + 1, 0, none⟩ (.int .i64 (gs.length : Int))).setCell ⟨w.heap.size + 1, 1, none⟩ (.int .i64 0)) = WZ at *
  have y0 := bz.cell 0
  have y1 := bz.cell 1
  refine bodyPost_ret (v := .tuple #[.agg #[.int .i64 (gs.length : Int), .int .i64 0], .int .i64 0]) (by simp [results, Try.results94, go_sem, y0, y1]) rfl ?_
  have hyI : ¬ Fp h g (.slice (some ⟨g4, 0, none⟩) (gs.length + 1) c4) rv6 (gs ++ [W.heap.size]) (w.heap.size + 1) := H6.not bI6.ty (by decide) (by decide) (by decide) (by decide) (by decide)
  refine ⟨rfl, _, ⟨g, (.slice (some ⟨g4, 0, none⟩) (gs.length + 1) c4), rv6, gs ++ [W.heap.size], H6.fr fz (fun k hk e => by subst e; exact hyI hk), rfl⟩, fz.bx p6 (p6.ty.ne bI6.ty (by decide)), F6.trans fz (fun k e => .inr (by subst e; omega)), ?_⟩
  rintro k (rfl | rfl | hk | hk | hk)
  · exact .inl (.inl rfl)
  · exact .inl (.inr (.inl rfl))
  · rcases o6.own with e | ⟨q, e, hq⟩
    · exact .inl (.inr (.inr (.inl (e.symm.trans hk))))
    · rw [e] at hk
      injection hk with hk
      exact .inr (by omega)
  · rcases ha4 with e | e
    · exact .inl (.inr (.inr (.inr (.inl (e.symm.trans hk)))))
    · rw [e] at hk
      injection hk with hk
      exact .inr (by rw [← hk]; exact hsz4)
  · rcases List.mem_append.1 hk with hk | hk
    · exact .inl (.inr (.inr (.inr (.inr hk))))
    · rw [List.mem_singleton] at hk
      exact .inr (by omega)
end
end Go.Proofs.Ytpnkmkenmpbekaa
