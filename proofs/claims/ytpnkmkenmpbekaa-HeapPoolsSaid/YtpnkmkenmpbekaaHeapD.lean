/-
  Package heap: Insert.
-/
import Derived.Test.YtpnkmkenmpbekaaHeapC
namespace Go.Proofs.Ytpnkmkenmpbekaa
open Go.RowKit
set_option linter.unusedVariables false

def fI (Ps : List Pg) (m : Int) : Nat := (hfind Ps m).getD 0
def fB (Ps : List Pg) (m : Int) : Bool := (hfind Ps m).isSome
theorem found_hfind (Ps : List Pg) (m : Int) : Found (Ps.map Pg.room) m (fI Ps m) (fB Ps m) := by
  unfold fI fB
  cases hf : hfind Ps m with
  | some i =>
    refine ⟨fun _ => ?_, fun e => by cases e⟩
    obtain ⟨P, h1, h2⟩ := hfind_some hf
    have hlt := (List.getElem?_eq_some_iff.1 h1).1
    have hg : ∀ j (Q : Pg), Ps[j]? = some Q → (Ps.map Pg.room).getD j 0 = Q.room := fun j Q hQ => by rw [List.getD_eq_getElem?_getD, List.getElem?_map, hQ]; rfl
    refine ⟨by simpa using hlt, ?_, fun j hj => ?_⟩
    · show m ≤ (Ps.map Pg.room).getD i 0
      rw [hg i P h1]; exact h2
    · have hj' : j < i := hj
      have hQ := List.getElem?_eq_getElem (l := Ps) (i := j) (by omega)
      rw [hg j _ hQ]
      rcases Int.lt_or_le (Ps[j]'(by omega)).room m with h | h
      · exact h
      · have := hfind_first hf hQ h; omega
  | none =>
    refine ⟨fun e => (by cases e), fun _ => ⟨rfl, fun j hj => ?_⟩⟩
    have hj' : j < Ps.length := by simpa using hj
    have hQ := List.getElem?_eq_getElem (l := Ps) (i := j) hj'
    rw [List.getD_eq_getElem?_getD, List.getElem?_map, hQ]
    exact hfind_none hf hQ
theorem hfind_any (w : World) (g : Nat) (rv : Value) (Ps : List Pg) (m : Nat) (R : Room w 0 0 g rv (Ps.map Pg.room)) :
    Calls Try.prog 62 #[.pointer (some ⟨g, 0, none⟩), .int .i64 (m : Int)] w fun e w' => e = .returned (.tuple #[.int .i64 (fI Ps m : Int), .bool (fB Ps m)]) ∧ w' = w := by
  refine (find_any w 0 0 g rv _ (m : Int) R).mono ?_
  rintro e w' ⟨i, ok, rfl, hF, hw⟩
  rw [show max (m : Int) 0 = (m : Int) by omega] at hF
  obtain ⟨rfl, rfl⟩ := found_one hF (found_hfind Ps m)
  exact ⟨rfl, hw⟩
section
variable (w : World) (h p g : Nat) (v rv : Value) (gs : List Nat) (Ps : List Pg) (n : Nat) (t : Ver) (A : Option Addr) (c : Nat)
set_option maxRecDepth 100000 in
set_option maxHeartbeats 1000000 in
theorem hin_nbad (H : Hm w h p g v rv gs Ps (Ps.map Pg.room)) (hf : hfind Ps t.d.length = none) (hp : Pool w p n) (hok : ¬ t.ok) (hd : Rd w 1 A t.d.length (bcells t.d)) (hA : ∀ ad : Addr, A = some ad → ad.block < w.heap.size) :
    Calls Try.prog 52 #[.pointer (some ⟨h, 0, none⟩), .agg #[.int .u64 (t.r : Int), .int .u64 (t.x : Int), .int .u64 (t.m : Int), .int .i64 t.p, .int .i64 t.s, .slice A t.d.length c]] w fun e w' => e = .returned (.tuple #[.agg #[.int .i64 0, .int .i64 0], .int .i64 3]) ∧ Below w.heap.size w w' := by
  have hI0 : fI Ps t.d.length = 0 := by unfold fI; rw [hf]; rfl
  have hB0 : fB Ps t.d.length = false := by unfold fB; rw [hf]; rfl
  have HH := Lib.hid H
  have HP := Lib.hid hp
  have HON := Lib.hid (fun (V : World) (dV : Below w.heap.size w V) => onnew_bad V h t A c hok (hd.below dV) (fun ad e => Nat.lt_of_lt_of_le (hA ad e) dV.size))
  clear H hp hf hd hA
  have b0 := Bx.new w 44 _ [.int .u64 (t.r : Int), .int .u64 (t.x : Int), .int .u64 (t.m : Int), .int .i64 t.p, .int .i64 t.s, .slice A t.d.length c] rfl
  have bT := b0.alloc (.cells #[.int .i64 0, .int .i64 0] 41)
  have bI := Bx.new (w.alloc (.cells #[.int .u64 (t.r : Int), .int .u64 (t.x : Int), .int .u64 (t.m : Int), .int .i64 t.p, .int .i64 t.s, .slice A t.d.length c] 44)) 41 _ [.int .i64 0, .int .i64 0] rfl
  have z1 : (w.alloc (.cells #[.int .u64 (t.r : Int), .int .u64 (t.x : Int), .int .u64 (t.m : Int), .int .i64 t.p, .int .i64 t.s, .slice A t.d.length c] 44)).heap.size = w.heap.size + 1 := by simp
  rw [z1] at bI
  have hbl : Below w.heap.size w ((w.alloc (.cells #[.int .u64 (t.r : Int), .int .u64 (t.x : Int), .int .u64 (t.m : Int), .int .i64 t.p, .int .i64 t.s, .slice A t.d.length c] 44)).alloc (.cells #[.int .i64 0, .int .i64 0] 41)) := ((Below.refl _ _).al _).al _
  have zW : ((w.alloc (.cells #[.int .u64 (t.r : Int), .int .u64 (t.x : Int), .int .u64 (t.m : Int), .int .i64 t.p, .int .i64 t.s, .slice A t.d.length c] 44)).alloc (.cells #[.int .i64 0, .int .i64 0] 41)).heap.size = w.heap.size + 2 := by simp
  have ZW := Lib.hid zW
  clear z1 b0 zW
  go_enter Try.func52, Try.ntmps52
  go_wp2_with fail
  generalize ((w.alloc (.cells #[.int .u64 (t.r : Int), .int .u64 (t.x : Int), .int .u64 (t.m : Int), .int .i64 t.p, .int .i64 t.s, .slice A t.d.length c] 44)).alloc (.cells #[.int .i64 0, .int .i64 0] 41)) = W at *
  refine wp_region_still_lit (by kernel_rfl) (by kernel_rfl) ?_
  have dV : Below w.heap.size w ({ W with drawn := W.drawn + 1 } : World) := ⟨hbl.os, hbl.tape, hbl.output, hbl.size, hbl.block⟩
  have dW : Below W.heap.size W ({ W with drawn := W.drawn + 1 } : World) := ⟨rfl, rfl, rfl, Nat.le_refl _, fun _ _ => rfl⟩
  have ZV : Hid (({ W with drawn := W.drawn + 1 } : World).heap.size = w.heap.size + 2) := ZW
  have bT := bT.below dW
  have bI := bI.below dW
  clear dW hbl ZW
  generalize ({ W with drawn := W.drawn + 1 } : World) = V at *
  have HV := HH.out.below dV
  have v0 := HV.box.cell 0
  have v1 := HV.box.cell 1
  have v2 := HV.box.cell 2
  have k0 := bT.cell 0
  have k1 := bT.cell 1
  have k2 := bT.cell 2
  have k3 := bT.cell 3
  have k4 := bT.cell 4
  have k5 := bT.cell 5
  have hfi := hfind_any V g rv Ps t.d.length HV.rooms
  rw [hI0, hB0] at hfi
  repeat (first | (with_reducible refine wpStill_step ?_; intro K hK; go_simp; with_reducible refine hK _ ?_; clear hK K) | (with_reducible refine wpStill_step ?_; intro K hK; go_simp; with_reducible refine ⟨_, (hfi), hK _ ?_⟩; clear hK K))
  with_reducible refine wpStill_nil ?_
  go_wp2_with fail
  refine (HON.out V dV).mono ?_
  rintro e w2 ⟨rfl, hb2⟩
  have bI2 := bI.below hb2
  have x2 := dV.next hb2
  clear k0 k1 k2 k3 k4 k5
  have y0 := bI2.cell 0
  have y1 := bI2.cell 1
  have fz0 := bI2.frozen 0
  have fz1 := bI2.frozen 1
  go_wp2_with fail
  have bz := (bI2.set 0 (.int .i64 0)).set 1 (.int .i64 0)
  have fz : Fr (fun k => k = w.heap.size + 1) w2 ((w2.setCell ⟨w.heap.size + 1, 0, none⟩ (.int .i64 0)).setCell ⟨w.heap.size + 1, 1, none⟩ (.int .i64 0)) := ((Fr.refl (fun k => k = w.heap.size + 1) _).set (.inl rfl) 0 _).set (.inl rfl) 1 _
  clear y0 y1 fz0 fz1
  generalize ((w2.setCell ⟨w.heap.size + 1, 0, none⟩ (.int .i64 0)).setCell ⟨w.heap.size + 1, 1, none⟩ (.int .i64 0)) = WZ at *
  have y0 := bz.cell 0
  have y1 := bz.cell 1
  refine bodyPost_ret (v := .tuple #[.agg #[.int .i64 0, .int .i64 0], .int .i64 3]) (by simp [results, Try.results52, go_sem, y0, y1]) rfl ?_
  exact ⟨rfl, x2.trans (fz.below (fun k e => by subst e; omega) x2.size)⟩
set_option maxRecDepth 100000 in
set_option maxHeartbeats 1000000 in
theorem hin_full (H : Hm w h p g v rv gs Ps (Ps.map Pg.room)) (hf : hfind Ps t.d.length = none) (hp : Pool w p 0) (hok : t.ok) (hd : Rd w 1 A t.d.length (bcells t.d)) (hA : ∀ ad : Addr, A = some ad → ad.block < w.heap.size) :
    Calls Try.prog 52 #[.pointer (some ⟨h, 0, none⟩), .agg #[.int .u64 (t.r : Int), .int .u64 (t.x : Int), .int .u64 (t.m : Int), .int .i64 t.p, .int .i64 t.s, .slice A t.d.length c]] w fun e w' => e = .returned (.tuple #[.agg #[.int .i64 0, .int .i64 0], .int .i64 12]) ∧ Below w.heap.size w w' := by
  have hI0 : fI Ps t.d.length = 0 := by unfold fI; rw [hf]; rfl
  have hB0 : fB Ps t.d.length = false := by unfold fB; rw [hf]; rfl
  have HH := Lib.hid H
  have HP := Lib.hid hp
  have HON := Lib.hid (fun (V : World) (dV : Below w.heap.size w V) => onnew_full V h p g v rv gs Ps (Ps.map Pg.room) t A c (H.below dV) (hp.below dV) hok (hd.below dV) (fun ad e => Nat.lt_of_lt_of_le (hA ad e) dV.size))
  clear H hp hf hd hA
  have b0 := Bx.new w 44 _ [.int .u64 (t.r : Int), .int .u64 (t.x : Int), .int .u64 (t.m : Int), .int .i64 t.p, .int .i64 t.s, .slice A t.d.length c] rfl
  have bT := b0.alloc (.cells #[.int .i64 0, .int .i64 0] 41)
  have bI := Bx.new (w.alloc (.cells #[.int .u64 (t.r : Int), .int .u64 (t.x : Int), .int .u64 (t.m : Int), .int .i64 t.p, .int .i64 t.s, .slice A t.d.length c] 44)) 41 _ [.int .i64 0, .int .i64 0] rfl
  have z1 : (w.alloc (.cells #[.int .u64 (t.r : Int), .int .u64 (t.x : Int), .int .u64 (t.m : Int), .int .i64 t.p, .int .i64 t.s, .slice A t.d.length c] 44)).heap.size = w.heap.size + 1 := by simp
  rw [z1] at bI
  have hbl : Below w.heap.size w ((w.alloc (.cells #[.int .u64 (t.r : Int), .int .u64 (t.x : Int), .int .u64 (t.m : Int), .int .i64 t.p, .int .i64 t.s, .slice A t.d.length c] 44)).alloc (.cells #[.int .i64 0, .int .i64 0] 41)) := ((Below.refl _ _).al _).al _
  have zW : ((w.alloc (.cells #[.int .u64 (t.r : Int), .int .u64 (t.x : Int), .int .u64 (t.m : Int), .int .i64 t.p, .int .i64 t.s, .slice A t.d.length c] 44)).alloc (.cells #[.int .i64 0, .int .i64 0] 41)).heap.size = w.heap.size + 2 := by simp
  have ZW := Lib.hid zW
  clear z1 b0 zW
  go_enter Try.func52, Try.ntmps52
  go_wp2_with fail
  generalize ((w.alloc (.cells #[.int .u64 (t.r : Int), .int .u64 (t.x : Int), .int .u64 (t.m : Int), .int .i64 t.p, .int .i64 t.s, .slice A t.d.length c] 44)).alloc (.cells #[.int .i64 0, .int .i64 0] 41)) = W at *
  refine wp_region_still_lit (by kernel_rfl) (by kernel_rfl) ?_
  have dV : Below w.heap.size w ({ W with drawn := W.drawn + 1 } : World) := ⟨hbl.os, hbl.tape, hbl.output, hbl.size, hbl.block⟩
  have dW : Below W.heap.size W ({ W with drawn := W.drawn + 1 } : World) := ⟨rfl, rfl, rfl, Nat.le_refl _, fun _ _ => rfl⟩
  have ZV : Hid (({ W with drawn := W.drawn + 1 } : World).heap.size = w.heap.size + 2) := ZW
  have bT := bT.below dW
  have bI := bI.below dW
  clear dW hbl ZW
  generalize ({ W with drawn := W.drawn + 1 } : World) = V at *
  have HV := HH.out.below dV
  have v0 := HV.box.cell 0
  have v1 := HV.box.cell 1
  have v2 := HV.box.cell 2
  have k0 := bT.cell 0
  have k1 := bT.cell 1
  have k2 := bT.cell 2
  have k3 := bT.cell 3
  have k4 := bT.cell 4
  have k5 := bT.cell 5
  have hfi := hfind_any V g rv Ps t.d.length HV.rooms
  rw [hI0, hB0] at hfi
  repeat (first | (with_reducible refine wpStill_step ?_; intro K hK; go_simp; with_reducible refine hK _ ?_; clear hK K) | (with_reducible refine wpStill_step ?_; intro K hK; go_simp; with_reducible refine ⟨_, (hfi), hK _ ?_⟩; clear hK K))
  with_reducible refine wpStill_nil ?_
  go_wp2_with fail
  refine (HON.out V dV).mono ?_
  rintro e w2 ⟨rfl, hb2⟩
  have bI2 := bI.below hb2
  have x2 := dV.next hb2
  clear k0 k1 k2 k3 k4 k5
  have y0 := bI2.cell 0
  have y1 := bI2.cell 1
  have fz0 := bI2.frozen 0
  have fz1 := bI2.frozen 1
  go_wp2_with fail
  have bz := (bI2.set 0 (.int .i64 0)).set 1 (.int .i64 0)
  have fz : Fr (fun k => k = w.heap.size + 1) w2 ((w2.setCell ⟨w.heap.size + 1, 0, none⟩ (.int .i64 0)).setCell ⟨w.heap.size + 1, 1, none⟩ (.int .i64 0)) := ((Fr.refl (fun k => k = w.heap.size + 1) _).set (.inl rfl) 0 _).set (.inl rfl) 1 _
  clear y0 y1 fz0 fz1
  generalize ((w2.setCell ⟨w.heap.size + 1, 0, none⟩ (.int .i64 0)).setCell ⟨w.heap.size + 1, 1, none⟩ (.int .i64 0)) = WZ at *
  have y0 := bz.cell 0
  have y1 := bz.cell 1
  refine bodyPost_ret (v := .tuple #[.agg #[.int .i64 0, .int .i64 0], .int .i64 12]) (by simp [results, Try.results52, go_sem, y0, y1]) rfl ?_
  exact ⟨rfl, x2.trans (fz.below (fun k e => by subst e; omega) x2.size)⟩
set_option maxRecDepth 100000 in
set_option maxHeartbeats 1000000 in
theorem hin_new (H : Hm w h p g v rv gs Ps (Ps.map Pg.room)) (hf : hfind Ps t.d.length = none) (hp : Pool w p (n + 1)) (h256 : Ps.length + (n + 1) ≤ 256) (hok : t.ok) (hd : Rd w 1 A t.d.length (bcells t.d)) (hA : ∀ ad : Addr, A = some ad → ad.block < w.heap.size) :
    Calls Try.prog 52 #[.pointer (some ⟨h, 0, none⟩), .agg #[.int .u64 (t.r : Int), .int .u64 (t.x : Int), .int .u64 (t.m : Int), .int .i64 t.p, .int .i64 t.s, .slice A t.d.length c]] w fun e w' => e = .returned (.tuple #[.agg #[.int .i64 (Ps.length : Int), .int .i64 0], .int .i64 0]) ∧ ∃ F', Heap w' h p F' (Ps ++ [insP Pg0 t]) ∧ Pool w' p n ∧ Fr (fun k => Fp h g v rv gs k ∨ k = p) w w' ∧ ∀ k, F' k → Fp h g v rv gs k ∨ w.heap.size ≤ k := by
  have hI0 : fI Ps t.d.length = 0 := by unfold fI; rw [hf]; rfl
  have hB0 : fB Ps t.d.length = false := by unfold fB; rw [hf]; rfl
  have HH := Lib.hid H
  have HP := Lib.hid hp
  have HON := Lib.hid (fun (V : World) (dV : Below w.heap.size w V) => onnew_ok V h p g v rv gs Ps n t A c (H.below dV) (hp.below dV) h256 hok (hd.below dV) (fun ad e => Nat.lt_of_lt_of_le (hA ad e) dV.size))
  clear H hp hf hd hA
  have b0 := Bx.new w 44 _ [.int .u64 (t.r : Int), .int .u64 (t.x : Int), .int .u64 (t.m : Int), .int .i64 t.p, .int .i64 t.s, .slice A t.d.length c] rfl
  have bT := b0.alloc (.cells #[.int .i64 0, .int .i64 0] 41)
  have bI := Bx.new (w.alloc (.cells #[.int .u64 (t.r : Int), .int .u64 (t.x : Int), .int .u64 (t.m : Int), .int .i64 t.p, .int .i64 t.s, .slice A t.d.length c] 44)) 41 _ [.int .i64 0, .int .i64 0] rfl
  have z1 : (w.alloc (.cells #[.int .u64 (t.r : Int), .int .u64 (t.x : Int), .int .u64 (t.m : Int), .int .i64 t.p, .int .i64 t.s, .slice A t.d.length c] 44)).heap.size = w.heap.size + 1 := by simp
  rw [z1] at bI
  have hbl : Below w.heap.size w ((w.alloc (.cells #[.int .u64 (t.r : Int), .int .u64 (t.x : Int), .int .u64 (t.m : Int), .int .i64 t.p, .int .i64 t.s, .slice A t.d.length c] 44)).alloc (.cells #[.int .i64 0, .int .i64 0] 41)) := ((Below.refl _ _).al _).al _
  have zW : ((w.alloc (.cells #[.int .u64 (t.r : Int), .int .u64 (t.x : Int), .int .u64 (t.m : Int), .int .i64 t.p, .int .i64 t.s, .slice A t.d.length c] 44)).alloc (.cells #[.int .i64 0, .int .i64 0] 41)).heap.size = w.heap.size + 2 := by simp
  have ZW := Lib.hid zW
  clear z1 b0 zW
  go_enter Try.func52, Try.ntmps52
  go_wp2_with fail
  generalize ((w.alloc (.cells #[.int .u64 (t.r : Int), .int .u64 (t.x : Int), .int .u64 (t.m : Int), .int .i64 t.p, .int .i64 t.s, .slice A t.d.length c] 44)).alloc (.cells #[.int .i64 0, .int .i64 0] 41)) = W at *
  refine wp_region_still_lit (by kernel_rfl) (by kernel_rfl) ?_
  have dV : Below w.heap.size w ({ W with drawn := W.drawn + 1 } : World) := ⟨hbl.os, hbl.tape, hbl.output, hbl.size, hbl.block⟩
  have dW : Below W.heap.size W ({ W with drawn := W.drawn + 1 } : World) := ⟨rfl, rfl, rfl, Nat.le_refl _, fun _ _ => rfl⟩
  have ZV : Hid (({ W with drawn := W.drawn + 1 } : World).heap.size = w.heap.size + 2) := ZW
  have bT := bT.below dW
  have bI := bI.below dW
  clear dW hbl ZW
  generalize ({ W with drawn := W.drawn + 1 } : World) = V at *
  have HV := HH.out.below dV
  have v0 := HV.box.cell 0
  have v1 := HV.box.cell 1
  have v2 := HV.box.cell 2
  have k0 := bT.cell 0
  have k1 := bT.cell 1
  have k2 := bT.cell 2
  have k3 := bT.cell 3
  have k4 := bT.cell 4
  have k5 := bT.cell 5
  have hfi := hfind_any V g rv Ps t.d.length HV.rooms
  rw [hI0, hB0] at hfi
  repeat (first | (with_reducible refine wpStill_step ?_; intro K hK; go_simp; with_reducible refine hK _ ?_; clear hK K) | (with_reducible refine wpStill_step ?_; intro K hK; go_simp; with_reducible refine ⟨_, (hfi), hK _ ?_⟩; clear hK K))
  with_reducible refine wpStill_nil ?_
  go_wp2_with fail
  refine (HON.out V dV).mono ?_
  rintro e w2 ⟨rfl, F2, hH2, hp2, hF2, hs2⟩
  have hnI : ¬ (Fp h g v rv gs (w.heap.size + 1) ∨ w.heap.size + 1 = p) := fun e => by
    rcases e with e | e
    · exact HV.not bI.ty (by decide) (by decide) (by decide) (by decide) (by decide) e
    · exact bI.ty.ne (HP.out.below dV).ty (by decide) e
  have bI2 := hF2.bx bI hnI
  clear k0 k1 k2 k3 k4 k5
  have y0 := bI2.cell 0
  have y1 := bI2.cell 1
  have fz0 := bI2.frozen 0
  have fz1 := bI2.frozen 1
  go_wp2_with fail
  have bz := (bI2.set 0 (.int .i64 (Ps.length : Int))).set 1 (.int .i64 0)
  have fz : Fr (fun k => k = w.heap.size + 1) w2 ((w2.setCell ⟨w.heap.size + 1, 0, none⟩ (.int .i64 (Ps.length : Int))).setCell ⟨w.heap.size + 1, 1, none⟩ (.int .i64 0)) := ((Fr.refl (fun k => k = w.heap.size + 1) _).set (.inl rfl) 0 _).set (.inl rfl) 1 _
  clear y0 y1 fz0 fz1
  generalize ((w2.setCell ⟨w.heap.size + 1, 0, none⟩ (.int .i64 (Ps.length : Int))).setCell ⟨w.heap.size + 1, 1, none⟩ (.int .i64 0)) = WZ at *
  have y0 := bz.cell 0
  have y1 := bz.cell 1
  refine bodyPost_ret (v := .tuple #[.agg #[.int .i64 (Ps.length : Int), .int .i64 0], .int .i64 0]) (by simp [results, Try.results52, go_sem, y0, y1]) rfl ?_
  have hnF : ¬ F2 (w.heap.size + 1) := hH2.not bI2.ty (by decide) (by decide) (by decide) (by decide) (by decide)
  exact ⟨rfl, F2, hH2.fr fz (fun k hk e => by subst e; exact hnF hk), hp2.fr fz (hp2.ty.ne bI2.ty (by decide)), ((Fr.of_below dV).trans hF2 (fun k e => .inl e)).trans fz (fun k e => .inr (by subst e; omega)), fun k hk => (hs2 k hk).imp id (fun e => Nat.le_trans dV.size e)⟩
set_option maxRecDepth 100000 in
set_option maxHeartbeats 1000000 in
theorem hin_at (H : Hm w h p g v rv gs Ps (Ps.map Pg.room)) (i a : Nat) (P : Pg) (hf : hfind Ps t.d.length = some i) (hi : gs[i]? = some a) (hP : Ps[i]? = some P) (hr : (t.d.length : Int) ≤ P.room) (hp : Pool w p n) (h256 : Ps.length + n ≤ 256) (hok : t.ok) (hd : Rd w 1 A t.d.length (bcells t.d)) (hA : ∀ ad : Addr, A = some ad → ad.block < w.heap.size) (hAF : ∀ ad : Addr, A = some ad → ¬ Fp h g v rv gs ad.block) :
    Calls Try.prog 52 #[.pointer (some ⟨h, 0, none⟩), .agg #[.int .u64 (t.r : Int), .int .u64 (t.x : Int), .int .u64 (t.m : Int), .int .i64 t.p, .int .i64 t.s, .slice A t.d.length c]] w fun e w' => e = .returned (.tuple #[.agg #[.int .i64 (i : Int), .int .i64 (P.low : Int)], .int .i64 0]) ∧ ∃ F', Heap w' h p F' (Ps.set i (insP P t)) ∧ Pool w' p n ∧ Fr (fun k => Fp h g v rv gs k ∨ k = p) w w' ∧ ∀ k, F' k → Fp h g v rv gs k ∨ w.heap.size ≤ k := by
  have hI0 : fI Ps t.d.length = i := by unfold fI; rw [hf]; rfl
  have hB0 : fB Ps t.d.length = true := by unfold fB; rw [hf]; rfl
  have HH := Lib.hid H
  have HP := Lib.hid hp
  have he := insE_ok hok hr
  have hlt := (List.getElem?_eq_some_iff.1 hi).1
  have hlt2 := (List.getElem?_eq_some_iff.1 hP).1
  have hI : ∀ W, Below w.heap.size w W → Calls Try.prog 39 #[.pointer (some ⟨a, 0, none⟩), .agg #[.int .u64 (t.r : Int), .int .u64 (t.x : Int), .int .u64 (t.m : Int), .int .i64 t.p, .int .i64 t.s, .slice A t.d.length c]] W fun e w' => e = .returned (.tuple #[.int .i64 (P.low : Int), .int .i64 0]) ∧ Pge w' a (insP P t) ∧ W.grownBy w' (some a) := fun W hW => by
    have := insE_any W a P t A c ((H.below hW).pages i a P hi hP) (hd.below hW) (fun ad e eb => hAF ad e (by rw [eb]; exact .inr (.inr (.inr (.inr (List.mem_of_getElem? hi))))))
    rw [he, insS_ok he, insN_ok he] at this
    exact this
  have HI := Lib.hid hI
  clear hI hd hA hAF H hp he
  have b0 := Bx.new w 44 _ [.int .u64 (t.r : Int), .int .u64 (t.x : Int), .int .u64 (t.m : Int), .int .i64 t.p, .int .i64 t.s, .slice A t.d.length c] rfl
  have bT := b0.alloc (.cells #[.int .i64 0, .int .i64 0] 41)
  have bI := Bx.new (w.alloc (.cells #[.int .u64 (t.r : Int), .int .u64 (t.x : Int), .int .u64 (t.m : Int), .int .i64 t.p, .int .i64 t.s, .slice A t.d.length c] 44)) 41 _ [.int .i64 0, .int .i64 0] rfl
  have z1 : (w.alloc (.cells #[.int .u64 (t.r : Int), .int .u64 (t.x : Int), .int .u64 (t.m : Int), .int .i64 t.p, .int .i64 t.s, .slice A t.d.length c] 44)).heap.size = w.heap.size + 1 := by simp
  rw [z1] at bI
  have hbl : Below w.heap.size w ((w.alloc (.cells #[.int .u64 (t.r : Int), .int .u64 (t.x : Int), .int .u64 (t.m : Int), .int .i64 t.p, .int .i64 t.s, .slice A t.d.length c] 44)).alloc (.cells #[.int .i64 0, .int .i64 0] 41)) := ((Below.refl _ _).al _).al _
  have zW : ((w.alloc (.cells #[.int .u64 (t.r : Int), .int .u64 (t.x : Int), .int .u64 (t.m : Int), .int .i64 t.p, .int .i64 t.s, .slice A t.d.length c] 44)).alloc (.cells #[.int .i64 0, .int .i64 0] 41)).heap.size = w.heap.size + 2 := by simp
  have ZW := Lib.hid zW
  clear z1 b0 zW
  go_enter Try.func52, Try.ntmps52
  go_wp2_with fail
  generalize ((w.alloc (.cells #[.int .u64 (t.r : Int), .int .u64 (t.x : Int), .int .u64 (t.m : Int), .int .i64 t.p, .int .i64 t.s, .slice A t.d.length c] 44)).alloc (.cells #[.int .i64 0, .int .i64 0] 41)) = W at *
  refine wp_region_still_lit (by kernel_rfl) (by kernel_rfl) ?_
  have dV : Below w.heap.size w ({ W with drawn := W.drawn + 1 } : World) := ⟨hbl.os, hbl.tape, hbl.output, hbl.size, hbl.block⟩
  have dW : Below W.heap.size W ({ W with drawn := W.drawn + 1 } : World) := ⟨rfl, rfl, rfl, Nat.le_refl _, fun _ _ => rfl⟩
  have ZV : Hid (({ W with drawn := W.drawn + 1 } : World).heap.size = w.heap.size + 2) := ZW
  have bT := bT.below dW
  have bI := bI.below dW
  clear dW hbl ZW
  generalize ({ W with drawn := W.drawn + 1 } : World) = V at *
  have HV := HH.out.below dV
  have v0 := HV.box.cell 0
  have v1 := HV.box.cell 1
  have v2 := HV.box.cell 2
  have k0 := bT.cell 0
  have k1 := bT.cell 1
  have k2 := bT.cell 2
  have k3 := bT.cell 3
  have k4 := bT.cell 4
  have k5 := bT.cell 5
  have hfi := hfind_any V g rv Ps t.d.length HV.rooms
  rw [hI0, hB0] at hfi
  repeat (first | (with_reducible refine wpStill_step ?_; intro K hK; go_simp; with_reducible refine hK _ ?_; clear hK K) | (with_reducible refine wpStill_step ?_; intro K hK; go_simp; with_reducible refine ⟨_, (hfi), hK _ ?_⟩; clear hK K))
  with_reducible refine wpStill_nil ?_
  go_wp2_with fail
  have eV : Below w.heap.size w V.drew := dV.drew
  have bT := Bx.below bT ((Below.refl V.heap.size V).drew)
  have bI := Bx.below bI ((Below.refl V.heap.size V).drew)
  have YV := ZV
  clear HV v0 v1 v2 k0 k1 k2 k3 k4 k5 hfi
  have HU := HH.out.below eV
  obtain ⟨q, cc, rfl, _, hn, hm⟩ := own_shape HU.row (by omega)
  have ix := idx_ptr q gs.length cc i hlt
  have ha : gs[i] = a := (List.getElem?_eq_some_iff.1 hi).2
  have v1 : V.drew.cell? ⟨h, 1, none⟩ = some (.slice (some ⟨q, 0, none⟩) gs.length cc) := HU.box.cell 1
  have v2 : V.drew.cell? ⟨q, i, none⟩ = some (.pointer (some ⟨a, 0, none⟩)) := (HU.row.cellAt i (by omega)).trans (by rw [ptrs_get gs i hlt, ha])
  have k0 : V.drew.cell? ⟨w.heap.size, 0, none⟩ = some (.int .u64 (t.r : Int)) := bT.cell 0
  have k1 : V.drew.cell? ⟨w.heap.size, 1, none⟩ = some (.int .u64 (t.x : Int)) := bT.cell 1
  have k2 : V.drew.cell? ⟨w.heap.size, 2, none⟩ = some (.int .u64 (t.m : Int)) := bT.cell 2
  have k3 : V.drew.cell? ⟨w.heap.size, 3, none⟩ = some (.int .i64 t.p) := bT.cell 3
  have k4 : V.drew.cell? ⟨w.heap.size, 4, none⟩ = some (.int .i64 t.s) := bT.cell 4
  have k5 : V.drew.cell? ⟨w.heap.size, 5, none⟩ = some (.slice A t.d.length c) := bT.cell 5
  have hTa := (HU.pages i a P hi hP).ty
  go_region_held3 (fun w' => w'.cell? ⟨h, 1, none⟩ = some (.slice (some ⟨q, 0, none⟩) gs.length cc) ∧ w'.cell? ⟨q, i, none⟩ = some (.pointer (some ⟨a, 0, none⟩)) ∧ w'.cell? ⟨w.heap.size, 0, none⟩ = some (.int .u64 (t.r : Int)) ∧ w'.cell? ⟨w.heap.size, 1, none⟩ = some (.int .u64 (t.x : Int)) ∧ w'.cell? ⟨w.heap.size, 2, none⟩ = some (.int .u64 (t.m : Int)) ∧ w'.cell? ⟨w.heap.size, 3, none⟩ = some (.int .i64 t.p) ∧ w'.cell? ⟨w.heap.size, 4, none⟩ = some (.int .i64 t.s) ∧ w'.cell? ⟨w.heap.size, 5, none⟩ = some (.slice A t.d.length c)) (first | assumption | exact v1 | exact v2 | exact k0 | exact k1 | exact k2 | exact k3 | exact k4 | exact k5 | simp [*, go_sem])
    ((go_at_call 39; (with_reducible refine (HI.out V.drew eV).mono ?_); rintro e w2 ⟨rfl, hP2, g2⟩; have f2 : Fr (fun k => k = a) V.drew w2 := Fr.of_grown g2 rfl; have H2 := HU.page hi g2 hP2; have bT2 := f2.bx bT (bT.ty.ne hTa (by decide)); have l1 := H2.box.cell 1; have l2 : w2.cell? ⟨q, i, none⟩ = some (.pointer (some ⟨a, 0, none⟩)) := (H2.row.cellAt i (by omega)).trans (by rw [ptrs_get gs i hlt, ha]); have hS : _ ∧ _ ∧ _ ∧ _ ∧ _ ∧ _ ∧ _ ∧ _ := ⟨l1, l2, bT2.cell 0, bT2.cell 1, bT2.cell 2, bT2.cell 3, bT2.cell 4, bT2.cell 5⟩))
  have hag : a ∈ gs := List.mem_of_getElem? hi
  have bI2 := f2.bx bI (bI.ty.ne hTa (by decide))
  have p2 := Bx.below HP.out eV
  have p2 := f2.bx p2 (Bx.ty p2 |>.ne hTa (by decide))
  have F2 : Fr (fun k => Fp h g (.slice (some ⟨q, 0, none⟩) gs.length cc) rv gs k ∨ k = p) w w2 := (Fr.of_below eV).trans f2 (fun k e => .inl (.inl (.inr (.inr (.inr (.inr (by rw [e]; exact hag)))))))
  have HN := Lib.hid (note_any w2 h p g _ rv gs (Ps.map Pg.room) i a (insP P t) H2.box H2.row H2.rooms hi hP2 (by simp; omega) (by omega))
  clear k0 k1 k2 k3 k4 k5 v1 v2 ix bT HU l1 l2 hS bT2
  go_wp2_with fail
  refine HN.out.mono ?_
  rintro e w3 ⟨rfl, rv3, o3, r3⟩
  have f3 : Fr (fun k => k = g ∨ rv.ownBlock = some k) w2 w3 := Fr.of_only o3 (.inl rfl) fun k e => .inr e
  have hno : ∀ {k : Nat} {T : TypeId}, Ty w2 k T → T ≠ 119 → T ≠ 3 → ¬ (k = g ∨ rv.ownBlock = some k) := fun hT h1 h2 e => by
    rcases e with e | e
    · exact hT.ne H2.rooms.ty h1 e
    · exact hT.ne (own_ty H2.rooms.row e) h2 rfl
  have H3 := H2.note o3 r3
  have hput : putR (Ps.map Pg.room) i (insP P t).room = (Ps.set i (insP P t)).map Pg.room := by
    unfold putR
    rw [if_neg (by simp; omega), List.map_set]
  rw [hput] at H3
  have bI3 := f3.bx bI2 (hno bI2.ty (by decide) (by decide))
  have p3 := f3.bx p2 (hno (Bx.ty p2) (by decide) (by decide))
  have F3 := F2.trans f3 (fun k e => .inl (.inl (e.elim (fun e => .inr (.inl e)) (fun e => .inr (.inr (.inl e))))))
  have hs2 := F2.size
  have y0 := bI3.cell 0
  have y1 := bI3.cell 1
  have fz0 := bI3.frozen 0
  have fz1 := bI3.frozen 1
  go_wp2_with fail
  have bz := (bI3.set 0 (.int .i64 (i : Int))).set 1 (.int .i64 (P.low : Int))
  have fz : Fr (fun k => k = w.heap.size + 1) w3 ((w3.setCell ⟨w.heap.size + 1, 0, none⟩ (.int .i64 (i : Int))).setCell ⟨w.heap.size + 1, 1, none⟩ (.int .i64 (P.low : Int))) := ((Fr.refl (fun k => k = w.heap.size + 1) _).set (.inl rfl) 0 _).set (.inl rfl) 1 _
  clear y0 y1 fz0 fz1
  generalize ((w3.setCell ⟨w.heap.size + 1, 0, none⟩ (.int .i64 (i : Int))).setCell ⟨w.heap.size + 1, 1, none⟩ (.int .i64 (P.low : Int))) = WZ at *
  have y0 := bz.cell 0
  have y1 := bz.cell 1
  refine bodyPost_ret (v := .tuple #[.agg #[.int .i64 (i : Int), .int .i64 (P.low : Int)], .int .i64 0]) (by simp [results, Try.results52, go_sem, y0, y1]) rfl ?_
  have hnF := H3.not bI3.ty (by decide) (by decide) (by decide) (by decide) (by decide)
  refine ⟨rfl, _, ⟨g, _, rv3, gs, H3.fr fz (fun k hk e => by subst e; exact hnF hk), rfl⟩, fz.bx p3 (Bx.ty p3 |>.ne bI3.ty (by decide)), F3.trans fz (fun k e => .inr (by subst e; omega)), ?_⟩
  rintro k (rfl | rfl | hk | hk | hk)
  · exact .inl (.inl rfl)
  · exact .inl (.inr (.inl rfl))
  · rcases o3.own with e | ⟨q, e, hq⟩
    · exact .inl (.inr (.inr (.inl (e.symm.trans hk))))
    · rw [e] at hk
      injection hk with hk
      exact .inr (by omega)
  · exact .inl (.inr (.inr (.inr (.inl hk))))
  · exact .inl (.inr (.inr (.inr (.inr hk))))
set_option maxRecDepth 100000 in
set_option maxHeartbeats 1000000 in
theorem set_same {Ps : List Pg} {i : Nat} {P : Pg} (h : Ps[i]? = some P) : Ps.set i P = Ps := by
  apply List.ext_getElem?
  intro j
  by_cases e : i = j
  · subst e; rw [List.getElem?_set_self (List.getElem?_eq_some_iff.1 h).1, h]
  · rw [List.getElem?_set_ne e]
set_option maxRecDepth 100000 in
set_option maxHeartbeats 1000000 in
theorem hin_sbad (H : Hm w h p g v rv gs Ps (Ps.map Pg.room)) (i a : Nat) (P : Pg) (hf : hfind Ps t.d.length = some i) (hi : gs[i]? = some a) (hP : Ps[i]? = some P) (hp : Pool w p n) (hok : ¬ t.ok) (hd : Rd w 1 A t.d.length (bcells t.d)) (hA : ∀ ad : Addr, A = some ad → ad.block < w.heap.size) (hAF : ∀ ad : Addr, A = some ad → ¬ Fp h g v rv gs ad.block) :
    Calls Try.prog 52 #[.pointer (some ⟨h, 0, none⟩), .agg #[.int .u64 (t.r : Int), .int .u64 (t.x : Int), .int .u64 (t.m : Int), .int .i64 t.p, .int .i64 t.s, .slice A t.d.length c]] w fun e w' => e = .returned (.tuple #[.agg #[.int .i64 0, .int .i64 0], .int .i64 3]) ∧ Heap w' h p (Fp h g v rv gs) Ps ∧ Pool w' p n ∧ Fr (fun k => Fp h g v rv gs k ∨ k = p) w w' := by
  have hI0 : fI Ps t.d.length = i := by unfold fI; rw [hf]; rfl
  have hB0 : fB Ps t.d.length = true := by unfold fB; rw [hf]; rfl
  have HH := Lib.hid H
  have HP := Lib.hid hp
  have he := insE_bad (P := P) hok
  have hlt := (List.getElem?_eq_some_iff.1 hi).1
  have hlt2 := (List.getElem?_eq_some_iff.1 hP).1
  have hI : ∀ W, Below w.heap.size w W → Calls Try.prog 39 #[.pointer (some ⟨a, 0, none⟩), .agg #[.int .u64 (t.r : Int), .int .u64 (t.x : Int), .int .u64 (t.m : Int), .int .i64 t.p, .int .i64 t.s, .slice A t.d.length c]] W fun e w' => e = .returned (.tuple #[.int .i64 0, .int .i64 3]) ∧ Pge w' a P ∧ W.grownBy w' (some a) := fun W hW => by
    have := insE_any W a P t A c ((H.below hW).pages i a P hi hP) (hd.below hW) (fun ad e eb => hAF ad e (by rw [eb]; exact .inr (.inr (.inr (.inr (List.mem_of_getElem? hi))))))
    rw [he, show insS P t = 0 by unfold insS; rw [he, if_neg (by decide)], insN_bad (by rw [he]; decide)] at this
    exact this
  have HI := Lib.hid hI
  clear hI hd hA hAF H hp he
  have b0 := Bx.new w 44 _ [.int .u64 (t.r : Int), .int .u64 (t.x : Int), .int .u64 (t.m : Int), .int .i64 t.p, .int .i64 t.s, .slice A t.d.length c] rfl
  have bT := b0.alloc (.cells #[.int .i64 0, .int .i64 0] 41)
  have bI := Bx.new (w.alloc (.cells #[.int .u64 (t.r : Int), .int .u64 (t.x : Int), .int .u64 (t.m : Int), .int .i64 t.p, .int .i64 t.s, .slice A t.d.length c] 44)) 41 _ [.int .i64 0, .int .i64 0] rfl
  have z1 : (w.alloc (.cells #[.int .u64 (t.r : Int), .int .u64 (t.x : Int), .int .u64 (t.m : Int), .int .i64 t.p, .int .i64 t.s, .slice A t.d.length c] 44)).heap.size = w.heap.size + 1 := by simp
  rw [z1] at bI
  have hbl : Below w.heap.size w ((w.alloc (.cells #[.int .u64 (t.r : Int), .int .u64 (t.x : Int), .int .u64 (t.m : Int), .int .i64 t.p, .int .i64 t.s, .slice A t.d.length c] 44)).alloc (.cells #[.int .i64 0, .int .i64 0] 41)) := ((Below.refl _ _).al _).al _
  have zW : ((w.alloc (.cells #[.int .u64 (t.r : Int), .int .u64 (t.x : Int), .int .u64 (t.m : Int), .int .i64 t.p, .int .i64 t.s, .slice A t.d.length c] 44)).alloc (.cells #[.int .i64 0, .int .i64 0] 41)).heap.size = w.heap.size + 2 := by simp
  have ZW := Lib.hid zW
  clear z1 b0 zW
  go_enter Try.func52, Try.ntmps52
  go_wp2_with fail
  generalize ((w.alloc (.cells #[.int .u64 (t.r : Int), .int .u64 (t.x : Int), .int .u64 (t.m : Int), .int .i64 t.p, .int .i64 t.s, .slice A t.d.length c] 44)).alloc (.cells #[.int .i64 0, .int .i64 0] 41)) = W at *
  refine wp_region_still_lit (by kernel_rfl) (by kernel_rfl) ?_
  have dV : Below w.heap.size w ({ W with drawn := W.drawn + 1 } : World) := ⟨hbl.os, hbl.tape, hbl.output, hbl.size, hbl.block⟩
  have dW : Below W.heap.size W ({ W with drawn := W.drawn + 1 } : World) := ⟨rfl, rfl, rfl, Nat.le_refl _, fun _ _ => rfl⟩
  have ZV : Hid (({ W with drawn := W.drawn + 1 } : World).heap.size = w.heap.size + 2) := ZW
  have bT := bT.below dW
  have bI := bI.below dW
  clear dW hbl ZW
  generalize ({ W with drawn := W.drawn + 1 } : World) = V at *
  have HV := HH.out.below dV
  have v0 := HV.box.cell 0
  have v1 := HV.box.cell 1
  have v2 := HV.box.cell 2
  have k0 := bT.cell 0
  have k1 := bT.cell 1
  have k2 := bT.cell 2
  have k3 := bT.cell 3
  have k4 := bT.cell 4
  have k5 := bT.cell 5
  have hfi := hfind_any V g rv Ps t.d.length HV.rooms
  rw [hI0, hB0] at hfi
  repeat (first | (with_reducible refine wpStill_step ?_; intro K hK; go_simp; with_reducible refine hK _ ?_; clear hK K) | (with_reducible refine wpStill_step ?_; intro K hK; go_simp; with_reducible refine ⟨_, (hfi), hK _ ?_⟩; clear hK K))
  with_reducible refine wpStill_nil ?_
  go_wp2_with fail
  have eV : Below w.heap.size w V.drew := dV.drew
  have bT := Bx.below bT ((Below.refl V.heap.size V).drew)
  have bI := Bx.below bI ((Below.refl V.heap.size V).drew)
  have YV := ZV
  clear HV v0 v1 v2 k0 k1 k2 k3 k4 k5 hfi
  have HU := HH.out.below eV
  obtain ⟨q, cc, rfl, _, hn, hm⟩ := own_shape HU.row (by omega)
  have ix := idx_ptr q gs.length cc i hlt
  have ha : gs[i] = a := (List.getElem?_eq_some_iff.1 hi).2
  have v1 : V.drew.cell? ⟨h, 1, none⟩ = some (.slice (some ⟨q, 0, none⟩) gs.length cc) := HU.box.cell 1
  have v2 : V.drew.cell? ⟨q, i, none⟩ = some (.pointer (some ⟨a, 0, none⟩)) := (HU.row.cellAt i (by omega)).trans (by rw [ptrs_get gs i hlt, ha])
  have k0 : V.drew.cell? ⟨w.heap.size, 0, none⟩ = some (.int .u64 (t.r : Int)) := bT.cell 0
  have k1 : V.drew.cell? ⟨w.heap.size, 1, none⟩ = some (.int .u64 (t.x : Int)) := bT.cell 1
  have k2 : V.drew.cell? ⟨w.heap.size, 2, none⟩ = some (.int .u64 (t.m : Int)) := bT.cell 2
  have k3 : V.drew.cell? ⟨w.heap.size, 3, none⟩ = some (.int .i64 t.p) := bT.cell 3
  have k4 : V.drew.cell? ⟨w.heap.size, 4, none⟩ = some (.int .i64 t.s) := bT.cell 4
  have k5 : V.drew.cell? ⟨w.heap.size, 5, none⟩ = some (.slice A t.d.length c) := bT.cell 5
  have hTa := (HU.pages i a P hi hP).ty
  go_region_held3 (fun w' => w'.cell? ⟨h, 1, none⟩ = some (.slice (some ⟨q, 0, none⟩) gs.length cc) ∧ w'.cell? ⟨q, i, none⟩ = some (.pointer (some ⟨a, 0, none⟩)) ∧ w'.cell? ⟨w.heap.size, 0, none⟩ = some (.int .u64 (t.r : Int)) ∧ w'.cell? ⟨w.heap.size, 1, none⟩ = some (.int .u64 (t.x : Int)) ∧ w'.cell? ⟨w.heap.size, 2, none⟩ = some (.int .u64 (t.m : Int)) ∧ w'.cell? ⟨w.heap.size, 3, none⟩ = some (.int .i64 t.p) ∧ w'.cell? ⟨w.heap.size, 4, none⟩ = some (.int .i64 t.s) ∧ w'.cell? ⟨w.heap.size, 5, none⟩ = some (.slice A t.d.length c)) (first | assumption | exact v1 | exact v2 | exact k0 | exact k1 | exact k2 | exact k3 | exact k4 | exact k5 | simp [*, go_sem])
    ((go_at_call 39; (with_reducible refine (HI.out V.drew eV).mono ?_); rintro e w2 ⟨rfl, hP2, g2⟩; have f2 : Fr (fun k => k = a) V.drew w2 := Fr.of_grown g2 rfl; have H2 := HU.page hi g2 hP2; have bT2 := f2.bx bT (bT.ty.ne hTa (by decide)); have l1 := H2.box.cell 1; have l2 : w2.cell? ⟨q, i, none⟩ = some (.pointer (some ⟨a, 0, none⟩)) := (H2.row.cellAt i (by omega)).trans (by rw [ptrs_get gs i hlt, ha]); have hS : _ ∧ _ ∧ _ ∧ _ ∧ _ ∧ _ ∧ _ ∧ _ := ⟨l1, l2, bT2.cell 0, bT2.cell 1, bT2.cell 2, bT2.cell 3, bT2.cell 4, bT2.cell 5⟩))
  have hag : a ∈ gs := List.mem_of_getElem? hi
  have bI2 := f2.bx bI (bI.ty.ne hTa (by decide))
  have p2 := Bx.below HP.out eV
  have p2 := f2.bx p2 (Bx.ty p2 |>.ne hTa (by decide))
  have F2 : Fr (fun k => Fp h g (.slice (some ⟨q, 0, none⟩) gs.length cc) rv gs k ∨ k = p) w w2 := (Fr.of_below eV).trans f2 (fun k e => .inl (.inl (.inr (.inr (.inr (.inr (by rw [e]; exact hag)))))))
  rw [set_same hP] at H2
  clear k0 k1 k2 k3 k4 k5 v1 v2 ix bT HU l1 l2 hS bT2
  have y0 := bI2.cell 0
  have y1 := bI2.cell 1
  have fz0 := bI2.frozen 0
  have fz1 := bI2.frozen 1
  go_wp2_with fail
  have bz := (bI2.set 0 (.int .i64 0)).set 1 (.int .i64 0)
  have fz : Fr (fun k => k = w.heap.size + 1) w2 ((w2.setCell ⟨w.heap.size + 1, 0, none⟩ (.int .i64 0)).setCell ⟨w.heap.size + 1, 1, none⟩ (.int .i64 0)) := ((Fr.refl (fun k => k = w.heap.size + 1) _).set (.inl rfl) 0 _).set (.inl rfl) 1 _
  clear y0 y1 fz0 fz1
  generalize ((w2.setCell ⟨w.heap.size + 1, 0, none⟩ (.int .i64 0)).setCell ⟨w.heap.size + 1, 1, none⟩ (.int .i64 0)) = WZ at *
  have y0 := bz.cell 0
  have y1 := bz.cell 1
  refine bodyPost_ret (v := .tuple #[.agg #[.int .i64 0, .int .i64 0], .int .i64 3]) (by simp [results, Try.results52, go_sem, y0, y1]) rfl ?_
  have hnF := H2.not bI2.ty (by decide) (by decide) (by decide) (by decide) (by decide)
  exact ⟨rfl, ⟨g, _, rv, gs, H2.fr fz (fun k hk e => by subst e; exact hnF hk), rfl⟩, fz.bx p2 (Bx.ty p2 |>.ne bI2.ty (by decide)), F2.trans fz (fun k e => .inr (by subst e; omega))⟩
end
/-- What Insert leaves. -/
def hinS (Ps : List Pg) (n : Nat) (t : Ver) : List Pg := if hinE Ps n t = 0 then hinP Ps t else Ps
def hinN (Ps : List Pg) (n : Nat) (t : Ver) : Nat := if hinE Ps n t = 0 then hinL Ps n t else n
def hinX (Ps : List Pg) (n : Nat) (t : Ver) : Nat × Nat := if hinE Ps n t = 0 then hinAt Ps t else (0, 0)
theorem hin_any (w : World) (h p : Nat) (F : Nat → Prop) (Ps : List Pg) (n : Nat) (t : Ver) (A : Option Addr) (c : Nat) (HH : Heap w h p F Ps) (hp : Pool w p n) (h256 : Ps.length + n ≤ 256) (hd : Rd w 1 A t.d.length (bcells t.d)) (hA : ∀ ad : Addr, A = some ad → ad.block < w.heap.size) (hAF : ∀ ad : Addr, A = some ad → ¬ F ad.block) :
    Calls Try.prog 52 #[.pointer (some ⟨h, 0, none⟩), .agg #[.int .u64 (t.r : Int), .int .u64 (t.x : Int), .int .u64 (t.m : Int), .int .i64 t.p, .int .i64 t.s, .slice A t.d.length c]] w fun e w' => e = .returned (.tuple #[.agg #[.int .i64 ((hinX Ps n t).1 : Int), .int .i64 ((hinX Ps n t).2 : Int)], .int .i64 (hinE Ps n t)]) ∧ ∃ F', Heap w' h p F' (hinS Ps n t) ∧ Pool w' p (hinN Ps n t) ∧ Fr (fun k => F k ∨ k = p) w w' ∧ ∀ k, F' k → F k ∨ w.heap.size ≤ k := by
  obtain ⟨g, v, rv, gs, H, rfl⟩ := HH
  by_cases hok : t.ok
  · cases hf : hfind Ps t.d.length with
    | none =>
      rcases Nat.eq_zero_or_pos n with h0 | h0
      · subst h0
        have hE : hinE Ps 0 t = 12 := by unfold hinE; rw [if_pos hok, hf]; rfl
        have e1 : hinX Ps 0 t = (0, 0) := by unfold hinX; rw [hE, if_neg (by decide)]
        have e2 : hinS Ps 0 t = Ps := by unfold hinS; rw [hE, if_neg (by decide)]
        have e3 : hinN Ps 0 t = 0 := by unfold hinN; rw [hE, if_neg (by decide)]
        rw [e1, e2, e3, hE]
        refine (hin_full w h p g v rv gs Ps t A c H hf hp hok hd hA).mono ?_
        rintro e w' ⟨rfl, hb⟩
        exact ⟨rfl, _, H.heap.below hb, hp.below hb, Fr.of_below hb, fun k hk => .inl hk⟩
      · obtain ⟨m, rfl⟩ : ∃ m, n = m + 1 := ⟨n - 1, by omega⟩
        have hE : hinE Ps (m + 1) t = 0 := by unfold hinE; rw [if_pos hok, hf]; exact if_neg (by omega)
        have e1 : hinX Ps (m + 1) t = (Ps.length, 0) := by unfold hinX; rw [hE, if_pos rfl]; unfold hinAt; rw [hf]
        have e2 : hinS Ps (m + 1) t = Ps ++ [insP Pg0 t] := by unfold hinS; rw [hE, if_pos rfl]; unfold hinP; rw [hf]
        have e3 : hinN Ps (m + 1) t = m := by unfold hinN; rw [hE, if_pos rfl]; unfold hinL; rw [hf]; rfl
        rw [e1, e2, e3, hE]
        exact hin_new w h p g v rv gs Ps m t A c H hf hp h256 hok hd hA
    | some i =>
      obtain ⟨P, hP, hr⟩ := hfind_some hf
      have hlt : i < gs.length := by rw [H.len]; exact (List.getElem?_eq_some_iff.1 hP).1
      have hE : hinE Ps n t = 0 := by unfold hinE; rw [if_pos hok, hf]
      have hg : Ps.getD i Pg0 = P := by rw [List.getD_eq_getElem?_getD, hP]; rfl
      have e1 : hinX Ps n t = (i, P.low) := by unfold hinX; rw [hE, if_pos rfl]; unfold hinAt; rw [hf]; show (i, (Ps.getD i Pg0).low) = _; rw [hg]
      have e2 : hinS Ps n t = Ps.set i (insP P t) := by unfold hinS; rw [hE, if_pos rfl]; unfold hinP; rw [hf]; show Ps.set i (insP (Ps.getD i Pg0) t) = _; rw [hg]
      have e3 : hinN Ps n t = n := by unfold hinN; rw [hE, if_pos rfl]; unfold hinL; rw [hf]
      rw [e1, e2, e3, hE]
      exact hin_at w h p g v rv gs Ps n t A c H i gs[i] P hf (List.getElem?_eq_getElem hlt) hP hr hp h256 hok hd hA hAF
  · have hE : hinE Ps n t = 3 := by unfold hinE; rw [if_neg hok]
    have e1 : hinX Ps n t = (0, 0) := by unfold hinX; rw [hE, if_neg (by decide)]
    have e2 : hinS Ps n t = Ps := by unfold hinS; rw [hE, if_neg (by decide)]
    have e3 : hinN Ps n t = n := by unfold hinN; rw [hE, if_neg (by decide)]
    rw [e1, e2, e3, hE]
    cases hf : hfind Ps t.d.length with
    | none =>
      refine (hin_nbad w h p g v rv gs Ps n t A c H hf hp hok hd hA).mono ?_
      rintro e w' ⟨rfl, hb⟩
      exact ⟨rfl, _, H.heap.below hb, hp.below hb, Fr.of_below hb, fun k hk => .inl hk⟩
    | some i =>
      obtain ⟨P, hP, hr⟩ := hfind_some hf
      have hlt : i < gs.length := by rw [H.len]; exact (List.getElem?_eq_some_iff.1 hP).1
      refine (hin_sbad w h p g v rv gs Ps n t A c H i gs[i] P hf (List.getElem?_eq_getElem hlt) hP hp hok hd hA hAF).mono ?_
      rintro e w' ⟨rfl, h1, h2, h3⟩
      exact ⟨rfl, _, h1, h2, h3, fun k hk => .inl hk⟩
end Go.Proofs.Ytpnkmkenmpbekaa
