/-
  A heap and its pool together, call by call: what laws use.
-/
import Derived.Test.YtpnkmkenmpbekaaHeapF
import Derived.Test.YtpnkmkenmpbekaaHeapG
import Derived.Test.YtpnkmkenmpbekaaAwake5
import Derived.Deep.OwnRows
namespace Go.Proofs.Ytpnkmkenmpbekaa
open Go.RowKit
set_option linter.unusedVariables false

/-- A heap of a pool, made behind w0. -/
structure Hs (w0 w : World) (h p : Nat) (F : Nat → Prop) (Ps : List Pg) (n : Nat) : Prop where
  heap : Heap w h p F Ps
  pool : Pool w p n
  below : Below w0.heap.size w0 w
  lowF : ∀ k, F k → w0.heap.size ≤ k
  lowp : w0.heap.size ≤ p
section
variable {w0 w w' : World} {h p n n' : Nat} {F F' : Nat → Prop} {Ps Ps' : List Pg}
theorem Hs.step (H : Hs w0 w h p F Ps n) (hb : Below w.heap.size w w') : Hs w0 w' h p F Ps n := ⟨H.heap.below hb, H.pool.below hb, H.below.next hb, H.lowF, H.lowp⟩
theorem Hs.go (H : Hs w0 w h p F Ps n) (hh : Heap w' h p F' Ps') (hp : Pool w' p n') (f : Fr (fun k => F k ∨ k = p) w w') (hs : ∀ k, F' k → F k ∨ w.heap.size ≤ k) : Hs w0 w' h p F' Ps' n' :=
  ⟨hh, hp, H.below.trans (f.below (fun k e => e.elim (H.lowF k) (fun e => by rw [e]; exact H.lowp)) H.below.size), fun k hk => (hs k hk).elim (H.lowF k) (fun e => Nat.le_trans H.below.size e), H.lowp⟩
theorem Hs.bx (H : Hs w0 w h p F Ps n) (f : Fr (fun k => F k ∨ k = p) w w') {b : Nat} {T : TypeId} {l : List Value} (hb : Bx w b T l) (h1 : T ≠ 149) (h2 : T ≠ 119) (h3 : T ≠ 3) (h4 : T ≠ 35) (h5 : T ≠ 123) (h6 : T ≠ 146) : Bx w' b T l :=
  f.bx hb fun e => e.elim (H.heap.not hb.ty h1 h2 h3 h4 h5) (hb.ty.ne H.pool.ty h6)
theorem Hs.own (H : Hs w0 w h p F Ps n) (f : Fr (fun k => F k ∨ k = p) w w') {base size m : Nat} {T : TypeId} {v : Value} {xs : List Value} (hb : w.ownsRow base T size v m xs) (h1 : T ≠ 149) (h2 : T ≠ 119) (h3 : T ≠ 3) (h4 : T ≠ 35) (h5 : T ≠ 123) (h6 : T ≠ 146) : w'.ownsRow base T size v m xs :=
  f.own hb fun k hk e => e.elim (H.heap.not (own_ty hb hk) h1 h2 h3 h4 h5) ((own_ty hb hk).ne H.pool.ty h6)
theorem Hs.insert (H : Hs w0 w h p F Ps n) (h256 : Ps.length + n ≤ 256) (t : Ver) (A : Option Addr) (c : Nat) {B : Nat} (hd : w.ownsRow B 5 1 (.slice A t.d.length c) t.d.length (bcells t.d)) :
    Calls Try.prog 52 #[.pointer (some ⟨h, 0, none⟩), .agg #[.int .u64 (t.r : Int), .int .u64 (t.x : Int), .int .u64 (t.m : Int), .int .i64 t.p, .int .i64 t.s, .slice A t.d.length c]] w fun e w' => e = .returned (.tuple #[.agg #[.int .i64 ((hinX Ps n t).1 : Int), .int .i64 ((hinX Ps n t).2 : Int)], .int .i64 (hinE Ps n t)]) ∧ ∃ F', Hs w0 w' h p F' (hinS Ps n t) (hinN Ps n t) ∧ Fr (fun k => F k ∨ k = p) w w' := by
  refine (hin_any w h p F Ps n t A c H.heap H.pool h256 (Rd.of_own hd) (fun ad e => (own_lt_addr hd ad e).2) (fun ad e => ?_)).mono ?_
  · subst e
    exact H.heap.not (own_ty hd rfl) (by decide) (by decide) (by decide) (by decide) (by decide)
  · rintro e w' ⟨rfl, F', h1, h2, h3, h4⟩
    exact ⟨rfl, F', H.go h1 h2 h3 h4, h3⟩
theorem Hs.free_yes (H : Hs w0 w h p F Ps n) (h256 : Ps.length ≤ 256) (i : Nat) (s : Int) (P : Pg) (hP : Ps[i]? = some P) (hg : (getP P s).isSome = true) :
    Calls Try.prog 48 #[.pointer (some ⟨h, 0, none⟩), .agg #[.int .i64 (i : Int), .int .i64 s]] w fun e w' => e = .returned (.int .i64 0) ∧ ∃ F', Hs w0 w' h p F' (Ps.set i (freN P s)) n ∧ Fr (fun k => F k ∨ k = p) w w' := by
  obtain ⟨g, v, rv, gs, Hm, rfl⟩ := H.heap
  have hlt := (List.getElem?_eq_some_iff.1 hP).1
  refine (hfree_yes w h p g v rv gs Ps Hm i _ P s (List.getElem?_eq_getElem (by rw [Hm.len]; exact hlt)) hP hg (by omega)).mono ?_
  rintro e w' ⟨rfl, F', h1, h2, h3⟩
  have h4 : Fr (fun k => Fp h g v rv gs k ∨ k = p) w w' := h2.mono fun k hk => .inl hk
  exact ⟨rfl, F', H.go h1 (H.pool.fr h2 (Hm.nep H.pool)) h4 h3, h4⟩
theorem Hs.free_no (H : Hs w0 w h p F Ps n) (i : Nat) (s : Int) (P : Pg) (hP : Ps[i]? = some P) (hg : getP P s = none) :
    Calls Try.prog 48 #[.pointer (some ⟨h, 0, none⟩), .agg #[.int .i64 (i : Int), .int .i64 s]] w fun e w' => e = .returned (.int .i64 15) ∧ Hs w0 w' h p F Ps n ∧ Fr (fun k => F k ∨ k = p) w w' := by
  obtain ⟨g, v, rv, gs, Hm, rfl⟩ := H.heap
  have hlt := (List.getElem?_eq_some_iff.1 hP).1
  refine (hfree_no w h p g v rv gs Ps Hm i _ P s (List.getElem?_eq_getElem (by rw [Hm.len]; exact hlt)) hP hg).mono ?_
  rintro e w' ⟨rfl, h1, h2⟩
  have h4 : Fr (fun k => Fp h g v rv gs k ∨ k = p) w w' := h2.mono fun k hk => .inl hk
  exact ⟨rfl, H.go h1 (H.pool.fr h2 (Hm.nep H.pool)) h4 (fun k hk => .inl hk), h4⟩
theorem Hs.free_off (H : Hs w0 w h p F Ps n) (q s : Int) (hq : q < 0 ∨ (Ps.length : Int) ≤ q) :
    Calls Try.prog 48 #[.pointer (some ⟨h, 0, none⟩), .agg #[.int .i64 q, .int .i64 s]] w fun e w' => e = .returned (.int .i64 15) ∧ Hs w0 w' h p F Ps n ∧ Fr (fun k => F k ∨ k = p) w w' := by
  obtain ⟨g, v, rv, gs, Hm, rfl⟩ := H.heap
  refine (hfree_off w h p g v rv gs Ps Hm q s hq).mono ?_
  rintro e w' ⟨rfl, hb⟩
  exact ⟨rfl, H.step hb, Fr.of_below hb⟩
theorem Hs.get_yes (H : Hs w0 w h p F Ps n) (i : Nat) (s : Int) (P : Pg) (hP : Ps[i]? = some P) (t : Ver) (hg : getP P s = some t) :
    Calls Try.prog 61 #[.pointer (some ⟨h, 0, none⟩), .agg #[.int .i64 (i : Int), .int .i64 s]] w fun e w' => ∃ dv, e = .returned (.tuple #[t.val dv, .bool true]) ∧ Byt w' w.heap.size dv t.d ∧ Below w.heap.size w w' := by
  obtain ⟨g, v, rv, gs, Hm, rfl⟩ := H.heap
  have hlt := (List.getElem?_eq_some_iff.1 hP).1
  exact hget_yes w h p g v rv gs Ps Hm i _ P s (List.getElem?_eq_getElem (by rw [Hm.len]; exact hlt)) hP t hg
theorem Hs.get_no (H : Hs w0 w h p F Ps n) (i : Nat) (s : Int) (P : Pg) (hP : Ps[i]? = some P) (hg : getP P s = none) :
    Calls Try.prog 61 #[.pointer (some ⟨h, 0, none⟩), .agg #[.int .i64 (i : Int), .int .i64 s]] w fun e w' => e = .returned (.tuple #[noTup, .bool false]) ∧ Below w.heap.size w w' := by
  obtain ⟨g, v, rv, gs, Hm, rfl⟩ := H.heap
  have hlt := (List.getElem?_eq_some_iff.1 hP).1
  exact hget_no w h p g v rv gs Ps Hm i _ P s (List.getElem?_eq_getElem (by rw [Hm.len]; exact hlt)) hP hg
theorem Hs.used (H : Hs w0 w h p F Ps n) (hl : Ps.length ≤ 256) :
    Calls Try.prog 60 #[.pointer (some ⟨h, 0, none⟩)] w fun e w' => e = .returned (.int .i64 (usedL Ps : Int)) ∧ w' = w := by
  obtain ⟨g, v, rv, gs, Hm, rfl⟩ := H.heap
  exact hused_any Hm hl
theorem Hs.pages (H : Hs w0 w h p F Ps n) :
    Calls Try.prog 59 #[.pointer (some ⟨h, 0, none⟩)] w fun e w' => e = .returned (.int .i64 (Ps.length : Int)) ∧ w' = w := by
  obtain ⟨g, v, rv, gs, Hm, rfl⟩ := H.heap
  exact hpages_any Hm
theorem Hs.left (H : Hs w0 w h p F Ps n) : Calls Try.prog 44 #[.pointer (some ⟨p, 0, none⟩)] w fun e w' => e = .returned (.int .i64 (n : Int)) ∧ w' = w := left_any w p n H.pool
end
/-- NewPool and New, one behind the other. -/
theorem hs_new {w0 w : World} {p n : Nat} (hp : Pool w p n) (hb : Below w0.heap.size w0 w) (hlp : w0.heap.size ≤ p) :
    Calls Try.prog 45 #[.pointer (some ⟨p, 0, none⟩)] w fun e w' => ∃ h F, e = .returned (.pointer (some ⟨h, 0, none⟩)) ∧ Hs w0 w' h p F [] n ∧ Below w.heap.size w w' := by
  refine (hnew_any w p).mono ?_
  rintro e w' ⟨h, F, rfl, h1, h2, h3⟩
  exact ⟨h, F, rfl, ⟨h1, hp.below h2, hb.next h2, fun k hk => Nat.le_trans hb.size (h3 k hk), hlp⟩, h2⟩
theorem made_zer (k : Nat) : madeCells #[.int .u8 0] k = (bcells (zer k)).toArray := by
  unfold madeCells bcells zer
  apply Array.toList_inj.1
  simp [Nat.mod_one, List.map_const']
theorem made_row (w : World) (k base : Nat) (h : k ≤ 200) (hb : base ≤ w.heap.size) : (w.alloc (.cells (bcells (zer k)).toArray 5)).ownsRow base 5 1 (.slice (some ⟨w.heap.size, 0, none⟩) k k) k (bcells (zer k)) := by
  refine ⟨by rw [bcells_length, zer_length, Nat.mul_one], .inr ⟨w.heap.size, k, _, rfl, hb, heap_alloc_new w _, Nat.le_refl _, by unfold maxLen; omega, ?_, ?_⟩⟩
  · rw [List.size_toArray, bcells_length, zer_length, Nat.mul_one]
  · show (bcells (zer k)).take (k * 1) = _
    exact List.take_of_length_le (by rw [bcells_length, zer_length]; omega)
def vZ (r k : Nat) : Ver := ⟨r, 1, 0, -1, -1, zer k⟩
theorem vZ_len (r k : Nat) : (vZ r k).d.length = k := zer_length k
theorem vZ_sz (r k : Nat) : (vZ r k).sz = 30 + k := by unfold Ver.sz; rw [vZ_len]
theorem vZ_ok {r k : Nat} (hr : r ≤ 1099511627776) (h : k ≤ 200) : (vZ r k).ok := by
  refine decide_eq_true ⟨hr, show 1 ≤ 1099511627776 by decide, show 0 ≤ 1099511627776 by decide, show vnB (-1) (-1) = true by decide, ?_⟩
  show (zer k).length ≤ 200
  rw [zer_length]; exact h
set_option maxRecDepth 100000 in
set_option maxHeartbeats 1000000 in
theorem wide_any (w : World) : Calls Try.prog 58 #[] w fun e w' => ∃ b, e = .returned (.agg #[.int .u64 1, .int .u64 1, .int .u64 0, .int .i64 (-1), .int .i64 (-1), .slice (some ⟨b, 0, none⟩) 200 200]) ∧ w'.ownsRow w.heap.size 5 1 (.slice (some ⟨b, 0, none⟩) 200 200) 200 (bcells (zer 200)) ∧ Below w.heap.size w w' := by
  have hmk : ∀ W : World, (Instr.makeSlice 42 (.int .i64 200) (.int .i64 200)).run Try.prog W = .ok (.slice (some ⟨W.heap.size, 0, none⟩) 200 200) (W.alloc (.cells (bcells (zer 200)).toArray 5)) := fun W => by
    have := run_make_row' (P := Try.prog) 42 5 (.int .u8 0) 1 Try.underlying42 info_u8 rfl .i64 .i64 200 (by omega) (by omega) W
    rw [made_zer] at this
    exact this
  have b0 := Bx.new w 44 _ [.int .u64 1, .int .u64 1, .int .u64 0, .int .i64 (-1), .int .i64 (-1), .slice (some ⟨w.heap.size + 1, 0, none⟩) 200 200] rfl
  have z1 : (w.alloc (.cells #[.int .u64 1, .int .u64 1, .int .u64 0, .int .i64 (-1), .int .i64 (-1), .slice (some ⟨w.heap.size + 1, 0, none⟩) 200 200] 44)).heap.size = w.heap.size + 1 := by simp
  have b1 := b0.alloc (.cells (bcells (zer 200)).toArray 5)
  have ho := made_row (w.alloc (.cells #[.int .u64 1, .int .u64 1, .int .u64 0, .int .i64 (-1), .int .i64 (-1), .slice (some ⟨w.heap.size + 1, 0, none⟩) 200 200] 44)) 200 w.heap.size (by omega) (by rw [z1]; omega)
  rw [z1] at ho
  have hb : Below w.heap.size w ((w.alloc (.cells #[.int .u64 1, .int .u64 1, .int .u64 0, .int .i64 (-1), .int .i64 (-1), .slice (some ⟨w.heap.size + 1, 0, none⟩) 200 200] 44)).alloc (.cells (bcells (zer 200)).toArray 5)) := ((Below.refl _ _).al _).al _
  generalize hcc : bcells (zer 200) = cc at *
  clear b0 z1
  go_enter Try.func58, Try.ntmps58
  go_wp2_with fail
  generalize ((w.alloc (.cells #[.int .u64 1, .int .u64 1, .int .u64 0, .int .i64 (-1), .int .i64 (-1), .slice (some ⟨w.heap.size + 1, 0, none⟩) 200 200] 44)).alloc (.cells cc.toArray 5)) = V at *
  have k0 := b1.cell 0
  have k1 := b1.cell 1
  have k2 := b1.cell 2
  have k3 := b1.cell 3
  have k4 := b1.cell 4
  have k5 := b1.cell 5
  refine bodyPost_ret (v := .agg #[.int .u64 1, .int .u64 1, .int .u64 0, .int .i64 (-1), .int .i64 (-1), .slice (some ⟨w.heap.size + 1, 0, none⟩) 200 200]) (by simp [results, Try.results58, go_sem, k0, k1, k2, k3, k4, k5]) rfl ?_
  exact ⟨_, rfl, ho, hb⟩
end Go.Proofs.Ytpnkmkenmpbekaa
