/-
  Heaps in memory: what a call may turn, told by blocks; a heap, its pages, its map of rooms, its pool.
-/
import Derived.Test.YtpnkmkenmpbekaaPageR
import Derived.Test.YtpnkmkenmpbekaaRoomE
namespace Go.Proofs.Ytpnkmkenmpbekaa
open Go.RowKit

/-- Of the blocks that were there, only those of S may have turned. -/
structure Fr (S : Nat → Prop) (w w' : World) : Prop where
  os : w'.os = w.os
  tape : w'.tape = w.tape
  output : w'.output = w.output
  size : w.heap.size ≤ w'.heap.size
  block : ∀ k, k < w.heap.size → ¬ S k → w'.heap[k]? = w.heap[k]?
section
variable {S S' : Nat → Prop} {w w1 w2 w' : World} {B : Nat}
theorem Fr.refl (S : Nat → Prop) (w : World) : Fr S w w := ⟨rfl, rfl, rfl, Nat.le_refl _, fun _ _ _ => rfl⟩
theorem Fr.trans (h : Fr S w w1) (k : Fr S' w1 w2) (hs : ∀ k, S' k → S k ∨ w.heap.size ≤ k) : Fr S w w2 :=
  ⟨k.os.trans h.os, k.tape.trans h.tape, k.output.trans h.output, Nat.le_trans h.size k.size, fun b hb hn =>
    (k.block b (Nat.lt_of_lt_of_le hb h.size) fun hS => (hs b hS).elim hn (fun hw => by omega)).trans (h.block b hb hn)⟩
theorem Fr.mono (h : Fr S w w') (hs : ∀ k, S k → S' k) : Fr S' w w' := ⟨h.os, h.tape, h.output, h.size, fun b hb hn => h.block b hb fun hS => hn (hs b hS)⟩
theorem Fr.of_below (h : Below w.heap.size w w') : Fr S w w' := ⟨h.os, h.tape, h.output, h.size, fun b hb _ => h.block b hb⟩
theorem Fr.of_grown {g : Nat} (h : w.grownBy w' (some g)) (hg : S g) : Fr S w w' := ⟨h.os, h.tape, h.output, h.size, fun b hb hn => h.block b hb fun e => by injection e with e; subst e; exact hn hg⟩
theorem Fr.of_only {g : Nat} {v v' : Value} (h : Only w w' g v v') (hg : S g) (hv : ∀ k, v.ownBlock = some k → S k) : Fr S w w' :=
  ⟨h.os, h.tape, h.output, h.size, fun b hb hn => h.block b hb (fun e => by subst e; exact hn hg) (fun e => hn (hv b e.symm))⟩
theorem Fr.of_own {v : Value} (h : w.grownBy w' v.ownBlock) (hv : ∀ k, v.ownBlock = some k → S k) : Fr S w w' := ⟨h.os, h.tape, h.output, h.size, fun b hb hn => h.block b hb fun e => hn (hv b e.symm)⟩
theorem Fr.below (h : Fr S w w') (hS : ∀ k, S k → B ≤ k) (hB : B ≤ w.heap.size) : Below B w w' :=
  ⟨h.os, h.tape, h.output, h.size, fun k hk => h.block k (by omega) fun hs => by have := hS k hs; omega⟩
theorem Fr.own {base n size : Nat} {e : TypeId} {u : Value} {xs : List Value} (h : Fr S w w') (ho : w.ownsRow base e size u n xs) (hn : ∀ k, u.ownBlock = some k → ¬ S k) : w'.ownsRow base e size u n xs := by
  refine ⟨ho.1, ?_⟩
  rcases ho.2 with h1 | ⟨q, cap, cur, rfl, hb, hg, rest⟩
  · exact .inl h1
  · refine .inr ⟨q, cap, cur, rfl, hb, ?_, rest⟩
    rw [h.block q (Array.getElem?_eq_some_iff.1 hg).1 (hn q rfl)]
    exact hg
theorem Fr.pge {a : Nat} {P : Pg} (h : Fr S w w') (hp : Pge w a P) (hn : ¬ S a) : Pge w' a P := by
  obtain ⟨f, h1, h2⟩ := hp
  exact ⟨f, (h.block a h1.lt hn).trans h1, h2⟩
theorem Fr.bx {b : Nat} {T : TypeId} {l : List Value} (h : Fr S w w') (hp : Bx w b T l) (hn : ¬ S b) : Bx w' b T l := (h.block b hp.lt hn).trans hp
theorem Fr.room {base br g : Nat} {v : Value} {l : List Int} (h : Fr S w w') (hr : Room w base br g v l) (hg : ¬ S g) (hv : ∀ k, v.ownBlock = some k → ¬ S k) : Room w' base br g v l :=
  ⟨h.own hr.box fun k e => by have : g = k := by simpa [Value.ownBlock] using e
                              subst this; exact hg, h.own hr.row hv⟩
theorem Fr.rd {size n : Nat} {A : Option Addr} {xs : List Value} (h : Fr S w w') (hr : Rd w size A n xs) (hn : ∀ ad : Addr, A = some ad → ¬ S ad.block) : Rd w' size A n xs :=
  ⟨hr.1, fun j u hu => by
    obtain ⟨ad, e, hc⟩ := hr.2 j u hu
    refine ⟨ad, e, Eq.trans ?_ hc⟩
    have hlt := World.block_lt_of_cell? w _ hc
    unfold World.cell?
    rw [h.block _ hlt (by rw [badd]; exact hn ad e)]⟩
theorem Fr.alloc (h : Fr S w w') (o : Obj) : Fr S w (w'.alloc o) := h.trans (S' := S) (Fr.of_below ((Below.refl _ _).alloc (Nat.le_refl _) o)) fun _ hk => .inl hk
theorem Fr.set (h : Fr S w w') {b : Nat} (hb : S b ∨ w.heap.size ≤ b) (i : Nat) (u : Value) : Fr S w (w'.setCell ⟨b, i, none⟩ u) :=
  ⟨h.os, h.tape, h.output, by simpa [World.setCell] using h.size, fun k hk hn => (heap_setCell_other w' ⟨b, i, none⟩ k u (fun e => by
    have e' : k = b := e
    subst e'
    rcases hb with hb | hb
    · exact hn hb
    · omega)).trans (h.block k hk hn)⟩
end
/-- A block of a type. -/
def Ty (w : World) (k : Nat) (e : TypeId) : Prop := ∃ cs i, w.heap[k]? = some (.cells cs e i)
theorem Ty.lt {w : World} {k : Nat} {e : TypeId} (h : Ty w k e) : k < w.heap.size := by
  obtain ⟨_, _, h⟩ := h
  exact (Array.getElem?_eq_some_iff.1 h).1
theorem Ty.ne {w : World} {j k : Nat} {e f : TypeId} (h : Ty w j e) (h' : Ty w k f) (hne : e ≠ f) : j ≠ k := fun eq => by
  subst eq
  obtain ⟨_, _, h⟩ := h
  obtain ⟨_, _, h'⟩ := h'
  rw [h] at h'
  injection h' with h'
  injection h' with _ h4
  exact hne h4
theorem Bx.ty {w : World} {b : Nat} {T : TypeId} {l : List Value} (h : Bx w b T l) : Ty w b T := ⟨_, _, h⟩
theorem Pge.ty {w : World} {a : Nat} {P : Pg} (h : Pge w a P) : Ty w a 123 := by obtain ⟨f, h, _⟩ := h; exact ⟨_, _, h⟩
theorem own_ty {w : World} {base n size k : Nat} {e : TypeId} {u : Value} {xs : List Value} (h : w.ownsRow base e size u n xs) (hu : u.ownBlock = some k) : Ty w k e := by
  rcases h.2 with ⟨rfl, _⟩ | ⟨g, c, r, rfl, _, hg, _⟩
  · cases hu
  · have : g = k := by simpa [Value.ownBlock] using hu
    subst this
    exact ⟨_, _, hg⟩
theorem Room.ty {w : World} {base br g : Nat} {v : Value} {l : List Int} (h : Room w base br g v l) : Ty w g 119 := own_ty h.box rfl
/-- Pointers to blocks. -/
def ptrs (gs : List Nat) : List Value := gs.map fun a => .pointer (some ⟨a, 0, none⟩)
theorem ptrs_length (gs : List Nat) : (ptrs gs).length = gs.length := by simp [ptrs]
theorem ptrs_append (a b : List Nat) : ptrs (a ++ b) = ptrs a ++ ptrs b := by simp [ptrs]
theorem ptrs_get (gs : List Nat) (j : Nat) (hj : j < gs.length) : (ptrs gs)[j]? = some (.pointer (some ⟨gs[j], 0, none⟩)) := by
  unfold ptrs; rw [List.getElem?_map, List.getElem?_eq_getElem hj]; rfl
theorem ptrs_one (gs : List Nat) : ∀ u ∈ ptrs gs, u.oneCell' = true := by
  intro u hu
  obtain ⟨_, _, rfl⟩ := List.mem_map.1 hu
  rfl
/-- A pool of so many pages. -/
def Pool (w : World) (p n : Nat) : Prop := Bx w p 146 [.int .i64 (n : Int)]
/-- A heap: its block h, the pool's p, the map's g, its row at rv, the rooms rs; the row of its pages at v, their blocks gs, what they hold Ps. -/
structure Hm (w : World) (h p g : Nat) (v rv : Value) (gs : List Nat) (Ps : List Pg) (rs : List Int) : Prop where
  box : Bx w h 149 [.pointer (some ⟨p, 0, none⟩), v, .pointer (some ⟨g, 0, none⟩)]
  row : w.ownsRow 0 35 1 v gs.length (ptrs gs)
  rooms : Room w 0 0 g rv rs
  len : gs.length = Ps.length
  pages : ∀ (i a : Nat) (P : Pg), gs[i]? = some a → Ps[i]? = some P → Pge w a P
  one : gs.Nodup
/-- The blocks of a heap. -/
def Fp (h g : Nat) (v rv : Value) (gs : List Nat) (k : Nat) : Prop := k = h ∨ k = g ∨ rv.ownBlock = some k ∨ v.ownBlock = some k ∨ k ∈ gs
/-- A heap, by its blocks and what its pages hold. -/
def Heap (w : World) (h p : Nat) (F : Nat → Prop) (Ps : List Pg) : Prop := ∃ g v rv gs, Hm w h p g v rv gs Ps (Ps.map Pg.room) ∧ F = Fp h g v rv gs
section
variable {w w' : World} {h p g : Nat} {v rv : Value} {gs : List Nat} {Ps : List Pg} {rs : List Int} {F S : Nat → Prop}
theorem Hm.pge (H : Hm w h p g v rv gs Ps rs) {i : Nat} {a : Nat} (hi : gs[i]? = some a) : ∃ P, Ps[i]? = some P ∧ Pge w a P := by
  have hlt : i < Ps.length := by have := (List.getElem?_eq_some_iff.1 hi).1; rw [H.len] at this; exact this
  exact ⟨Ps[i], List.getElem?_eq_getElem hlt, H.pages i a _ hi (List.getElem?_eq_getElem hlt)⟩
theorem Hm.mem (H : Hm w h p g v rv gs Ps rs) {k : Nat} (hk : k ∈ gs) : Ty w k 123 := by
  obtain ⟨i, hi⟩ := List.mem_iff_getElem?.1 hk
  obtain ⟨P, _, hP⟩ := H.pge hi
  exact hP.ty
theorem Hm.fp (H : Hm w h p g v rv gs Ps rs) {k : Nat} (hk : Fp h g v rv gs k) : Ty w k 149 ∨ Ty w k 119 ∨ Ty w k 3 ∨ Ty w k 35 ∨ Ty w k 123 := by
  rcases hk with rfl | rfl | hk | hk | hk
  · exact .inl H.box.ty
  · exact .inr (.inl H.rooms.ty)
  · exact .inr (.inr (.inl (own_ty H.rooms.row hk)))
  · exact .inr (.inr (.inr (.inl (own_ty H.row hk))))
  · exact .inr (.inr (.inr (.inr (H.mem hk))))
theorem Hm.fp_lt (H : Hm w h p g v rv gs Ps rs) {k : Nat} (hk : Fp h g v rv gs k) : k < w.heap.size := by
  rcases H.fp hk with h | h | h | h | h <;> exact h.lt
theorem Hm.fr (H : Hm w h p g v rv gs Ps rs) (hf : Fr S w w') (hn : ∀ k, Fp h g v rv gs k → ¬ S k) : Hm w' h p g v rv gs Ps rs where
  box := hf.bx H.box (hn h (.inl rfl))
  row := hf.own H.row fun k e => hn k (.inr (.inr (.inr (.inl e))))
  rooms := hf.room H.rooms (hn g (.inr (.inl rfl))) fun k e => hn k (.inr (.inr (.inl e)))
  len := H.len
  pages := fun i a P h1 h2 => hf.pge (H.pages i a P h1 h2) (hn a (.inr (.inr (.inr (.inr (List.mem_of_getElem? h1))))))
  one := H.one
theorem Heap.fr (H : Heap w h p F Ps) (hf : Fr S w w') (hn : ∀ k, F k → ¬ S k) : Heap w' h p F Ps := by
  obtain ⟨g, v, rv, gs, H, rfl⟩ := H
  exact ⟨g, v, rv, gs, H.fr hf hn, rfl⟩
theorem Heap.lt (H : Heap w h p F Ps) {k : Nat} (hk : F k) : k < w.heap.size := by
  obtain ⟨g, v, rv, gs, H, rfl⟩ := H
  exact H.fp_lt hk
theorem Heap.below (H : Heap w h p F Ps) (hb : Below w.heap.size w w') : Heap w' h p F Ps :=
  H.fr (S := fun _ => False) (Fr.of_below hb) fun _ _ hh => hh
theorem Heap.ty (H : Heap w h p F Ps) {k : Nat} (hk : F k) : Ty w k 149 ∨ Ty w k 119 ∨ Ty w k 3 ∨ Ty w k 35 ∨ Ty w k 123 := by
  obtain ⟨g, v, rv, gs, H, rfl⟩ := H
  exact H.fp hk
/-- A block of another type is none of the heap's. -/
theorem Heap.not (H : Heap w h p F Ps) {k : Nat} {T : TypeId} (hT : Ty w k T) (h1 : T ≠ 149) (h2 : T ≠ 119) (h3 : T ≠ 3) (h4 : T ≠ 35) (h5 : T ≠ 123) : ¬ F k := fun hk => by
  rcases H.ty hk with h | h | h | h | h
  · exact hT.ne h h1 rfl
  · exact hT.ne h h2 rfl
  · exact hT.ne h h3 rfl
  · exact hT.ne h h4 rfl
  · exact hT.ne h h5 rfl
theorem Heap.nep {n : Nat} (H : Heap w h p F Ps) {q : Nat} (hq : Pool w q n) : ¬ F q := H.not hq.ty (by decide) (by decide) (by decide) (by decide) (by decide)
theorem Pool.fr {n q : Nat} (hp : Pool w q n) (hf : Fr S w w') (hn : ¬ S q) : Pool w' q n := hf.bx hp hn
theorem Hm.below (H : Hm w h p g v rv gs Ps rs) (hb : Below w.heap.size w w') : Hm w' h p g v rv gs Ps rs := H.fr (S := fun _ => False) (Fr.of_below hb) fun _ _ hh => hh
theorem Hm.new (H : Hm w h p g v rv gs Ps rs) {k : Nat} (hk : w.heap.size ≤ k) : ¬ Fp h g v rv gs k := fun hf => by have := H.fp_lt hf; omega
theorem Hm.not (H : Hm w h p g v rv gs Ps rs) {k : Nat} {T : TypeId} (hT : Ty w k T) (h1 : T ≠ 149) (h2 : T ≠ 119) (h3 : T ≠ 3) (h4 : T ≠ 35) (h5 : T ≠ 123) : ¬ Fp h g v rv gs k := fun hk => by
  rcases H.fp hk with h | h | h | h | h
  · exact hT.ne h h1 rfl
  · exact hT.ne h h2 rfl
  · exact hT.ne h h3 rfl
  · exact hT.ne h h4 rfl
  · exact hT.ne h h5 rfl
theorem Hm.heap (H : Hm w h p g v rv gs Ps (Ps.map Pg.room)) : Heap w h p (Fp h g v rv gs) Ps := ⟨g, v, rv, gs, H, rfl⟩
theorem Hm.nep {n q : Nat} (H : Hm w h p g v rv gs Ps rs) (hq : Pool w q n) : ¬ Fp h g v rv gs q := H.not hq.ty (by decide) (by decide) (by decide) (by decide) (by decide)
theorem Pool.below {q n : Nat} (hp : Pool w q n) (hb : Below w.heap.size w w') : Pool w' q n := hp.fr (S := fun _ => False) (Fr.of_below hb) fun hh => hh
theorem Bx.below {b : Nat} {T : TypeId} {l : List Value} (h : Bx w b T l) (hb : Below w.heap.size w w') : Bx w' b T l := (hb.block b h.lt).trans h
theorem Bx.alloc {b : Nat} {T : TypeId} {l : List Value} (h : Bx w b T l) (o : Obj) : Bx (w.alloc o) b T l := (Below.heap_alloc w o b h.lt).trans h
/-- One page written. -/
theorem Hm.page (H : Hm w h p g v rv gs Ps rs) {i a : Nat} {P' : Pg} (hi : gs[i]? = some a) (hg : w.grownBy w' (some a)) (hP : Pge w' a P') : Hm w' h p g v rv gs (Ps.set i P') rs := by
  have hf : Fr (fun k => k = a) w w' := Fr.of_grown hg rfl
  obtain ⟨P, hPi, hPa⟩ := H.pge hi
  have hT := hPa.ty
  refine ⟨hf.bx H.box (H.box.ty.ne hT (by decide)), hf.own H.row fun k e => (own_ty H.row e).ne hT (by decide), hf.room H.rooms (H.rooms.ty.ne hT (by decide)) fun k e => (own_ty H.rooms.row e).ne hT (by decide), by rw [List.length_set]; exact H.len, fun j b Q hj hQ => ?_, H.one⟩
  by_cases e : j = i
  · subst e
    rw [hi] at hj
    injection hj with hj
    subst hj
    rw [List.getElem?_set_self (List.getElem?_eq_some_iff.1 hPi).1] at hQ
    injection hQ with hQ
    subst hQ
    exact hP
  · rw [List.getElem?_set_ne (fun h => e h.symm)] at hQ
    refine hf.pge (H.pages j b Q hj hQ) fun eb => ?_
    subst eb
    obtain ⟨h1, e1⟩ := List.getElem?_eq_some_iff.1 hj
    obtain ⟨h2, e2⟩ := List.getElem?_eq_some_iff.1 hi
    have hpw := List.pairwise_iff_getElem.1 H.one
    rcases Nat.lt_or_gt_of_ne e with hlt | hlt
    · exact hpw j i h1 h2 hlt (e1.trans e2.symm)
    · exact hpw i j h2 h1 hlt (e2.trans e1.symm)
/-- The map of rooms written. -/
theorem Hm.note (H : Hm w h p g v rv gs Ps rs) {rv' : Value} {rs' : List Int} (o : Only w w' g rv rv') (r : Room w' 0 0 g rv' rs') : Hm w' h p g v rv' gs Ps rs' := by
  have hf : Fr (fun k => k = g ∨ rv.ownBlock = some k) w w' := Fr.of_only o (.inl rfl) fun k e => .inr e
  have hn : ∀ {k : Nat} {T : TypeId}, Ty w k T → T ≠ 119 → T ≠ 3 → ¬ (k = g ∨ rv.ownBlock = some k) := fun hT h1 h2 e => by
    rcases e with e | e
    · exact hT.ne H.rooms.ty h1 e
    · exact hT.ne (own_ty H.rooms.row e) h2 rfl
  exact ⟨hf.bx H.box (hn H.box.ty (by decide) (by decide)), hf.own H.row fun k e => hn (own_ty H.row e) (by decide) (by decide), r, H.len, fun i a P h1 h2 => hf.pge (H.pages i a P h1 h2) (hn (H.pages i a P h1 h2).ty (by decide) (by decide)), H.one⟩
/-- One more page, behind the others. -/
theorem Hm.push (H : Hm w h p g v rv gs Ps rs) {a : Nat} {P : Pg} {v' : Value} {o : Obj} (hP : Pge w a P) (ha : a ∉ gs) (hg : (w.alloc o).grownBy w' v.ownBlock) (ho : w'.ownsRow 0 35 1 v' (gs.length + 1) (ptrs gs ++ ptrs [a])) :
    Hm (w'.setCell ⟨h, 1, none⟩ v') h p g v' rv (gs ++ [a]) (Ps ++ [P]) rs := by
  have H0 := H.below (w' := w.alloc o) ((Below.refl _ _).alloc (Nat.le_refl _) _)
  have hP0 := hP.alloc o
  have hf : Fr (fun k => v.ownBlock = some k) (w.alloc o) w' := Fr.of_own hg fun k e => e
  have hn : ∀ {k : Nat} {T : TypeId}, Ty (w.alloc o) k T → T ≠ 35 → ¬ v.ownBlock = some k := fun hT h1 e => hT.ne (own_ty H0.row e) h1 rfl
  have hx : Fr (fun k => k = h) w' (w'.setCell ⟨h, 1, none⟩ v') := (Fr.refl (fun k => k = h) _).set (.inl rfl) 1 v'
  have hb' := hf.bx H0.box (hn H0.box.ty (by decide))
  have hr' := hf.room H0.rooms (hn H0.rooms.ty (by decide)) fun k e => hn (own_ty H0.rooms.row e) (by decide)
  have hp' : ∀ (i b : Nat) (Q : Pg), (gs ++ [a])[i]? = some b → (Ps ++ [P])[i]? = some Q → Pge w' b Q := fun i b Q h1 h2 => by
    by_cases hi : i < gs.length
    · rw [List.getElem?_append_left hi] at h1
      rw [List.getElem?_append_left (by rw [← H.len]; exact hi)] at h2
      have hq := H0.pages i b Q h1 h2
      exact hf.pge hq (hn hq.ty (by decide))
    · rw [List.getElem?_append_right (by omega)] at h1
      rw [List.getElem?_append_right (by rw [← H.len]; omega), ← H.len] at h2
      by_cases h0 : i - gs.length = 0
      · rw [h0] at h1 h2
        simp at h1 h2
        subst h1 h2
        exact hf.pge hP0 (hn hP0.ty (by decide))
      · rw [List.getElem?_eq_none (by simp; omega)] at h1
        cases h1
  refine ⟨hb'.set 1 v', ?_, hx.room hr' (hr'.ty.ne hb'.ty (by decide)) fun k e => (own_ty hr'.row e).ne hb'.ty (by decide), by simp [H.len], fun i b Q h1 h2 => hx.pge (hp' i b Q h1 h2) ((hp' i b Q h1 h2).ty.ne hb'.ty (by decide)), ?_⟩
  · have := hx.own ho fun k e => (own_ty ho e).ne hb'.ty (by decide)
    rw [← ptrs_append] at this
    rwa [List.length_append, List.length_singleton]
  · rw [List.nodup_append]
    exact ⟨H.one, List.pairwise_singleton _ _, fun x hx y hy e => by rw [List.mem_singleton] at hy; subst e hy; exact ha hx⟩
end
end Go.Proofs.Ytpnkmkenmpbekaa
