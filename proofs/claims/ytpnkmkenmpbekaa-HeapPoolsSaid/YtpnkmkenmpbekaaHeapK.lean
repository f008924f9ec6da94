/-
  Two heaps of one pool; a script of calls that came in.
-/
import Derived.Test.YtpnkmkenmpbekaaHeapJ
import Derived.Test.YtpnkmkenmpbekaaDoorL
import Derived.Deep.Slices
namespace Go.Proofs.Ytpnkmkenmpbekaa
open Go.RowKit Go.ChangeShapes Go.WideShapes Go.ChangeAt Go.Deep
set_option linter.unusedVariables false

theorem Heap.drop {w : World} {h p n : Nat} {F : Nat → Prop} {Ps : List Pg} (H : Heap w h p F Ps) (hp : Pool w p n) (h256 : Ps.length + n ≤ 256) :
    Calls Try.prog 50 #[.pointer (some ⟨h, 0, none⟩)] w fun e w' => e = .returned (.int .i64 (Ps.length : Int)) ∧ ∃ F', Heap w' h p F' [] ∧ Pool w' p (n + Ps.length) ∧ Fr (fun k => F k ∨ k = p) w w' ∧ ∀ k, F' k → F k ∨ w.heap.size ≤ k := by
  obtain ⟨g, v, rv, gs, Hm, rfl⟩ := H
  rcases Nat.eq_zero_or_pos Ps.length with h0 | h0
  · obtain rfl := List.eq_nil_of_length_eq_zero h0
    refine (hdrop_none w h p g v rv gs _ Hm).mono ?_
    rintro e w' ⟨rfl, rfl⟩
    exact ⟨rfl, _, ⟨g, v, rv, gs, Hm, rfl⟩, hp, Fr.refl _ _, fun k hk => .inl hk⟩
  · exact hdrop_some w h p g v rv gs Ps _ n Hm hp h256 h0
/-- Two heaps of one pool, apart. -/
structure Hh (w0 w : World) (h0 h1 p : Nat) (F0 F1 : Nat → Prop) (P0 P1 : List Pg) (n : Nat) : Prop where
  s0 : Hs w0 w h0 p F0 P0 n
  s1 : Hs w0 w h1 p F1 P1 n
  apart : ∀ k, F0 k → ¬ F1 k
section
variable {w0 w w' : World} {h0 h1 p n n' : Nat} {F0 F1 F0' F1' : Nat → Prop} {P0 P1 P0' P1' : List Pg}
theorem Hh.symm (H : Hh w0 w h0 h1 p F0 F1 P0 P1 n) : Hh w0 w h1 h0 p F1 F0 P1 P0 n := ⟨H.s1, H.s0, fun k h1 h0 => H.apart k h0 h1⟩
theorem Hh.below (H : Hh w0 w h0 h1 p F0 F1 P0 P1 n) (hb : Below w.heap.size w w') : Hh w0 w' h0 h1 p F0 F1 P0 P1 n := ⟨H.s0.step hb, H.s1.step hb, H.apart⟩
theorem Hh.alloc (H : Hh w0 w h0 h1 p F0 F1 P0 P1 n) (o : Obj) : Hh w0 (w.alloc o) h0 h1 p F0 F1 P0 P1 n := H.below ((Below.refl _ _).alloc (Nat.le_refl _) o)
theorem Hh.step (H : Hh w0 w h0 h1 p F0 F1 P0 P1 n) (hh : Heap w' h0 p F0' P0') (hp : Pool w' p n') (f : Fr (fun k => F0 k ∨ k = p) w w') (hs : ∀ k, F0' k → F0 k ∨ w.heap.size ≤ k) : Hh w0 w' h0 h1 p F0' F1 P0' P1 n' := by
  have a := H.s0.go hh hp f hs
  refine ⟨a, ⟨H.s1.heap.fr f (fun k hk e => e.elim (fun h => H.apart k h hk) (fun e => by subst e; exact H.s1.heap.nep H.s1.pool hk)), hp, a.below, H.s1.lowF, H.s1.lowp⟩, fun k h h' => (hs k h).elim (fun h2 => H.apart k h2 h') (fun h2 => by have := H.s1.heap.lt h'; omega)⟩
theorem Hh.drop (H : Hh w0 w h0 h1 p F0 F1 P0 P1 n) (h256 : P0.length + n ≤ 256) :
    Calls Try.prog 50 #[.pointer (some ⟨h0, 0, none⟩)] w fun e w' => e = .returned (.int .i64 (P0.length : Int)) ∧ ∃ F', Hh w0 w' h0 h1 p F' F1 [] P1 (n + P0.length) ∧ Fr (fun k => F0 k ∨ k = p) w w' := by
  refine (H.s0.heap.drop H.s0.pool h256).mono ?_
  rintro e w' ⟨rfl, F', a, b, c, d⟩
  exact ⟨rfl, F', H.step a b c d, c⟩
theorem Hh.insert (H : Hh w0 w h0 h1 p F0 F1 P0 P1 n) (h256 : P0.length + n ≤ 256) (t : Ver) (A : Option Addr) (c : Nat) {B : Nat} (hd : w.ownsRow B 5 1 (.slice A t.d.length c) t.d.length (bcells t.d)) :
    Calls Try.prog 52 #[.pointer (some ⟨h0, 0, none⟩), .agg #[.int .u64 (t.r : Int), .int .u64 (t.x : Int), .int .u64 (t.m : Int), .int .i64 t.p, .int .i64 t.s, .slice A t.d.length c]] w fun e w' => (∃ v, e = .returned v) ∧ ∃ F' P' n', Hh w0 w' h0 h1 p F' F1 P' P1 n' ∧ P'.length + n' = P0.length + n ∧ Fr (fun k => F0 k ∨ k = p) w w' := by
  refine (hin_any w h0 p F0 P0 n t A c H.s0.heap H.s0.pool h256 (Rd.of_own hd) (fun ad e => (own_lt_addr hd ad e).2) (fun ad e => ?_)).mono ?_
  · subst e
    exact H.s0.heap.not (own_ty hd rfl) (by decide) (by decide) (by decide) (by decide) (by decide)
  · rintro e w' ⟨rfl, F', a, b, c, d⟩
    refine ⟨⟨_, rfl⟩, F', _, _, H.step a b c d, ?_, c⟩
    by_cases hE : hinE P0 n t = 0
    · exact (hin_put hE).2.2.2
    · unfold hinS hinN; rw [if_neg hE, if_neg hE]
end
/-- A call of a script. -/
structure Op7 where
  do_ : Int
  two : Bool
  a : Int
  b : Int
  r : Nat
  x : Nat
  m : Nat
  p : Int
  s : Int
  A : Option Addr
  c : Nat
  d : List UInt8
def Op7.cells (o : Op7) : List Value := [.int .u8 o.do_, .bool o.two, .int .i64 o.a, .int .i64 o.b, .int .u64 (o.r : Int), .int .u64 (o.x : Int), .int .u64 (o.m : Int), .int .i64 o.p, .int .i64 o.s, .slice o.A o.d.length o.c]
def ocells7 (l : List Op7) : List Value := l.flatMap Op7.cells
theorem ocells7_length (l : List Op7) : (ocells7 l).length = l.length * 10 := by
  induction l with
  | nil => rfl
  | cons a l ih =>
    have e : ocells7 (a :: l) = a.cells ++ ocells7 l := rfl
    have e2 : a.cells.length = 10 := rfl
    rw [e, List.length_append, ih, e2, List.length_cons]; omega
theorem ocells7_at (l : List Op7) : ∀ (k : Nat) (hk : k < l.length) (j : Nat), j < 10 → (ocells7 l)[k * 10 + j]? = l[k].cells[j]? := by
  induction l with
  | nil => intro k hk; simp at hk
  | cons a l ih =>
    intro k hk j hj
    have e : ocells7 (a :: l) = a.cells ++ ocells7 l := rfl
    have e2 : a.cells.length = 10 := rfl
    cases k with
    | zero => rw [e, List.getElem?_append_left (by rw [e2]; omega)]; simp
    | succ k =>
      rw [e, List.getElem?_append_right (by rw [e2]; omega), e2]
      have := ih k (by simpa using hk) j hj
      simp only [List.getElem_cons_succ]
      rw [← this]
      congr 1
      omega
def Ord7 (w : World) (A : Option Addr) (l : List Op7) : Prop := Rd w 10 A l.length (ocells7 l) ∧ ∀ (k : Nat) (hk : k < l.length), Brd w l[k].A l[k].d ∧ l[k].d.length ≤ l[k].c ∧ l[k].c ≤ 9223372036854775807 ∧ 0 ≤ l[k].do_ ∧ l[k].do_ < 256
theorem Ord7.at_ {w : World} {A : Option Addr} {l : List Op7} (h : Ord7 w A l) {k : Nat} (hk : k < l.length) :
    ∃ ad : Addr, A = some ad ∧ ∀ j (u : Value), l[k].cells[j]? = some u → w.cell? ((ad.add (k * 10)).add j) = some u := by
  obtain ⟨ad, e, hc⟩ := h.1.some_ (by omega) (by decide)
  refine ⟨ad, e, fun j u hu => ?_⟩
  have hj : j < 10 := (List.getElem?_eq_some_iff.1 hu).1
  rw [← ocells7_at l k hk j hj] at hu
  obtain ⟨hl, rfl⟩ := List.getElem?_eq_some_iff.1 hu
  rw [aadd]
  exact hc _ hl
theorem Ord7.below {w w' : World} {A : Option Addr} {l : List Op7} (h : Ord7 w A l) (hb : Below w.heap.size w w') : Ord7 w' A l :=
  ⟨h.1.below hb, fun k hk => ⟨Rd.below (h.2 k hk).1 hb, (h.2 k hk).2⟩⟩
theorem size_op7 (W : World) : (sizeOf 93).run Try.prog W = .ok 10 W := by kernel_rfl
theorem idx_op7 (ad : Addr) (n c k : Nat) (h : k < n) (W : World) : (Instr.indexAt 77 (.slice (some ad) n c) (.int .i64 (k : Int))).run Try.prog W = .ok (.pointer (some (ad.add (k * 10)))) W := by
  rw [run_indexAt_slice (h := by kernel_rfl), if_pos (by omega)]
  rw [show Try.prog.elem 77 = 93 by kernel_rfl, size_op7]
  simp [Result.andThen]
theorem cells_op7 : Try.prog.cellsOf 93 = 10 := by kernel_rfl
theorem cells_u8 : Try.prog.cellsOf 5 = 1 := by kernel_rfl
theorem cells_bl : Try.prog.cellsOf 4 = 1 := by kernel_rfl
section
variable {H : Type} {enc : TypeId × Value → H} {w : World} {base : Nat} {held : Bool}
set_option maxRecDepth 100000 in
theorem trod_op7 {n : Nat} {cs : List Value} {y : DataW H × List MemPlace} (h : DataW.trod enc Try.prog w base (fun _ => true) held n 93 cs = some y) :
    ∃ o : Op7, cs = o.cells ∧ Brd w o.A o.d ∧ o.d.length ≤ o.c ∧ o.c ≤ 9223372036854775807 ∧ 0 ≤ o.do_ ∧ o.do_ < 256 := by
  obtain ⟨xs, m, _, _, hcl, hlen, hf⟩ := DataW.trod_struct Try.underlying93 h
  rw [cells_op7] at hcl
  match cs, hcl, xs, hlen with
  | [c0, c1, c2, c3, c4, c5, c6, c7, c8, c9], _, [z0, z1, z2, z3], _ =>
    have h0 : _ = some z0 := hf 0 _ rfl
    have h1 : _ = some z1 := hf 1 _ rfl
    have h2 : _ = some z2 := hf 2 _ rfl
    have h3 : _ = some z3 := hf 3 _ rfl
    obtain ⟨k0, e0, _, w0⟩ := DataW.trod_int Try.underlying5 h0
    obtain ⟨k1, e1, _⟩ := DataW.trod_bool Try.underlying4 h1
    obtain ⟨a, b, e2⟩ := trod_tid h2
    obtain ⟨r, x, m, p, s, A, c, l, e3, l1, l2, l3⟩ := trod_tup h3
    simp [cells_u8] at e0
    simp [cells_bl] at e1
    simp [cells_tid] at e2
    simp [cells_tup] at e3
    obtain ⟨e2, e2'⟩ := e2
    obtain ⟨q0, q1, q2, q3, q4, q5⟩ := e3
    subst e0 e1 e2 e2' q0 q1 q2 q3 q4 q5
    have a0 := wf_u8 w0
    exact ⟨⟨k0, k1, a, b, r, x, m, p, s, A, c, l⟩, rfl, l3, l1, l2, a0.1, a0.2⟩
set_option maxRecDepth 100000 in
theorem open_ops7 {r : Reach} {b0 : Nat} {v : Value} {d : DataW H} {p : List MemPlace} (hv : Value.okWide Try.prog w r b0 77 v) (h : DataW.Trod enc Try.prog w base (fun _ => true) held 77 v d p) :
    ∃ (A : Option Addr) (c : Nat) (l : List Op7), v = .slice A l.length c ∧ l.length ≤ c ∧ c ≤ 9223372036854775807 ∧ Ord7 w A l := by
  obtain ⟨A, n, c, rfl⟩ := okWide_slice Try.underlying77 hv
  obtain ⟨fuel, hf⟩ := h
  rcases open_slice Try.underlying77 hf with ⟨hcs, _⟩ | ⟨a, len, cap, m, k, D, Pl, hcs, _, hl, hm, hmm, _, hi⟩
  · simp [Value.cells] at hcs
    obtain ⟨rfl, rfl, rfl⟩ := hcs
    exact ⟨none, 0, [], rfl, Nat.le_refl _, by omega, Rd.zero _ _ _, fun k hk => by simp at hk⟩
  · simp [Value.cells] at hcs
    obtain ⟨rfl, rfl, rfl⟩ := hcs
    simp only [if_true] at hmm
    unfold maxLen at hm
    have : Inhabited Op7 := ⟨⟨0, false, 0, 0, 0, 0, 0, 0, 0, none, 0, []⟩⟩
    obtain ⟨f, hfv⟩ := choose_lt (n := n) (p := fun i (x : Op7) => (∀ j (u : Value), x.cells[j]? = some u → w.cell? (a.add (i * 10 + j)) = some u) ∧ Brd w x.A x.d ∧ x.d.length ≤ x.c ∧ x.c ≤ 9223372036854775807 ∧ 0 ≤ x.do_ ∧ x.do_ < 256) fun i hin => by
      obtain ⟨cs', hc, ht⟩ := hi i (by omega)
      obtain ⟨x, rfl, hx⟩ := trod_op7 ht
      rw [cells_op7] at hc
      obtain ⟨_, _, hat⟩ := World.cells?_some hc
      refine ⟨x, fun j u hu => ?_, hx⟩
      have hj : j < 10 := (List.getElem?_eq_some_iff.1 hu).1
      rw [← aadd, hat j hj, hu]
    have hlen : ((List.range n).map f).length = n := by simp
    refine ⟨some a, c, (List.range n).map f, by rw [hlen], by rw [hlen]; exact hl, by omega, ⟨ocells7_length _, fun j u hu => ⟨a, rfl, ?_⟩⟩, fun k hk => ?_⟩
    · have hj : j < n * 10 := by have := (List.getElem?_eq_some_iff.1 hu).1; rw [ocells7_length, hlen] at this; exact this
      obtain ⟨q, r', hq, hr⟩ : ∃ q r', j = q * 10 + r' ∧ r' < 10 := ⟨j / 10, j % 10, by omega, by omega⟩
      subst hq
      have hqn : q < n := by omega
      rw [ocells7_at _ q (by rw [hlen]; exact hqn) r' hr] at hu
      have e : ((List.range n).map f)[q]'(by rw [hlen]; exact hqn) = f q := by simp
      rw [e] at hu
      exact (hfv q hqn).1 r' u hu
    · have hkn : k < n := by rw [hlen] at hk; exact hk
      have e : ((List.range n).map f)[k]'hk = f k := by simp
      rw [e]
      exact (hfv k hkn).2
end
end Go.Proofs.Ytpnkmkenmpbekaa
