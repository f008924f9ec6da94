/-
  RoomPlays: the walk: the law answers true; of what was there nothing has turned.
-/
import Derived.Test.YteikfkefahaodaaRoomG
import Derived.Test.YteikfkefahaodaaBox
import Derived.Deep.Slices
import Derived.Deep.Fields
import Derived.OpenShut
import Derived.ProofKit
import Derived.Deep.RegionHeld3
import Derived.Deep.QuietTactic
import Derived.BigQuiet
import Derived.StillTailTactics
namespace Go.Proofs.Yteikfkefahaodaa.roomPlays
open Go.RowKit Go.ChangeShapes Go.WideShapes Go.ChangeAt Go.Deep

set_option linter.unusedVariables false

/-- A step of a script. -/
structure Step where
  page : Int
  room : Int
  need : Int
def ocells (l : List Step) : List Value := l.flatMap fun o => [.int .i64 o.page, .int .i64 o.room, .int .i64 o.need]
theorem ocells_length (l : List Step) : (ocells l).length = l.length * 3 := by
  induction l with
  | nil => rfl
  | cons a l ih =>
    have e : ocells (a :: l) = [.int .i64 a.page, .int .i64 a.room, .int .i64 a.need] ++ ocells l := rfl
    rw [e, List.length_append, ih]; simp; omega
theorem ocells_at (l : List Step) : ∀ (k : Nat) (hk : k < l.length) (j : Nat), j < 3 → (ocells l)[k * 3 + j]? = ([.int .i64 l[k].page, .int .i64 l[k].room, .int .i64 l[k].need] : List Value)[j]? := by
  induction l with
  | nil => intro k hk; simp at hk
  | cons a l ih =>
    intro k hk j hj
    have e : ocells (a :: l) = [.int .i64 a.page, .int .i64 a.room, .int .i64 a.need] ++ ocells l := rfl
    cases k with
    | zero => rw [e, List.getElem?_append_left (by simp; omega)]; simp
    | succ k =>
      rw [e, List.getElem?_append_right (by simp; omega)]
      have := ih k (by simpa using hk) j hj
      simp only [List.length_cons, List.length_nil, List.getElem_cons_succ]
      rw [← this]
      congr 1
      omega
def Ord (w : World) (A : Option Addr) (l : List Step) : Prop := Rd w 3 A l.length (ocells l)
theorem Ord.at_ {w : World} {A : Option Addr} {l : List Step} (h : Ord w A l) {k : Nat} (hk : k < l.length) :
    ∃ ad : Addr, A = some ad ∧ w.cell? (ad.add (k * 3)) = some (.int .i64 l[k].page) ∧ w.cell? ⟨(ad.add (k * 3)).block, (ad.add (k * 3)).off + 1, none⟩ = some (.int .i64 l[k].room) ∧
      w.cell? ⟨(ad.add (k * 3)).block, (ad.add (k * 3)).off + 2, none⟩ = some (.int .i64 l[k].need) := by
  obtain ⟨ad, e, hc⟩ := h.some_ (by omega) (by decide)
  have key : ∀ j (u : Value), j < 3 → (ocells l)[k * 3 + j]? = some u → w.cell? ((ad.add (k * 3)).add j) = some u := fun j u _ hu => by
    obtain ⟨hl, rfl⟩ := List.getElem?_eq_some_iff.1 hu
    rw [aadd]
    exact hc _ hl
  exact ⟨ad, e, key 0 _ (by decide) (by rw [ocells_at l k hk 0 (by decide)]; rfl), key 1 _ (by decide) (by rw [ocells_at l k hk 1 (by decide)]; rfl), key 2 _ (by decide) (by rw [ocells_at l k hk 2 (by decide)]; rfl)⟩
theorem size_op (W : World) : (sizeOf 31).run Try.prog W = .ok 3 W := by kernel_rfl
theorem idx_op (ad : Addr) (n c k : Nat) (h : k < n) (W : World) : (Instr.indexAt 22 (.slice (some ad) n c) (.int .i64 (k : Int))).run Try.prog W = .ok (.pointer (some (ad.add (k * 3)))) W := by
  rw [run_indexAt_slice (h := by kernel_rfl), if_pos (by omega)]
  rw [show Try.prog.elem 22 = 31 by kernel_rfl, size_op]
  simp [Result.andThen]
theorem cells_op : Try.prog.cellsOf 31 = 3 := by kernel_rfl
section
variable {H : Type} {enc : TypeId × Value → H} {w : World} {base : Nat} {held : Bool}
set_option maxRecDepth 100000 in
theorem trod_op {spare : Nat → Bool} {n : Nat} {cs : List Value} {y : DataW H × List MemPlace} (h : DataW.trod enc Try.prog w base spare held n 31 cs = some y) :
    ∃ x : Step, cs = [.int .i64 x.page, .int .i64 x.room, .int .i64 x.need] := by
  obtain ⟨xs, m, _, _, hcl, hlen, hf⟩ := DataW.trod_struct Try.underlying31 h
  rw [cells_op] at hcl
  match cs, hcl, xs, hlen with
  | [c0, c1, c2], _, [z0, z1, z2], _ =>
    have h0 : _ = some z0 := hf 0 _ rfl
    have h1 : _ = some z1 := hf 1 _ rfl
    have h2 : _ = some z2 := hf 2 _ rfl
    obtain ⟨k0, e0, _, _⟩ := DataW.trod_int Try.underlying3 h0
    obtain ⟨k1, e1, _, _⟩ := DataW.trod_int Try.underlying3 h1
    obtain ⟨k2, e2, _, _⟩ := DataW.trod_int Try.underlying3 h2
    have q : Try.prog.cellsOf 3 = 1 := by kernel_rfl
    simp [q] at e0
    simp [q] at e1
    simp [q] at e2
    subst e0 e1 e2
    exact ⟨⟨k0, k1, k2⟩, rfl⟩
set_option maxRecDepth 100000 in
theorem open_steps {r : Reach} {b0 : Nat} {v : Value} {d : DataW H} {p : List MemPlace} (hv : Value.okWide Try.prog w r b0 22 v) (h : DataW.Trod enc Try.prog w base (fun _ => true) held 22 v d p) :
    ∃ (A : Option Addr) (c : Nat) (l : List Step), v = .slice A l.length c ∧ l.length ≤ c ∧ c ≤ 9223372036854775807 ∧ Ord w A l := by
  obtain ⟨A, n, c, rfl⟩ := okWide_slice Try.underlying22 hv
  obtain ⟨fuel, hf⟩ := h
  rcases open_slice Try.underlying22 hf with ⟨hcs, _⟩ | ⟨a, len, cap, m, k, D, Pl, hcs, _, hl, hm, hmm, _, hi⟩
  · simp [Value.cells] at hcs
    obtain ⟨rfl, rfl, rfl⟩ := hcs
    exact ⟨none, 0, [], rfl, Nat.le_refl _, by omega, Rd.zero _ _ _⟩
  · simp [Value.cells] at hcs
    obtain ⟨rfl, rfl, rfl⟩ := hcs
    simp only [if_true] at hmm
    unfold maxLen at hm
    have : Inhabited Step := ⟨⟨0, 0, 0⟩⟩
    obtain ⟨f, hfv⟩ := choose_lt (n := n) (p := fun i (x : Step) => ∀ j (u : Value), ([.int .i64 x.page, .int .i64 x.room, .int .i64 x.need] : List Value)[j]? = some u → w.cell? (a.add (i * 3 + j)) = some u) fun i hin => by
      obtain ⟨cs', hc, ht⟩ := hi i (by omega)
      obtain ⟨x, rfl⟩ := trod_op ht
      rw [cells_op] at hc
      obtain ⟨_, _, hat⟩ := World.cells?_some hc
      refine ⟨x, fun j u hu => ?_⟩
      have hj : j < 3 := (List.getElem?_eq_some_iff.1 hu).1
      rw [← aadd, hat j hj, hu]
    have hlen : ((List.range n).map f).length = n := by simp
    refine ⟨some a, c, (List.range n).map f, by rw [hlen], by rw [hlen]; exact hl, by omega, ?_⟩
    refine ⟨ocells_length _, fun j u hu => ⟨a, rfl, ?_⟩⟩
    have hj : j < n * 3 := by have := (List.getElem?_eq_some_iff.1 hu).1; rw [ocells_length, hlen] at this; exact this
    obtain ⟨q, r', hq, hr⟩ : ∃ q r', j = q * 3 + r' ∧ r' < 3 := ⟨j / 3, j % 3, by omega, by omega⟩
    subst hq
    have hqn : q < n := by omega
    rw [ocells_at _ q (by rw [hlen]; exact hqn) r' hr] at hu
    have e : ((List.range n).map f)[q]'(by rw [hlen]; exact hqn) = f q := by simp
    rw [e] at hu
    exact hfv q hqn r' u hu
end
/-- What Set leaves. -/
def setN (l : List Int) (p r : Int) : List Int := if setE l p = 0 then setL l p r else l
theorem set_cases (l : List Int) (p : Int) (h : l.length ≤ 256) : ((p < 0 ∨ 256 ≤ p) ∧ setE l p = 1) ∨ ((0 ≤ p ∧ p < 256 ∧ (l.length : Int) < p) ∧ setE l p = 3) ∨ ((p = (l.length : Int) ∧ l.length < 256) ∧ setE l p = 0) ∨ ((0 ≤ p ∧ p < (l.length : Int)) ∧ setE l p = 0) := by
  unfold setE
  by_cases h1 : p < 0 ∨ 256 ≤ p
  · exact .inl ⟨h1, if_pos h1⟩
  · rw [if_neg h1]
    by_cases h2 : (l.length : Int) < p
    · exact .inr (.inl ⟨by omega, if_pos h2⟩)
    · rw [if_neg h2]
      by_cases h3 : p = (l.length : Int)
      · exact .inr (.inr (.inl ⟨by omega, rfl⟩))
      · exact .inr (.inr (.inr ⟨by omega, rfl⟩))
theorem setN_len {l : List Int} {p r : Int} (h : l.length ≤ 256) : (setN l p r).length ≤ 256 := by
  rcases set_cases l p h with ⟨h1, e1⟩ | ⟨h1, e1⟩ | ⟨⟨h1, h2⟩, e1⟩ | ⟨h1, e1⟩
  · rw [show setN l p r = l from if_neg (by rw [e1]; decide)]; exact h
  · rw [show setN l p r = l from if_neg (by rw [e1]; decide)]; exact h
  · rw [show setN l p r = setL l p r from if_pos e1, show setL l p r = l ++ [cap r] from if_pos h1, List.length_append]
    simp; omega
  · rw [show setN l p r = setL l p r from if_pos e1, show setL l p r = l.set p.toNat (cap r) from if_neg (by omega), List.length_set]
    exact h
theorem set_all (w : World) (base br g : Nat) (v : Value) (l : List Int) (p r : Int) (h : Room w base br g v l) (hbase : br ≤ w.heap.size) (hl : l.length ≤ 256) :
    Calls Try.prog 6 #[.pointer (some ⟨g, 0, none⟩), .int .i64 p, .int .i64 r] w fun e w' => e = .returned (.int .i64 (setE l p)) ∧ ∃ v', Only w w' g v v' ∧ Room w' base br g v' (setN l p r) := by
  rcases set_cases l p hl with ⟨h1, e1⟩ | ⟨h1, e1⟩ | ⟨⟨h1, h2⟩, e1⟩ | ⟨h1, e1⟩
  · rw [e1, show setN l p r = l from if_neg (by rw [e1]; decide)]
    refine (set_arg w g p r h1).mono ?_
    rintro e w' ⟨rfl, rfl⟩
    exact ⟨rfl, v, Only.refl _ _ _, h⟩
  · rw [e1, show setN l p r = l from if_neg (by rw [e1]; decide)]
    refine (set_form w base br g v l p r h h1.1 h1.2.1 h1.2.2).mono ?_
    rintro e w' ⟨rfl, rfl⟩
    exact ⟨rfl, v, Only.refl _ _ _, h⟩
  · rw [e1, show setN l p r = setL l p r from if_pos e1, show setL l p r = l ++ [cap r] from if_pos h1, h1]
    refine (set_app_only w base br g v l r h hbase h2).mono ?_
    rintro e w' ⟨rfl, v', h3, h4⟩
    exact ⟨rfl, v', h3, h4⟩
  · rw [e1, show setN l p r = setL l p r from if_pos e1, show setL l p r = l.set p.toNat (cap r) from if_neg (by omega)]
    obtain ⟨k, rfl⟩ : ∃ k : Nat, p = (k : Int) := ⟨p.toNat, by omega⟩
    rw [Int.toNat_natCast]
    refine (set_put_only w base br g v l k r h (by omega) (by omega)).mono ?_
    rintro e w' ⟨rfl, h3, h4⟩
    exact ⟨rfl, v, h3, h4⟩
theorem rset_all (w : World) (base br g : Nat) (v : Value) (l : List Int) (p r : Int) (h : Refm w base br g v l) (hbase : br ≤ w.heap.size) (hl : l.length ≤ 256) :
    Calls Try.prog 7 #[.pointer (some ⟨g, 0, none⟩), .int .i64 p, .int .i64 r] w fun e w' => e = .returned (.int .i64 (setE l p)) ∧ ∃ v', Only w w' g v v' ∧ Refm w' base br g v' (setN l p r) := by
  rcases set_cases l p hl with ⟨h1, e1⟩ | ⟨h1, e1⟩ | ⟨⟨h1, h2⟩, e1⟩ | ⟨h1, e1⟩
  · rw [e1, show setN l p r = l from if_neg (by rw [e1]; decide)]
    refine (rset_arg w g p r h1).mono ?_
    rintro e w' ⟨rfl, rfl⟩
    exact ⟨rfl, v, Only.refl _ _ _, h⟩
  · rw [e1, show setN l p r = l from if_neg (by rw [e1]; decide)]
    refine (rset_form w base br g v l p r h h1.1 h1.2.1 h1.2.2).mono ?_
    rintro e w' ⟨rfl, rfl⟩
    exact ⟨rfl, v, Only.refl _ _ _, h⟩
  · rw [e1, show setN l p r = setL l p r from if_pos e1, show setL l p r = l ++ [cap r] from if_pos h1, h1]
    refine (rset_app w base br g v l r h hbase h2).mono ?_
    rintro e w' ⟨rfl, v', h3, h4⟩
    exact ⟨rfl, v', h3, h4⟩
  · rw [e1, show setN l p r = setL l p r from if_pos e1, show setL l p r = l.set p.toNat (cap r) from if_neg (by omega)]
    obtain ⟨k, rfl⟩ : ∃ k : Nat, p = (k : Int) := ⟨p.toNat, by omega⟩
    rw [Int.toNat_natCast]
    refine (rset_put w base br g v l k r h (by omega) (by omega)).mono ?_
    rintro e w' ⟨rfl, h3, h4⟩
    exact ⟨rfl, v, h3, h4⟩
theorem bal {a w : World} (h : Below a.heap.size a w) (o : Obj) : Below a.heap.size a (w.alloc o) := h.alloc h.size o
theorem bal' {B : Nat} {a w : World} (h : Below B a w) (hB : B ≤ a.heap.size) (o : Obj) : Below B a (w.alloc o) := h.alloc (Nat.le_trans hB h.size) o
theorem bdN {B : Nat} {a w : World} (h : Below B a w) (n : Nat) : Below B a (w.drewN n) := ⟨h.os, h.tape, h.output, h.size, h.block⟩
set_option maxRecDepth 100000 in
set_option maxHeartbeats 4000000 in
theorem walk_nil (A : Option Addr) (c : Nat) (l : List Step) (w : World) (r0 : Ord w A l) (n0 : l.length ≤ c) (m0 : c ≤ 9223372036854775807) :
    Calls Try.prog 3 #[.bool true, .slice A l.length c] w fun e w' => e = .returned (.bool true) ∧ Below w.heap.size w w' := by
  go_enter Try.func3, Try.ntmps3
  go_wp2_with fail
  refine (awake6_any _).mono ?_
  rintro e w1 ⟨rfl, hb1⟩
  have hz1 := hb1.size
  go_wp2_with fail
  refine (newroom_any w1 0).mono ?_
  rintro e w2 ⟨rfl, hr2, hb2, hw2⟩
  have hz2 : w1.heap.size ≤ w2.heap.size := hb2.size
  clear hw2 hr2
  have hx2 : Below w.heap.size w w2 := hb1.trans (hb2.mono hz1)
  go_wp2
  go_loopw [21] (fun iv wr => ∃ k : Nat, k ≤ l.length ∧ iv = .int .i64 (k : Int) ∧ Below w.heap.size w wr) (fun iv _ => l.length - (intOf iv).toNat)
  case atStart => exact ⟨0, Nat.zero_le _, rfl, by repeat (first | exact hx2 | refine Below.drew ?_ | refine bal ?_ _ | refine bdN ?_ _)⟩
  case round =>
    obtain ⟨k, hk, rfl, hb⟩ := hrel
    have hz := hb.size
    by_cases hlt : k < l.length
    · obtain ⟨ad, rfl, q0, q1, q2⟩ := Ord.at_ (Rd.below r0 (hb.mono (Nat.le_refl _))) hlt
      have ix := idx_op ad l.length c k hlt
      generalize l[k] = o at *
      by_cases h300 : k < 300
      · clear r0
        go_wp2_with fail
        have b := Bx.new wr 31 #[.int .i64 o.page, .int .i64 o.room, .int .i64 o.need] [.int .i64 o.page, .int .i64 o.room, .int .i64 o.need] rfl
        have hbW : Below w.heap.size w (wr.alloc (.cells #[.int .i64 o.page, .int .i64 o.room, .int .i64 o.need] 31)) := bal' hb (Nat.le_refl _) _
        generalize wr.alloc (.cells #[.int .i64 o.page, .int .i64 o.room, .int .i64 o.need] 31) = W at *
        generalize wr.heap.size = sl at *
        refine wp_region_still_lit (by kernel_rfl) (by kernel_rfl) ?_
        have c0 := b.cell 0
        have c1 := b.cell 1
        have c2 := b.cell 2
        simp only [List.getElem?_cons_zero, List.getElem?_cons_succ] at c0 c1 c2
        have V0 : ({ W with drawn := W.drawn + 1 } : World).cell? ⟨sl, 0, none⟩ = _ := c0
        have V1 : ({ W with drawn := W.drawn + 1 } : World).cell? ⟨sl, 1, none⟩ = _ := c1
        have V2 : ({ W with drawn := W.drawn + 1 } : World).cell? ⟨sl, 2, none⟩ = _ := c2
        have hbV : Below w.heap.size w ({ W with drawn := W.drawn + 1 } : World) := hbW.drew
        generalize ({ W with drawn := W.drawn + 1 } : World) = V at *
        repeat (first | (with_reducible refine wpStill_step ?_; intro K hK; go_simp; with_reducible refine hK _ ?_; clear hK K) | (with_reducible refine wpStill_step ?_; intro K hK; go_simp; with_reducible refine ⟨_, (set_nil _ o.page o.room), hK _ ?_⟩; clear hK K) | (with_reducible refine wpStill_step ?_; intro K hK; go_simp; with_reducible refine ⟨_, (rset_nil _ o.page o.room), hK _ ?_⟩; clear hK K))
        with_reducible refine wpStill_nil ?_
        go_wp2_with (first
          | (go_at_call 8; (with_reducible refine (find_nil _ _).mono ?_); rintro e w6 ⟨rfl, hw6⟩; have hw := hw6.symm; subst hw)
          | (go_at_call 9; (with_reducible refine (rfind_nil _ _).mono ?_); rintro e w6 ⟨rfl, hw6⟩; have hw := hw6.symm; subst hw))
        refine wp_region_still_lit (by kernel_rfl) (by kernel_rfl) ?_
        repeat (first | (with_reducible refine wpStill_step ?_; intro K hK; go_simp; with_reducible refine hK _ ?_; clear hK K) | (with_reducible refine wpStill_step ?_; intro K hK; go_simp; with_reducible refine ⟨_, (mget_nil _ o.need), hK _ ?_⟩; clear hK K) | (with_reducible refine wpStill_step ?_; intro K hK; go_simp; with_reducible refine ⟨_, (rget_nil _ o.need), hK _ ?_⟩; clear hK K) | (with_reducible refine wpStill_step ?_; intro K hK; go_simp; with_reducible refine ⟨_, (mget_nil _ o.page), hK _ ?_⟩; clear hK K) | (with_reducible refine wpStill_step ?_; intro K hK; go_simp; with_reducible refine ⟨_, (rget_nil _ o.page), hK _ ?_⟩; clear hK K))
        with_reducible refine wpStill_nil ?_
        go_wp2_with fail
        refine wp_region_still_lit (by kernel_rfl) (by kernel_rfl) ?_
        repeat (first | (with_reducible refine wpStill_step ?_; intro K hK; go_simp; with_reducible refine hK _ ?_; clear hK K) | (with_reducible refine wpStill_step ?_; intro K hK; go_simp; with_reducible refine ⟨_, (pages_nil _), hK _ ?_⟩; clear hK K))
        with_reducible refine wpStill_nil ?_
        go_wp2
        go_roundw
        case rel => exact ⟨k + 1, by omega, by go_num, ⟨hbV.os, hbV.tape, hbV.output, hbV.size, hbV.block⟩⟩
        case measure => simp [intOf]; omega
      · clear r0
        go_wp2
        go_ret
        exact ⟨rfl, by repeat (first | exact hb | refine Below.drew ?_ | refine bal ?_ _ | refine bdN ?_ _)⟩
    · obtain rfl : k = l.length := by omega
      clear r0
      go_wp2
      go_ret
      exact ⟨rfl, hb⟩
end Go.Proofs.Yteikfkefahaodaa.roomPlays
