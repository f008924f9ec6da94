/-
  Package room: a map in memory; New, Set, Find, Get, Pages.
-/
import Derived.Test.YtpnkmkenmpbekaaMem
import Derived.Test.YtpnkmkenmpbekaaNum
import Derived.Test.YtpnkmkenmpbekaaProg
import Derived.Lib.Hide
import Derived.OwnWalk
import Derived.WalkLawsBesides
namespace Go.Proofs.Ytpnkmkenmpbekaa
open Go.RowKit

def icells (l : List Int) : List Value := l.map fun n => .int .i64 n
theorem icells_length (l : List Int) : (icells l).length = l.length := by simp [icells]
theorem icells_append (a b : List Int) : icells (a ++ b) = icells a ++ icells b := by simp [icells]
theorem icells_one (l : List Int) : ∀ u ∈ icells l, u.oneCell' = true := by
  intro u hu
  obtain ⟨_, _, rfl⟩ := List.mem_map.1 hu
  rfl
theorem icells_get (l : List Int) (j : Nat) (hj : j < l.length) : (icells l)[j]? = some (.int .i64 l[j]) := by
  unfold icells; rw [List.getElem?_map, List.getElem?_eq_getElem hj]; rfl
theorem info_int : (Try.prog.info? 3).map (fun i => (i.zero, i.size, i.bytes)) = some (some (.int .i64 0), 1, 8) := by kernel_rfl
theorem info_parts4 {o : Option TypeInfo} {z : Option Value} {s b : Nat} (h : o.map (fun i => (i.zero, i.size, i.bytes)) = some (z, s, b)) : ∃ i, o = some i ∧ i.zero = z ∧ i.size = s ∧ i.bytes = b := by
  obtain ⟨i, hi, hzz⟩ := Option.map_eq_some_iff.1 h
  simp only [Prod.mk.injEq] at hzz
  exact ⟨i, hi, hzz.1, hzz.2.1, hzz.2.2⟩
/-- A map's rooms: the block of its field, and the row that lies there. -/
structure Room (w : World) (base br g : Nat) (v : Value) (l : List Int) : Prop where
  box : w.ownsRow base 119 1 (.slice (some ⟨g, 0, none⟩) 1 1) 1 [v]
  row : w.ownsRow br 3 1 v l.length (icells l)
theorem rows_apart {w : World} {b1 b2 n1 n2 s1 s2 : Nat} {e1 e2 : TypeId} {v1 v2 : Value} {x1 x2 : List Value} (h1 : w.ownsRow b1 e1 s1 v1 n1 x1) (h2 : w.ownsRow b2 e2 s2 v2 n2 x2) (hne : e1 ≠ e2) : v1.ownBlock = none ∨ v1.ownBlock ≠ v2.ownBlock := by
  rcases h1.2 with ⟨rfl, _⟩ | ⟨g1, c1, r1, rfl, _, hg1, _⟩
  · exact .inl rfl
  · right
    intro e
    rcases h2.2 with ⟨rfl, _⟩ | ⟨g2, c2, r2, rfl, _, hg2, _⟩
    · cases e
    · have e' : g1 = g2 := by simpa [Value.ownBlock] using e
      subst e'
      rw [hg1] at hg2
      injection hg2 with hg2
      injection hg2 with _ h4
      exact hne h4
section
variable {w w' : World} {base br g : Nat} {v : Value} {l : List Int}
theorem Room.cell (h : Room w base br g v l) : w.cell? ⟨g, 0, none⟩ = some v := (h.box.cellAt 0 (by omega)).trans rfl
theorem Room.frozen (h : Room w base br g v l) : w.frozen? ⟨g, 0, none⟩ = false := h.box.frozenAt 0
theorem Room.lt (h : Room w base br g v l) : base ≤ g ∧ g < w.heap.size := h.box.lt g rfl
theorem Room.below (h : Room w base br g v l) (hb : Below w.heap.size w w') : Room w' base br g v l := ⟨own_below h.box hb, own_below h.row hb⟩
theorem Room.alloc (h : Room w base br g v l) (o : Obj) : Room (w.alloc o) base br g v l := ⟨World.ownsRow.alloc h.box o, World.ownsRow.alloc h.row o⟩
theorem Room.drew (h : Room w base br g v l) : Room w.drew base br g v l := ⟨own_drew h.box, own_drew h.row⟩
theorem Room.form (h : Room w base br g v l) : ∃ A c, v = .slice A l.length c ∧ l.length ≤ c ∧ c ≤ maxLen ∧ Rd w 1 A l.length (icells l) := own_form h.row
end
theorem room_new (w : World) (br : Nat) {g : Nat} (hg : g = w.heap.size) {C : Array Value} (hC : C = #[.slice none 0 0]) : Room (w.alloc (.cells C 119)) w.heap.size br g (.slice none 0 0) [] := by
  subst hg hC
  exact ⟨⟨rfl, .inr ⟨w.heap.size, 1, #[.slice none 0 0], rfl, Nat.le_refl _, heap_alloc_new w _, Nat.le_refl _, by unfold maxLen; decide, rfl, rfl⟩⟩, World.ownsRow_nil _ _ _ _⟩

/-- Of the blocks below B, none has turned but g. -/
structure But (B g : Nat) (a w : World) : Prop where
  os : w.os = a.os
  tape : w.tape = a.tape
  output : w.output = a.output
  size : a.heap.size ≤ w.heap.size
  block : ∀ k, k < B → k ≠ g → w.heap[k]? = a.heap[k]?
section
variable {B B' g : Nat} {a w w' : World}
theorem But.refl : But B g a a := ⟨rfl, rfl, rfl, Nat.le_refl _, fun _ _ _ => rfl⟩
theorem But.trans (h : But B g a w) (k : But B g w w') : But B g a w' := ⟨k.os.trans h.os, k.tape.trans h.tape, k.output.trans h.output, Nat.le_trans h.size k.size, fun n hn hg => (k.block n hn hg).trans (h.block n hn hg)⟩
theorem But.of (h : Below B a w) : But B g a w := ⟨h.os, h.tape, h.output, h.size, fun k hk _ => h.block k hk⟩
theorem But.setg (h : But B g a w) (j : Nat) (u : Value) : But B g a (w.setCell ⟨g, j, none⟩ u) :=
  ⟨h.os, h.tape, h.output, by simpa [World.setCell] using h.size, fun k hk hne => (heap_setCell_other w ⟨g, j, none⟩ k u (fun e => hne e)).trans (h.block k hk hne)⟩
theorem But.set (h : But B g a w) {p : Addr} (hp : B ≤ p.block) (u : Value) : But B g a (w.setCell p u) :=
  ⟨h.os, h.tape, h.output, by simpa [World.setCell] using h.size, fun k hk hne => (Below.heap_setCell _ _ _ _ (by omega)).trans (h.block k hk hne)⟩
theorem But.below (h : But B g a w) (h1 : B' ≤ g) (h2 : B' ≤ B) : Below B' a w := ⟨h.os, h.tape, h.output, h.size, fun k hk => h.block k (Nat.lt_of_lt_of_le hk h2) (by omega)⟩
theorem But.cell (h : But B g a w) {p : Addr} (hp : p.block < B) (hne : p.block ≠ g) : w.cell? p = a.cell? p := by unfold World.cell?; rw [h.block p.block hp hne]
end
/-- What a room counts as. -/
def cap (r : Int) : Int := min (max r (-1)) 512
def setE (l : List Int) (p : Int) : Int := if p < 0 ∨ 256 ≤ p then 1 else if (l.length : Int) < p then 3 else 0
def setL (l : List Int) (p : Int) (r : Int) : List Int := if p = (l.length : Int) then l ++ [cap r] else l.set p.toNat (cap r)
def getI (l : List Int) (p : Int) : Int := if p < 0 ∨ (l.length : Int) ≤ p then -1 else l.getD p.toNat 0

theorem newroom_any (w : World) (br : Nat) :
    Calls Try.prog 14 #[] w fun e w' => e = .returned (.pointer (some ⟨w.heap.size, 0, none⟩)) ∧ Room w' w.heap.size br w.heap.size (.slice none 0 0) [] ∧ Below w.heap.size w w' ∧ w'.heap.size = w.heap.size + 1 := by
  go_enter Try.func14, Try.ntmps14
  go_wp2
  go_ret
  exact ⟨rfl, room_new w br rfl rfl, (Below.refl _ _).alloc (Nat.le_refl _) _, by simp⟩
theorem pages_any (w : World) (base br g : Nat) (v : Value) (l : List Int) (h : Room w base br g v l) :
    Calls Try.prog 17 #[.pointer (some ⟨g, 0, none⟩)] w fun e w' => e = .returned (.int .i64 l.length) ∧ w' = w := by
  have hc := h.cell
  obtain ⟨A, c, rfl, hn, hm, hr⟩ := h.form
  go_enter Try.func17, Try.ntmps17
  go_wp2
  go_ret
  exact ⟨rfl, rfl⟩
end Go.Proofs.Ytpnkmkenmpbekaa
