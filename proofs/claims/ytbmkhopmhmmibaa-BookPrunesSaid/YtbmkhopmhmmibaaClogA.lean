/-
  Package clog: a log in memory; New, Next, State.
-/
import Derived.Test.YtbmkhopmhmmibaaFram
import Derived.Test.YtbmkhopmhmmibaaProg
import Derived.OwnWalk
import Derived.StillTailTactics
import Derived.Deep.QuietTactic
import Derived.BigQuiet
namespace Go.Proofs.Ytbmkhopmhmmibaa
open Go.RowKit
set_option linter.unusedVariables false

def ucells (k : IntKind) (l : List Nat) : List Value := l.map fun (n : Nat) => .int k (n : Int)
theorem ucells_length (k : IntKind) (l : List Nat) : (ucells k l).length = l.length := by simp [ucells]
theorem ucells_append (k : IntKind) (a b : List Nat) : ucells k (a ++ b) = ucells k a ++ ucells k b := by simp [ucells]
theorem ucells_one (k : IntKind) (l : List Nat) : ∀ u ∈ ucells k l, u.oneCell' = true := by
  intro u hu
  obtain ⟨_, _, rfl⟩ := List.mem_map.1 hu
  rfl
theorem ucells_get (k : IntKind) (l : List Nat) (j : Nat) (hj : j < l.length) : (ucells k l)[j]? = some (.int k (l[j] : Int)) := by
  unfold ucells; rw [List.getElem?_map, List.getElem?_eq_getElem hj]; rfl
theorem ucells_set (k : IntKind) (l : List Nat) (j x : Nat) : ucells k (l.set j x) = (ucells k l).set j (.int k (x : Int)) := by
  unfold ucells; rw [List.map_set]
theorem info_u64 : (Try.prog.info? 28).map (fun i => (i.zero, i.size, i.bytes)) = some (some (.int .u64 0), 1, 8) := by kernel_rfl
theorem info_u8c : (Try.prog.info? 5).map (fun i => (i.zero, i.size, i.bytes)) = some (some (.int .u8 0), 1, 1) := by kernel_rfl
theorem info_parts4 {o : Option TypeInfo} {z : Option Value} {s b : Nat} (h : o.map (fun i => (i.zero, i.size, i.bytes)) = some (z, s, b)) : ∃ i, o = some i ∧ i.zero = z ∧ i.size = s ∧ i.bytes = b := by
  obtain ⟨i, hi, hzz⟩ := Option.map_eq_some_iff.1 h
  simp only [Prod.mk.injEq] at hzz
  exact ⟨i, hi, hzz.1, hzz.2.1, hzz.2.2⟩
theorem own_shape {w : World} {base : Nat} {e : TypeId} {size : Nat} {v : Value} {n : Nat} {xs : List Value} (h : w.ownsRow base e size v n xs) (h0 : 0 < n) : ∃ g c, v = .slice (some ⟨g, 0, none⟩) n c ∧ base ≤ g ∧ n ≤ c ∧ c ≤ 9223372036854775807 := by
  rcases h.2 with ⟨_, h0'⟩ | ⟨g, cap, cur, rfl, hb, _, hc, hm, _⟩
  · omega
  · exact ⟨g, cap, rfl, hb, hc, by unfold maxLen at hm; omega⟩
theorem idx_u8 (g n c k : Nat) (h : k < n) (W : World) : (Instr.indexAt 94 (.slice (some ⟨g, 0, none⟩) n c) (.int .u64 (k : Int))).run Try.prog W = .ok (.pointer (some ⟨g, k, none⟩)) W := by
  rw [run_indexAt_slice (h := by kernel_rfl), if_pos (by omega)]
  rw [show Try.prog.elem 94 = 5 by kernel_rfl, show (sizeOf 5).run Try.prog W = .ok 1 W by kernel_rfl]
  simp [Result.andThen, Addr.add_lit]
theorem idx_u64 (g n c k : Nat) (h : k < n) (W : World) : (Instr.indexAt 48 (.slice (some ⟨g, 0, none⟩) n c) (.int .i64 (k : Int))).run Try.prog W = .ok (.pointer (some ⟨g, k, none⟩)) W := by
  rw [run_indexAt_slice (h := by kernel_rfl), if_pos (by omega)]
  rw [show Try.prog.elem 48 = 28 by kernel_rfl, show (sizeOf 28).run Try.prog W = .ok 1 W by kernel_rfl]
  simp [Result.andThen, Addr.add_lit]

/-- Those that run, of states from f on. -/
def runs : Nat → List Nat → List Nat
  | _, [] => []
  | f, s :: S => if s = 1 then f :: runs (f + 1) S else runs (f + 1) S
/-- What a log has of a number. -/
def stt (f : Nat) (S : List Nat) (x : Nat) : Nat := if f ≤ x then S.getD (x - f) 0 else 0
/-- A log in memory: its block g, the rows of its states and of those that run. -/
structure Lg (w : World) (g : Nat) (v rv : Value) (f : Nat) (S : List Nat) : Prop where
  box : Bx w g 96 [.int .u64 (f : Int), v, rv]
  row : w.ownsRow 0 5 1 v S.length (ucells .u8 S)
  run : w.ownsRow 0 28 1 rv (runs f S).length (ucells .u64 (runs f S))
  pos : 1 ≤ f
  max : f + S.length ≤ 1099511627777
  sts : ∀ s ∈ S, s < 256
/-- The blocks of a log. -/
def Lf (g : Nat) (v rv : Value) (k : Nat) : Prop := k = g ∨ v.ownBlock = some k ∨ rv.ownBlock = some k
section
variable {w w' : World} {g f : Nat} {v rv : Value} {S : List Nat} {T : Nat → Prop}
theorem Lg.ty (h : Lg w g v rv f S) {k : Nat} (hk : Lf g v rv k) : Ty w k 96 ∨ Ty w k 5 ∨ Ty w k 28 := by
  rcases hk with rfl | hk | hk
  · exact .inl h.box.ty
  · exact .inr (.inl (own_ty h.row hk))
  · exact .inr (.inr (own_ty h.run hk))
theorem Lg.lt (h : Lg w g v rv f S) {k : Nat} (hk : Lf g v rv k) : k < w.heap.size := by
  rcases h.ty hk with h | h | h <;> exact h.lt
theorem Lg.fr (h : Lg w g v rv f S) (hf : Fr T w w') (hn : ∀ k, Lf g v rv k → ¬ T k) : Lg w' g v rv f S :=
  ⟨hf.bx h.box (hn g (.inl rfl)), hf.own h.row fun k e => hn k (.inr (.inl e)), hf.own h.run fun k e => hn k (.inr (.inr e)), h.pos, h.max, h.sts⟩
theorem Lg.below (h : Lg w g v rv f S) (hb : Below w.heap.size w w') : Lg w' g v rv f S := h.fr (T := fun _ => False) (Fr.of_below hb) fun _ _ hh => hh
theorem Lg.alloc (h : Lg w g v rv f S) (o : Obj) : Lg (w.alloc o) g v rv f S := h.below ((Below.refl _ _).alloc (Nat.le_refl _) o)
theorem Lg.drew (h : Lg w g v rv f S) : Lg w.drew g v rv f S := ⟨h.box, h.row, h.run, h.pos, h.max, h.sts⟩
theorem Lg.drewN (h : Lg w g v rv f S) (n : Nat) : Lg (w.drewN n) g v rv f S := ⟨h.box, h.row, h.run, h.pos, h.max, h.sts⟩
end
theorem below_n (w : World) (n : Nat) : Below w.heap.size w (w.drewN n) := ⟨rfl, rfl, rfl, Nat.le_refl _, fun _ _ => rfl⟩

theorem new_no (w : World) (x : Nat) (h : x = 0 ∨ 1099511627776 < x) :
    Calls Try.prog 9 #[.int .u64 (x : Int)] w fun e w' => e = .returned (.tuple #[.pointer none, .int .i64 1]) ∧ w' = w := by
  rcases h with rfl | h
  · go_enter Try.func9, Try.ntmps9
    go_wp2
    refine bodyPost_ret (v := .tuple #[.pointer none, .int .i64 1]) (by simp [results, Try.results9, go_sem]) rfl ?_
    exact ⟨rfl, rfl⟩
  · have h0 : ((x : Int) == 0) = false := beq_eq_false_iff_ne.2 (by omega)
    go_enter Try.func9, Try.ntmps9
    go_wp2
    refine bodyPost_ret (v := .tuple #[.pointer none, .int .i64 1]) (by simp [results, Try.results9, go_sem]) rfl ?_
    exact ⟨rfl, rfl⟩
theorem new_ok (w : World) (x : Nat) (h0 : 1 ≤ x) (h : x ≤ 1099511627776) :
    Calls Try.prog 9 #[.int .u64 (x : Int)] w fun e w' => e = .returned (.tuple #[.pointer (some ⟨w.heap.size, 0, none⟩), .int .i64 0]) ∧ Lg w' w.heap.size (.slice none 0 0) (.slice none 0 0) x [] ∧ Below w.heap.size w w' ∧ w'.heap.size = w.heap.size + 1 := by
  have h0' : ((x : Int) == 0) = false := beq_eq_false_iff_ne.2 (by omega)
  go_enter Try.func9, Try.ntmps9
  go_wp2
  refine bodyPost_ret (v := .tuple #[.pointer (some ⟨w.heap.size, 0, none⟩), .int .i64 0]) (by simp [results, Try.results9, go_sem]) rfl ?_
  exact ⟨rfl, ⟨Bx.new w 96 _ [.int .u64 (x : Int), .slice none 0 0, .slice none 0 0] rfl, World.ownsRow_nil _ _ _ _, World.ownsRow_nil _ _ _ _, h0, by simp; omega, by simp⟩, (Below.refl _ _).alloc (Nat.le_refl _) _, by simp⟩
theorem next_any (w : World) (g f : Nat) (v rv : Value) (S : List Nat) (h : Lg w g v rv f S) :
    Calls Try.prog 40 #[.pointer (some ⟨g, 0, none⟩)] w fun e w' => e = .returned (.int .u64 ((f + S.length : Nat) : Int)) ∧ ∃ n, w' = w.drewN n := by
  have hmax := h.max
  obtain ⟨A, c, rfl, hn, hm, hr⟩ := own_form h.row
  have c0 := h.box.cell 0
  have c1 := h.box.cell 1
  clear hr h
  go_enter Try.func40, Try.ntmps40
  go_wp2_with fail
  go_quiet (fail)
  go_wp2
  go_ret
  exact ⟨rfl, _, rfl⟩
end Go.Proofs.Ytbmkhopmhmmibaa
