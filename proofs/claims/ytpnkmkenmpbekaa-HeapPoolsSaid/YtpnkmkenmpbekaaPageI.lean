/-
  Pages: New; clear of a page's bytes; Free.
-/
import Derived.Test.YtpnkmkenmpbekaaPageH
namespace Go.Proofs.Ytpnkmkenmpbekaa
open Go.RowKit

theorem zc_page : Try.zeroCells123 = (pcells fun _ => 0).toArray := by kernel_rfl
set_option maxRecDepth 100000 in
theorem pnew_any (w : World) :
    Calls Try.prog 19 #[] w fun e w' => e = .returned (.pointer (some ⟨w.heap.size, 0, none⟩)) ∧ Pgm w' w.heap.size (lay (fun _ => 0) 2 (leb 512 2)) ∧ Below w.heap.size w w' ∧ w.heap.size < w'.heap.size := by
  have hp : Pgm (w.alloc (.cells Try.zeroCells123 123)) w.heap.size (fun _ => 0) := by rw [zc_page]; exact heap_alloc_new w _
  have hb0 := (Below.refl w.heap.size w).alloc (Nat.le_refl _) (.cells Try.zeroCells123 123)
  have hz0 : w.heap.size < (w.alloc (.cells Try.zeroCells123 123)).heap.size := by simp
  go_enter Try.func19, Try.ntmps19
  go_wp2_with fail
  generalize w.alloc (.cells Try.zeroCells123 123) = W at *
  refine (setBegin_any W w.heap.size _ 512 512 rfl (by decide) hp).mono ?_
  rintro e w1 ⟨rfl, h1, g1, z1⟩
  have H1 := Lib.hid h1
  have Z1 := Lib.hid z1
  clear h1 z1 hp
  go_wp2
  go_ret
  exact ⟨rfl, H1.out, hb0.trans (below_of_grown g1 (Nat.le_refl _) (Nat.le_of_lt hz0)), by rw [Z1.out]; exact hz0⟩
def zer (n : Nat) : List UInt8 := List.replicate n 0
theorem zer_length (n : Nat) : (zer n).length = n := by simp [zer]
theorem zer_get (n j : Nat) : (zer n).getD j 0 = 0 := by
  unfold zer
  rw [List.getD_eq_getElem?_getD, List.getElem?_replicate]
  split <;> rfl
theorem zero_u8 (W : World) : (zeroValue 5).run Try.prog W = .ok (.int .u8 0) W := by kernel_rfl
theorem run_clear_pg (W : World) (ty : TypeId) (g off n c : Nat) (f : Nat → UInt8) (hp : Pgm W g f) (h : off + n ≤ 512) :
    ∃ W', (Builtin.clear_ #[42] ty #[.slice (adr g off) n c]).run Try.prog W = .ok (.tuple #[]) W' ∧ Pgm W' g (lay f off (zer n)) ∧ W.grownBy W' (some g) ∧ W'.heap.size = W.heap.size := by
  obtain ⟨ad, had⟩ := adr_some g off
  rcases Nat.eq_zero_or_pos n with h0 | h0
  · subst h0
    refine ⟨W, ?_, by rw [show zer 0 = [] from rfl, lay_nil]; exact hp, World.grownBy.refl _ _, rfl⟩
    rw [had]
    simp [Builtin.clear_, run_underlying Try.underlying42]
  · rw [adr_lt (show off < 512 by omega)]
    have hst := run_storeCells_at (P := Try.prog) g off 123 (bcells (zer n)) 0 _ W hp (by rw [bcells_length, zer_length]; simp [pcells_length]; omega) (bcells_one _)
    have hzc : (Builtin.zeroCells (Value.int .u8 0).cells n).toList = bcells (zer n) := by
      simp [Builtin.zeroCells, bcells, zer, Value.cells, Nat.mod_one, List.map_const']
    have hsp := splice_pcells f off (zer n) (by rw [zer_length]; exact h)
    simp only [Nat.add_zero, List.append_assoc] at hst
    rw [hsp] at hst
    refine ⟨W.setRow g (pcells (lay f off (zer n))).toArray, ?_, setRow_heap W g _ _ _ _ hp, setRow_grown W g _, by simp [World.setRow]⟩
    obtain ⟨m, rfl⟩ : ∃ m, n = m + 1 := ⟨n - 1, by omega⟩
    have hv := zero_u8
    generalize Value.int .u8 0 = z at hv hzc
    generalize lay f off (zer (m + 1)) = f' at *
    generalize (pcells f').toArray = R at *
    generalize bcells (zer (m + 1)) = B at *
    simp [Builtin.clear_, run_underlying Try.underlying42, hv, hzc, hst]
/-- 'clear' of a page's bytes. -/
theorem wpList_clear_pg {w : World} {ops : Array Oper} {rest : List Oper} {o : Oper} {a : Act} {Q : Exit → Act → World → Prop} (hgd : o.guard = none) (d : Operand)
    (ho : o.op = .call { callee := .builtin .clear, args := #[d], argTypes := #[42] })
    (g off n c : Nat) (f : Nat → UInt8) (hp : Pgm w g f) (hd : a.eval d = .slice (adr g off) n c) (hfit : off + n ≤ 512)
    (h : ∀ w', Pgm w' g (lay f off (zer n)) → w.grownBy w' (some g) → w'.heap.size = w.heap.size → wpList Try.prog ops Q rest (a.put o.dst (.tuple #[])) w') : wpList Try.prog ops Q (o :: rest) a w := by
  refine wpList_plain hgd fun K hK => ?_
  obtain ⟨w', hrun, h1, h2, h3⟩ := run_clear_pg w o.type g off n c f hp hfit
  unfold Oper.wp
  simp [execOp, ho, resolve, invoke, builtin, hd, hrun, Result.andThen]
  exact hK _ _ (h w' h1 h2 h3)
end Go.Proofs.Ytpnkmkenmpbekaa
