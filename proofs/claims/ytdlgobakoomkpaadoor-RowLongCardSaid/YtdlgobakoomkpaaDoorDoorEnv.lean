/-
  From a law's row to the walks: the tables that the row lists; a value of api that came in, field by field.
-/
import Derived.Test.YtdlgobakoomkpaaDoorRows
import Derived.Test.YtdlgobakoomkpaaDoorCellEnv
import Derived.Lib.LaidU8T
import Derived.Lib.LaidTab
import Derived.Lib.SmallJoins
import Derived.Stop.LaidErr
import Derived.MakeChecks
import Derived.ProofKit
namespace Go.Proofs.YtdlgobakoomkpaaDoor
open Go.ChangeShapes Go.WideShapes Go.ChangeAt Go.RowKit

/-- What the rows list. -/
def listed : List (String × DataW Unit) := [("unicode/utf8.acceptRanges", Rows.laid_unicode_utf8_acceptRanges), ("unicode/utf8.first", Rows.laid_unicode_utf8_first)]
theorem accept_datum : Rows.laid_unicode_utf8_acceptRanges (H := Unit) = Lib.acceptData := by kernel_rfl
theorem first_datum : Rows.laid_unicode_utf8_first = Lib.firstData := by kernel_rfl

theorem env_of {W : World} (hL : laidMetH Tryd.prog listed W) (hsh : W.ShapedOpen Tryd.prog) : Env W := by
  rw [MakeChecks.laidMetH_plain _ _ _ (by kernel_rfl)] at hL
  have h0 : laidMet Tryd.prog listed W := hL
  unfold listed at hL
  rw [accept_datum, first_datum] at hL
  have hl := hL
  have hlow : Tryd.prog.globals.size ≤ W.heap.size := by
    rw [gsize]
    obtain ⟨⟨z5, t5⟩, hz⟩ := Option.isSome_iff_exists.1 (show (((begin Tryd.prog (fun _ _ => 0) default).world.heap[2]?).bind Obj.row?).isSome = true by kernel_rfl)
    obtain ⟨cs, hh, _, _⟩ := hsh.1 2 z5 t5 (by rw [gsize]; decide) hz
    have := (Array.getElem?_eq_some_iff.1 hh).1
    omega
  exact ⟨utf8Tabs_of_readsT (U8Types.of196 Tryd.laysValid) ⟨by kernel_rfl, by kernel_rfl, by kernel_rfl, by kernel_rfl, by kernel_rfl, by kernel_rfl, by kernel_rfl⟩ (Lib.laidMet.reads hl (.tail _ (.head _))) (Lib.laidMet.reads hl (.head _)), hlow⟩

section
variable {H : Type} {enc : TypeId × Value → H} {w : World} {base : Nat} {spare : Nat → Bool} {held : Bool}
/-- A value of api reads as its four fields. -/
abbrev valData (x : Val) : DataW H := .agg [.lit (.int .u8 x.k), .lit (.int .i64 x.i), .lit (.string x.s.data.toList), .lit (.bool x.b)]
structure ValOk (x : Val) : Prop where
  k : (Lit.int .u8 x.k).wf = true
  i : (Lit.int .i64 x.i).wf = true
  s : x.s.size ≤ maxLen
theorem cells_val : Tryd.prog.cellsOf 43 = 4 := by kernel_rfl
set_option maxRecDepth 100000 in
theorem open_val {r : Reach} {b0 : Nat} {v : Value} {d : DataW H} {p : List MemPlace} (hv : Value.okWide Tryd.prog w r b0 43 v) (h : DataW.Trod enc Tryd.prog w base spare held 43 v d p) :
    ∃ x : Val, v = .agg #[.int .u8 x.k, .int .i64 x.i, .string x.s, .bool x.b] ∧ d = valData x ∧ p = [] ∧ ValOk x := by
  obtain ⟨v0, v1, v2, v3, y0, y1, y2, y3, n, rfl, rfl, rfl, h0, h1, h2, h3⟩ := Joins.open_agg4 Tryd.underlying43 (by kernel_rfl) cells_val hv h
  obtain ⟨k, e0, rfl, w0⟩ := DataW.trod_int Tryd.underlying41 h0
  obtain ⟨i, e1, rfl, w1⟩ := DataW.trod_int Tryd.underlying2 h1
  obtain ⟨s, e2, rfl, w2⟩ := DataW.trod_string Tryd.underlying9 h2
  obtain ⟨b, e3, rfl⟩ := DataW.trod_bool Tryd.underlying4 h3
  obtain rfl := (List.cons.inj e0).1
  obtain rfl := (List.cons.inj e1).1
  obtain rfl := (List.cons.inj e2).1
  obtain rfl := (List.cons.inj e3).1
  exact ⟨⟨k, i, s, b⟩, rfl, rfl, rfl, ⟨w0, w1, w2⟩⟩
set_option maxRecDepth 100000 in
theorem shut_val {x : Val} (h : ValOk x) : DataW.Trod enc Tryd.prog w base spare held 43 (.agg #[.int .u8 x.k, .int .i64 x.i, .string x.s, .bool x.b]) (valData x) [] :=
  Joins.shut_agg4 (y0 := (.lit (.int .u8 x.k), [])) (y1 := (.lit (.int .i64 x.i), [])) (y2 := (.lit (.string x.s.data.toList), [])) (y3 := (.lit (.bool x.b), [])) Tryd.underlying43 (by kernel_rfl) cells_val
    (shut_int Tryd.underlying41 h.k) (shut_int Tryd.underlying2 h.i) (ChangeMaps.shut_string Tryd.underlying9 h.s) (shut_bool Tryd.underlying4 x.b)
end
end Go.Proofs.YtdlgobakoomkpaaDoor
