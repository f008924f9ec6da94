/-
  Package cell: packing, truth, And, Or, Not.
-/
import Derived.Test.YtdlgobakoomkpaaDoorCellB
namespace Go.Proofs.YtdlgobakoomkpaaDoor
open Go.RowKit

/-- What pack makes. -/
def packv : Held → Val
  | .bool b => ⟨3, 0, ⟨#[]⟩, b⟩
  | .int i => ⟨1, i, ⟨#[]⟩, false⟩
  | .text s => ⟨2, 0, s, false⟩
  | _ => ⟨0, 0, ⟨#[]⟩, false⟩

set_option maxHeartbeats 400000 in
theorem pack_any (x : Held) (w : World) :
    Calls Tryd.prog 53 #[x.val] w fun e w' => e = .returned (.agg #[.int .u8 (packv x).k, .int .i64 (packv x).i, .string (packv x).s, .bool (packv x).b]) ∧ ∃ c : Array Value, w' = w.alloc (.cells c 43) := by
  cases x with
  | nil =>
    have f1 := ta_nil_B
    have f2 := ta_nil_I
    have f3 := ta_nil_S
    simp only [Held.val, packv]
    go_enter Tryd.func53, Tryd.ntmps53
    go_wp2
    refine bodyPost_ret (v := .agg #[.int .u8 0, .int .i64 0, .string ⟨#[]⟩, .bool false]) (by simp [results, Tryd.results53, go_sem]) rfl ?_
    exact ⟨rfl, _, rfl⟩
  | bool x =>
    have f1 := ta_bool_B x
    simp only [Held.val, packv]
    go_enter Tryd.func53, Tryd.ntmps53
    go_wp2
    refine bodyPost_ret (v := .agg #[.int .u8 3, .int .i64 0, .string ⟨#[]⟩, .bool x]) (by simp [results, Tryd.results53, go_sem]) rfl ?_
    exact ⟨rfl, _, rfl⟩
  | int x =>
    have f1 := ta_int_B x
    have f2 := ta_int_I x
    simp only [Held.val, packv]
    go_enter Tryd.func53, Tryd.ntmps53
    go_wp2
    refine bodyPost_ret (v := .agg #[.int .u8 1, .int .i64 x, .string ⟨#[]⟩, .bool false]) (by simp [results, Tryd.results53, go_sem]) rfl ?_
    exact ⟨rfl, _, rfl⟩
  | text x =>
    have f1 := ta_text_B x
    have f2 := ta_text_I x
    have f3 := ta_text_S x
    simp only [Held.val, packv]
    go_enter Tryd.func53, Tryd.ntmps53
    go_wp2
    refine bodyPost_ret (v := .agg #[.int .u8 2, .int .i64 0, .string x, .bool false]) (by simp [results, Tryd.results53, go_sem]) rfl ?_
    exact ⟨rfl, _, rfl⟩
  | kind x =>
    have f1 := ta_kind_B x
    have f2 := ta_kind_I x
    have f3 := ta_kind_S x
    simp only [Held.val, packv]
    go_enter Tryd.func53, Tryd.ntmps53
    go_wp2
    refine bodyPost_ret (v := .agg #[.int .u8 0, .int .i64 0, .string ⟨#[]⟩, .bool false]) (by simp [results, Tryd.results53, go_sem]) rfl ?_
    exact ⟨rfl, _, rfl⟩
theorem pack_bool (b : Bool) (w : World) :
    Calls Tryd.prog 53 #[.iface 4 (.bool b)] w fun e w' => e = .returned (.agg #[.int .u8 3, .int .i64 0, .string ⟨#[]⟩, .bool b]) ∧ ∃ c : Array Value, w' = w.alloc (.cells c 43) := pack_any (.bool b) w
theorem pack_nil (w : World) :
    Calls Tryd.prog 53 #[.nilIface] w fun e w' => e = .returned (.agg #[.int .u8 0, .int .i64 0, .string ⟨#[]⟩, .bool false]) ∧ ∃ c : Array Value, w' = w.alloc (.cells c 43) := pack_any .nil w

/-- Is it truth, known or not? Is it known to be so? -/
def isTruth : Held → Bool
  | .nil => true
  | .bool _ => true
  | _ => false
def isIt (x : Held) (want : Bool) : Bool :=
  match x with
  | .bool b => b == want
  | _ => false

end Go.Proofs.YtdlgobakoomkpaaDoor
