/-
  Package cell: Right.
-/
import Derived.Test.YtcloajmcfacfnabDoorCellEnv
import Derived.Test.YtcloajmcfacfnabDoorCellC
import Derived.Test.YtcloajmcfacfnabDoorCell2R
namespace Go.Proofs.YtcloajmcfacfnabDoor
open Go.RowKit

theorem eqval (k i : Int) (s : ByteArray) (b : Bool) (k' i' : Int) (s' : ByteArray) (b' : Bool) (w : World) :
    (binOp .eql 24 (.agg #[.int .u8 k, .int .i64 i, .string s, .bool b]) (.agg #[.int .u8 k', .int .i64 i', .string s', .bool b'])).run Tryd.prog w = .ok (.bool ((k == k') && ((i == i') && ((s.toList == s'.toList) && (b == b'))))) w := by
  cases h1 : (k == k') <;> cases h2 : (i == i') <;> cases h3 : (s.toList == s'.toList) <;> cases h4 : (b == b') <;> go_simp

theorem ret_bool {a b : Bool} (h : a = b) : Ending.returned (.bool a) = .returned (.bool b) := by rw [h]

theorem pack_int (i : Int) (w : World) :
    Calls Tryd.prog 24 #[.iface 2 (.int .i64 i)] w fun e w' => e = .returned (.agg #[.int .u8 1, .int .i64 i, .string ⟨#[]⟩, .bool false]) ∧ ∃ c : Array Value, w' = w.alloc (.cells c 24) := pack_any (.int i) w
theorem pack_text (s : ByteArray) (w : World) :
    Calls Tryd.prog 24 #[.iface 9 (.string s)] w fun e w' => e = .returned (.agg #[.int .u8 2, .int .i64 0, .string s, .bool false]) ∧ ∃ c : Array Value, w' = w.alloc (.cells c 24) := pack_any (.text s) w
theorem pack_kind (k : Int) (w : World) :
    Calls Tryd.prog 24 #[.iface 22 (.int .u8 k)] w fun e w' => e = .returned (.agg #[.int .u8 0, .int .i64 0, .string ⟨#[]⟩, .bool false]) ∧ ∃ c : Array Value, w' = w.alloc (.cells c 24) := pack_any (.kind k) w


end Go.Proofs.YtcloajmcfacfnabDoor
