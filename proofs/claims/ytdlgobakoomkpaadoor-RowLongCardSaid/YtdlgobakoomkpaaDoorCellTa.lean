/-
  What an assertion to bool, int64 or string answers, of each thing that 'any' holds here.
-/
import Derived.Test.YtdlgobakoomkpaaDoorProg
import Derived.WalkSpells
namespace Go.Proofs.YtdlgobakoomkpaaDoor
open Go.RowKit

theorem ta_nil_B (w : World) : (Instr.typeAssert (.nilIface) 20 4 true).run Tryd.prog w = .ok (.tuple #[.bool false, .bool false]) w := by kernel_rfl
theorem ta_nil_I (w : World) : (Instr.typeAssert (.nilIface) 20 2 true).run Tryd.prog w = .ok (.tuple #[.int .i64 0, .bool false]) w := by kernel_rfl
theorem ta_nil_S (w : World) : (Instr.typeAssert (.nilIface) 20 9 true).run Tryd.prog w = .ok (.tuple #[.string ByteArray.empty, .bool false]) w := by kernel_rfl
theorem ta_bool_B (x : Bool) (w : World) : (Instr.typeAssert (.iface 4 (.bool x)) 20 4 true).run Tryd.prog w = .ok (.tuple #[.bool x, .bool true]) w := by kernel_rfl
theorem tp_bool_B (x : Bool) (w : World) : (Instr.typeAssert (.iface 4 (.bool x)) 20 4 false).run Tryd.prog w = .ok (.bool x) w := by kernel_rfl
theorem ta_bool_I (x : Bool) (w : World) : (Instr.typeAssert (.iface 4 (.bool x)) 20 2 true).run Tryd.prog w = .ok (.tuple #[.int .i64 0, .bool false]) w := by kernel_rfl
theorem ta_bool_S (x : Bool) (w : World) : (Instr.typeAssert (.iface 4 (.bool x)) 20 9 true).run Tryd.prog w = .ok (.tuple #[.string ByteArray.empty, .bool false]) w := by kernel_rfl
theorem ta_int_B (x : Int) (w : World) : (Instr.typeAssert (.iface 2 (.int .i64 x)) 20 4 true).run Tryd.prog w = .ok (.tuple #[.bool false, .bool false]) w := by kernel_rfl
theorem ta_int_I (x : Int) (w : World) : (Instr.typeAssert (.iface 2 (.int .i64 x)) 20 2 true).run Tryd.prog w = .ok (.tuple #[.int .i64 x, .bool true]) w := by kernel_rfl
theorem tp_int_I (x : Int) (w : World) : (Instr.typeAssert (.iface 2 (.int .i64 x)) 20 2 false).run Tryd.prog w = .ok (.int .i64 x) w := by kernel_rfl
theorem ta_int_S (x : Int) (w : World) : (Instr.typeAssert (.iface 2 (.int .i64 x)) 20 9 true).run Tryd.prog w = .ok (.tuple #[.string ByteArray.empty, .bool false]) w := by kernel_rfl
theorem ta_text_B (x : ByteArray) (w : World) : (Instr.typeAssert (.iface 9 (.string x)) 20 4 true).run Tryd.prog w = .ok (.tuple #[.bool false, .bool false]) w := by kernel_rfl
theorem ta_text_I (x : ByteArray) (w : World) : (Instr.typeAssert (.iface 9 (.string x)) 20 2 true).run Tryd.prog w = .ok (.tuple #[.int .i64 0, .bool false]) w := by kernel_rfl
theorem ta_text_S (x : ByteArray) (w : World) : (Instr.typeAssert (.iface 9 (.string x)) 20 9 true).run Tryd.prog w = .ok (.tuple #[.string x, .bool true]) w := by kernel_rfl
theorem tp_text_S (x : ByteArray) (w : World) : (Instr.typeAssert (.iface 9 (.string x)) 20 9 false).run Tryd.prog w = .ok (.string x) w := by kernel_rfl
theorem ta_kind_B (x : Int) (w : World) : (Instr.typeAssert (.iface 41 (.int .u8 x)) 20 4 true).run Tryd.prog w = .ok (.tuple #[.bool false, .bool false]) w := by kernel_rfl
theorem ta_kind_I (x : Int) (w : World) : (Instr.typeAssert (.iface 41 (.int .u8 x)) 20 2 true).run Tryd.prog w = .ok (.tuple #[.int .i64 0, .bool false]) w := by kernel_rfl
theorem ta_kind_S (x : Int) (w : World) : (Instr.typeAssert (.iface 41 (.int .u8 x)) 20 9 true).run Tryd.prog w = .ok (.tuple #[.string ByteArray.empty, .bool false]) w := by kernel_rfl
end Go.Proofs.YtdlgobakoomkpaaDoor
