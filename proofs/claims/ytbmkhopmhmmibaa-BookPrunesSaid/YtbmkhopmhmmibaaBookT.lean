/-
  Indexes and Keep.
-/
import Derived.Test.YtbmkhopmhmmibaaBookS
namespace Go.Proofs.Ytbmkhopmhmmibaa
open Go.RowKit
set_option linter.unusedVariables false

def ixP (S : List Nat) (own xmax : Nat) (R : List Nat) (id : Nat) (i : Nat × Ix) : Bool := decide (i.2.te.id = id) && visI 1 S own xmax R i.2
def kpP (S : List Nat) (id : Nat) (i : Nat × Ix) : Bool := decide (i.2.te.id = id) && !decide (stt 1 S i.2.e.xmin = 3)
set_option maxRecDepth 100000 in
set_option maxHeartbeats 1000000 in
theorem indexes_any (w : World) (B k g own xmin xmax bb last id : Nat) (T : List Tb) (I : List (Nat × Ix)) (S R : List Nat) (F : Nat → Prop) (v vT vI : Value) (hl : LG w g 1 S F) (hR : w.ownsRow bb 28 1 v R.length (ucells .u64 R)) (hn : R.length ≤ 9223372036854775807) (hB : Bk B w k last T I vT vI) (hI16 : I.length ≤ 16) :
    Calls Try.prog 39 #[.pointer (some ⟨k, 0, none⟩), .pointer (some ⟨g, 0, none⟩), .agg #[.int .u64 (own : Int), .int .u64 (xmin : Int), .int .u64 (xmax : Int), v], .int .u64 (id : Int)] w fun e w' => ∃ v', e = .returned v' ∧ w'.ownsRow w.heap.size 60 6 v' (I.filter (ixP S own xmax R id)).length ((I.filter (ixP S own xmax R id)).flatMap ixc) ∧ Below w.heap.size w w' := by
  obtain ⟨A, c, hv, _, _, _⟩ := own_form hR
  subst hv
  have y1 : Below w.heap.size w (w.alloc (.cells #[.pointer (some ⟨g, 0, none⟩)] 24)) := (Below.refl _ _).al _
  have y2 := y1.al (.cells #[.int .u64 (own : Int), .int .u64 (xmin : Int), .int .u64 (xmax : Int), .slice A R.length c] 50)
  have y3 := y2.al (.cells #[.int .u64 (id : Int)] 28)
  have b1 := ((Bx.new w 24 #[.pointer (some ⟨g, 0, none⟩)] [.pointer (some ⟨g, 0, none⟩)] rfl).alloc (.cells #[.int .u64 (own : Int), .int .u64 (xmin : Int), .int .u64 (xmax : Int), .slice A R.length c] 50)).alloc (.cells #[.int .u64 (id : Int)] 28)
  have b2 := (Bx.new (w.alloc (.cells #[.pointer (some ⟨g, 0, none⟩)] 24)) 50 #[.int .u64 (own : Int), .int .u64 (xmin : Int), .int .u64 (xmax : Int), .slice A R.length c] [.int .u64 (own : Int), .int .u64 (xmin : Int), .int .u64 (xmax : Int), .slice A R.length c] rfl).alloc (.cells #[.int .u64 (id : Int)] 28)
  have b3 := (Bx.new ((w.alloc (.cells #[.pointer (some ⟨g, 0, none⟩)] 24)).alloc (.cells #[.int .u64 (own : Int), .int .u64 (xmin : Int), .int .u64 (xmax : Int), .slice A R.length c] 50)) 28 #[.int .u64 (id : Int)] [.int .u64 (id : Int)] rfl)
  rw [alloc_size] at b2
  rw [alloc_size, alloc_size] at b3
  have HC := Lib.hid (choose_x _ B k g own xmin xmax bb last w.heap.size (w.heap.size + 1) (w.heap.size + 1 + 1) id T I S R F _ vT vI (hl.below y3) (own_below hR y3) hn (hB.below y3) hI16 (b3.cell 0) (b1.cell 0) b2)
  have HY := Lib.hid y3
  clear b1 b2 b3 hl hR hB y1 y2 y3
  go_enter Try.func39, Try.ntmps39
  go_wp2_with (go_at_call 73; (with_reducible refine (HC.out).mono ?_); rintro e w1 ⟨v1, rfl, o1, x1⟩)
  go_ret
  exact ⟨_, rfl, own_le o1 HY.out.size, HY.out.next x1⟩
set_option maxRecDepth 100000 in
set_option maxHeartbeats 1000000 in
theorem keep_any (w : World) (B k g last id : Nat) (T : List Tb) (I : List (Nat × Ix)) (S : List Nat) (F : Nat → Prop) (vT vI : Value) (hl : LG w g 1 S F) (hB : Bk B w k last T I vT vI) (hI16 : I.length ≤ 16) :
    Calls Try.prog 70 #[.pointer (some ⟨k, 0, none⟩), .pointer (some ⟨g, 0, none⟩), .int .u64 (id : Int)] w fun e w' => ∃ v', e = .returned v' ∧ w'.ownsRow w.heap.size 60 6 v' (I.filter (kpP S id)).length ((I.filter (kpP S id)).flatMap ixc) ∧ Below w.heap.size w w' := by
  have y1 : Below w.heap.size w (w.alloc (.cells #[.pointer (some ⟨g, 0, none⟩)] 24)) := (Below.refl _ _).al _
  have y3 := y1.al (.cells #[.int .u64 (id : Int)] 28)
  have b1 := (Bx.new w 24 #[.pointer (some ⟨g, 0, none⟩)] [.pointer (some ⟨g, 0, none⟩)] rfl).alloc (.cells #[.int .u64 (id : Int)] 28)
  have b3 := (Bx.new (w.alloc (.cells #[.pointer (some ⟨g, 0, none⟩)] 24)) 28 #[.int .u64 (id : Int)] [.int .u64 (id : Int)] rfl)
  rw [alloc_size] at b3
  have HC := Lib.hid (choose_k _ B k g last w.heap.size (w.heap.size + 1) id T I S F vT vI (hl.below y3) (hB.below y3) hI16 (b3.cell 0) (b1.cell 0))
  have HY := Lib.hid y3
  clear b1 b3 hl hB y1 y3
  go_enter Try.func70, Try.ntmps70
  go_wp2_with (go_at_call 73; (with_reducible refine (HC.out).mono ?_); rintro e w1 ⟨v1, rfl, o1, x1⟩)
  go_ret
  exact ⟨_, rfl, own_le o1 HY.out.size, HY.out.next x1⟩
end Go.Proofs.Ytbmkhopmhmmibaa
