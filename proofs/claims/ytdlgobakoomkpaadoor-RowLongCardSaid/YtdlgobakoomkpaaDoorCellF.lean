/-
  Package cell: Right.
-/
import Derived.Test.YtdlgobakoomkpaaDoorCellEnv
import Derived.Test.YtdlgobakoomkpaaDoorCellC
import Derived.Test.YtdlgobakoomkpaaDoorCell2R
namespace Go.Proofs.YtdlgobakoomkpaaDoor
open Go.RowKit

theorem eqval (k i : Int) (s : ByteArray) (b : Bool) (k' i' : Int) (s' : ByteArray) (b' : Bool) (w : World) :
    (binOp .eql 43 (.agg #[.int .u8 k, .int .i64 i, .string s, .bool b]) (.agg #[.int .u8 k', .int .i64 i', .string s', .bool b'])).run Tryd.prog w = .ok (.bool ((k == k') && ((i == i') && ((s.toList == s'.toList) && (b == b'))))) w := by
  cases h1 : (k == k') <;> cases h2 : (i == i') <;> cases h3 : (s.toList == s'.toList) <;> cases h4 : (b == b') <;> go_simp

theorem ret_bool {a b : Bool} (h : a = b) : Ending.returned (.bool a) = .returned (.bool b) := by rw [h]

theorem pack_int (i : Int) (w : World) :
    Calls Tryd.prog 53 #[.iface 2 (.int .i64 i)] w fun e w' => e = .returned (.agg #[.int .u8 1, .int .i64 i, .string ⟨#[]⟩, .bool false]) ∧ ∃ c : Array Value, w' = w.alloc (.cells c 43) := pack_any (.int i) w
theorem pack_text (s : ByteArray) (w : World) :
    Calls Tryd.prog 53 #[.iface 9 (.string s)] w fun e w' => e = .returned (.agg #[.int .u8 2, .int .i64 0, .string s, .bool false]) ∧ ∃ c : Array Value, w' = w.alloc (.cells c 43) := pack_any (.text s) w
theorem pack_kind (k : Int) (w : World) :
    Calls Tryd.prog 53 #[.iface 41 (.int .u8 k)] w fun e w' => e = .returned (.agg #[.int .u8 0, .int .i64 0, .string ⟨#[]⟩, .bool false]) ∧ ∃ c : Array Value, w' = w.alloc (.cells c 43) := pack_any (.kind k) w


set_option maxHeartbeats 1000000 in
theorem right_any (v : Val) (hs : v.s.size ≤ 9223372036854775807) (w : World) (hE : Env w) :
    Calls Tryd.prog 38 #[.agg #[.int .u8 v.k, .int .i64 v.i, .string v.s, .bool v.b]] w fun e w' => e = .returned (.bool (rightB v)) ∧ Below w.heap.size w w' := by
  unfold rightB
  by_cases h0 : v.k = 0
  · rw [if_pos h0]
    obtain ⟨k, i, s, b⟩ := v
    obtain rfl : k = 0 := h0
    have g := open_any ⟨0, i, s, b⟩
    rw [opn0 rfl] at g
    simp only [Held.val] at g
    have G := Lib.hid g
    have f0 := ta_nil_S
    have qe := eqval 0 i s b 0 0 ⟨#[]⟩ false
    clear g hs
    go_enter Tryd.func38, Tryd.ntmps38
    go_wp2_with (go_at_call 51; (with_reducible refine (G.out _).mono ?_); rintro e w' ⟨rfl, o1, rfl⟩)
    go_region_held3 (fun w' => w'.cell? ⟨w.heap.size, 0, none⟩ = some (.int .u8 0) ∧ w'.cell? ⟨w.heap.size, 1, none⟩ = some (.int .i64 i) ∧ w'.cell? ⟨w.heap.size, 2, none⟩ = some (.string s) ∧ w'.cell? ⟨w.heap.size, 3, none⟩ = some (.bool b)) (simp [*, go_sem, World.cell?_alloc_past])
      ((go_at_call 53; (with_reducible refine (pack_nil _).mono ?_); rintro e w' ⟨rfl, o1, rfl⟩))
    go_wp2
    go_ret
    exact ⟨rfl, (by repeat (first | exact Below.refl _ _ | refine Below.drew ?_ | refine below_drewN ?_ _ | refine Below.al ?_ _ | refine Below.next ?_ (by assumption)))⟩
  · by_cases h1 : v.k = 1
    · rw [if_neg h0, if_pos h1]
      clear h0
      obtain ⟨k, i, s, b⟩ := v
      obtain rfl : k = 1 := h1
      have g := open_any ⟨1, i, s, b⟩
      rw [opn1 rfl] at g
      simp only [Held.val] at g
      have G := Lib.hid g
      have f0 := ta_int_S i
      have qe := eqval 1 i s b 1 i ⟨#[]⟩ false
      clear g hs
      go_enter Tryd.func38, Tryd.ntmps38
      go_wp2_with (go_at_call 51; (with_reducible refine (G.out _).mono ?_); rintro e w' ⟨rfl, o1, rfl⟩)
      go_region_held3 (fun w' => w'.cell? ⟨w.heap.size, 0, none⟩ = some (.int .u8 1) ∧ w'.cell? ⟨w.heap.size, 1, none⟩ = some (.int .i64 i) ∧ w'.cell? ⟨w.heap.size, 2, none⟩ = some (.string s) ∧ w'.cell? ⟨w.heap.size, 3, none⟩ = some (.bool b)) (simp [*, go_sem, World.cell?_alloc_past])
        ((go_at_call 53; (with_reducible refine (pack_int i _).mono ?_); rintro e w' ⟨rfl, o1, rfl⟩))
      go_wp2
      go_ret
      exact ⟨rfl, (by repeat (first | exact Below.refl _ _ | refine Below.drew ?_ | refine below_drewN ?_ _ | refine Below.al ?_ _ | refine Below.next ?_ (by assumption)))⟩
    · by_cases h2 : v.k = 2
      · rw [if_neg h0, if_neg h1, if_pos h2]
        clear h0 h1
        obtain ⟨k, i, s, b⟩ := v
        obtain rfl : k = 2 := h2
        have g := open_any ⟨2, i, s, b⟩
        rw [opn2 rfl] at g
        simp only [Held.val] at g
        have G := Lib.hid g
        have f0 := ta_text_S s
        have qe := eqval 2 i s b 2 0 s false
        clear g
        simp only [] at hs ⊢
        have gs := sound_any s hs
        cases hS : soundB s with
        | true =>
          rw [hS] at gs
          have GS := Lib.hid gs
          clear gs hs hS
          rw [Bool.and_true]
          go_enter Tryd.func38, Tryd.ntmps38
          go_wp2_with (first | (go_at_call 51; (with_reducible refine (G.out _).mono ?_); rintro e w' ⟨rfl, o1, rfl⟩) | (go_at_call 52; (with_reducible refine (GS.out _ (hE.next (by repeat (first | exact Below.refl _ _ | refine Below.drew ?_ | refine below_drewN ?_ _ | refine Below.al ?_ _ | refine Below.next ?_ (by assumption))))).mono ?_); rintro e w1 ⟨rfl, hb⟩; obtain ⟨hc, hf⟩ := bcell hb; have hz : w.heap.size < w1.heap.size := by have := hb.size; simp at this; omega))
          go_region_held3 (fun w' => w'.cell? ⟨w.heap.size, 0, none⟩ = some (.int .u8 2) ∧ w'.cell? ⟨w.heap.size, 1, none⟩ = some (.int .i64 i) ∧ w'.cell? ⟨w.heap.size, 2, none⟩ = some (.string s) ∧ w'.cell? ⟨w.heap.size, 3, none⟩ = some (.bool b)) (simp [*, go_sem, World.cell?_alloc_past])
            ((go_at_call 53; (with_reducible refine (pack_text s _).mono ?_); rintro e w' ⟨rfl, o1, rfl⟩))
          go_wp2
          go_ret
          exact ⟨rfl, (by repeat (first | exact Below.refl _ _ | refine Below.drew ?_ | refine below_drewN ?_ _ | refine Below.al ?_ _ | refine Below.next ?_ (by assumption)))⟩
        | false =>
          rw [hS] at gs
          have GS := Lib.hid gs
          clear gs hs hS qe
          rw [Bool.and_false]
          go_enter Tryd.func38, Tryd.ntmps38
          go_wp2_with (first | (go_at_call 51; (with_reducible refine (G.out _).mono ?_); rintro e w' ⟨rfl, o1, rfl⟩) | (go_at_call 52; (with_reducible refine (GS.out _ (hE.next (by repeat (first | exact Below.refl _ _ | refine Below.drew ?_ | refine below_drewN ?_ _ | refine Below.al ?_ _ | refine Below.next ?_ (by assumption))))).mono ?_); rintro e w1 ⟨rfl, hb⟩; obtain ⟨hc, hf⟩ := bcell hb; have hz : w.heap.size < w1.heap.size := by have := hb.size; simp at this; omega))
          go_ret
          exact ⟨rfl, (by repeat (first | exact Below.refl _ _ | refine Below.drew ?_ | refine below_drewN ?_ _ | refine Below.al ?_ _ | refine Below.next ?_ (by assumption)))⟩
      · by_cases h3 : v.k = 3
        · rw [if_neg h0, if_neg h1, if_neg h2, if_pos h3]
          clear h0 h1 h2
          obtain ⟨k, i, s, b⟩ := v
          obtain rfl : k = 3 := h3
          have g := open_any ⟨3, i, s, b⟩
          rw [opn3 rfl] at g
          simp only [Held.val] at g
          have G := Lib.hid g
          have f0 := ta_bool_S b
          have qe := eqval 3 i s b 3 0 ⟨#[]⟩ b
          clear g hs
          go_enter Tryd.func38, Tryd.ntmps38
          go_wp2_with (go_at_call 51; (with_reducible refine (G.out _).mono ?_); rintro e w' ⟨rfl, o1, rfl⟩)
          go_region_held3 (fun w' => w'.cell? ⟨w.heap.size, 0, none⟩ = some (.int .u8 3) ∧ w'.cell? ⟨w.heap.size, 1, none⟩ = some (.int .i64 i) ∧ w'.cell? ⟨w.heap.size, 2, none⟩ = some (.string s) ∧ w'.cell? ⟨w.heap.size, 3, none⟩ = some (.bool b)) (simp [*, go_sem, World.cell?_alloc_past])
            ((go_at_call 53; (with_reducible refine (pack_bool b _).mono ?_); rintro e w' ⟨rfl, o1, rfl⟩))
          go_wp2
          go_ret
          exact ⟨rfl, (by repeat (first | exact Below.refl _ _ | refine Below.drew ?_ | refine below_drewN ?_ _ | refine Below.al ?_ _ | refine Below.next ?_ (by assumption)))⟩
        · rw [if_neg h0, if_neg h1, if_neg h2, if_neg h3]
          obtain ⟨k, i, s, b⟩ := v
          have g := open_any ⟨k, i, s, b⟩
          rw [opn4 h0 h3 h1 h2] at g
          simp only [Held.val] at g
          have G := Lib.hid g
          have f0 := ta_kind_S k
          have qe := eqval k i s b 0 0 ⟨#[]⟩ false
          have k0 : (k == 0) = false := by simpa using h0
          clear g hs h0 h1 h2 h3
          go_enter Tryd.func38, Tryd.ntmps38
          go_wp2_with (go_at_call 51; (with_reducible refine (G.out _).mono ?_); rintro e w' ⟨rfl, o1, rfl⟩)
          go_region_held3 (fun w' => w'.cell? ⟨w.heap.size, 0, none⟩ = some (.int .u8 k) ∧ w'.cell? ⟨w.heap.size, 1, none⟩ = some (.int .i64 i) ∧ w'.cell? ⟨w.heap.size, 2, none⟩ = some (.string s) ∧ w'.cell? ⟨w.heap.size, 3, none⟩ = some (.bool b)) (simp [*, go_sem, World.cell?_alloc_past])
            ((go_at_call 53; (with_reducible refine (pack_kind k _).mono ?_); rintro e w' ⟨rfl, o1, rfl⟩))
          go_wp2
          go_ret
          exact ⟨rfl, (by repeat (first | exact Below.refl _ _ | refine Below.drew ?_ | refine below_drewN ?_ _ | refine Below.al ?_ _ | refine Below.next ?_ (by assumption)))⟩
end Go.Proofs.YtdlgobakoomkpaaDoor
