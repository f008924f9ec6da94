/-
  Package key: Bytes, of rows that are right, and of others; rows of values of the call's own.
-/
import Derived.Test.YtdlgobakoomkpaaDoorKeyC
import Derived.Test.YtdlgobakoomkpaaDoorAwake3
namespace Go.Proofs.YtdlgobakoomkpaaDoor
open Go.RowKit

theorem kbytes_yes (A : Option Addr) (c : Nat) (l : List Val) (h : l.all rightB = true) (w : World) (hl : l.length ≤ 1000000) (hr : Vrd w A l) (hok : ∀ x ∈ l, ValOk x) (hE : Env w) :
    Calls Tryd.prog 16 #[.slice A l.length c] w fun e w' => ∃ v', e = .returned (.tuple #[v', .int .i64 0]) ∧ Byt w' w.heap.size v' (encs l) ∧ Below w.heap.size w w' := by
  have := kbytes_any A c l w hl hr hok hE
  rw [show kbE l = 0 from if_pos h, show kbB l = encs l from if_pos h] at this
  exact this
theorem kbytes_no (A : Option Addr) (c : Nat) (l : List Val) (h : l.all rightB = false) (w : World) (hl : l.length ≤ 1000000) (hr : Vrd w A l) (hok : ∀ x ∈ l, ValOk x) (hE : Env w) :
    Calls Tryd.prog 16 #[.slice A l.length c] w fun e w' => ∃ v', e = .returned (.tuple #[v', .int .i64 3]) ∧ Byt w' w.heap.size v' [] ∧ Below w.heap.size w w' := by
  have := kbytes_any A c l w hl hr hok hE
  rw [show kbE l = 3 from if_neg (by simp [h]), show kbB l = [] from if_neg (by simp [h])] at this
  exact this
theorem info_val : (Tryd.prog.info? 43).map (fun i => (i.zero, i.size, i.bytes)) = some (some (.agg #[.int .u8 0, .int .i64 0, .string ⟨#[]⟩, .bool false]), 4, 40) := by kernel_rfl
theorem Vrd.front {w : World} {A : Option Addr} {l : List Val} (h : Vrd w A l) {k : Nat} (hk : k ≤ l.length) : Vrd w A (l.take k) := by
  have := Rd.front h hk
  have e : (vcells l).take (k * 4) = vcells (l.take k) := by
    conv => lhs; rw [← List.take_append_drop k l, vcells_append]
    rw [List.take_append_of_le_length (by rw [vcells_length, List.length_take, Nat.min_eq_left hk]; omega), List.take_of_length_le (by rw [vcells_length, List.length_take, Nat.min_eq_left hk]; omega)]
  rw [e] at this
  unfold Vrd
  rw [List.length_take, Nat.min_eq_left hk]
  exact this
/-- Values of the call's own, at a value. -/
def Vls (w : World) (base : Nat) (v : Value) (l : List Val) : Prop := w.ownsRow base 43 4 v l.length (vcells l)
theorem vls_of {w : World} {base n : Nat} {v : Value} {xs : List Value} {m : List Val} (h : w.ownsRow base 43 4 v n xs) (hx : xs = vcells m) : Vls w base v m := by
  have h1 := h.1
  subst hx
  rw [vcells_length] at h1
  have : m.length = n := by omega
  subst this
  exact h
theorem vls_slice {w : World} {base : Nat} {v : Value} {l : List Val} (h : Vls w base v l) : ∃ A c, v = .slice A l.length c ∧ l.length ≤ c ∧ c ≤ 9223372036854775807 ∧ Vrd w A l := by
  obtain ⟨A, c, hv, hc, hm, hr⟩ := own_form h
  unfold maxLen at hm
  exact ⟨A, c, hv, hc, hm, hr⟩
theorem ok_take {l : List Val} (h : ∀ x ∈ l, ValOk x) (k : Nat) : ∀ x ∈ l.take k, ValOk x := fun x hx => h x (List.mem_of_mem_take hx)
theorem in_take {l : List Val} (h : ∀ x ∈ l, ValOk x) : ∀ x ∈ l, In63 x := fun x hx => in63 (h x hx)
theorem right_of {l : List Val} (h : l.all rightB = true) : ∀ x ∈ l, rightB x = true := fun x hx => List.all_eq_true.1 h x hx
end Go.Proofs.YtdlgobakoomkpaaDoor
