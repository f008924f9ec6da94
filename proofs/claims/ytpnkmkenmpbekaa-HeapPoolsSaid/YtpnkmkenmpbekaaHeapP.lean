/-
  What a heap's calls answer, over its pages as lists of slots; no program.
-/
import Derived.Test.YtpnkmkenmpbekaaPageR
namespace Go.Proofs.Ytpnkmkenmpbekaa
open Go.RowKit

/-- The first page with so much room. -/
def hfind (Ps : List Pg) (m : Int) : Option Nat := Ps.findIdx? fun P => decide (m ≤ P.room)
theorem hfind_some {Ps : List Pg} {m : Int} {i : Nat} (h : hfind Ps m = some i) : ∃ P, Ps[i]? = some P ∧ m ≤ P.room := by
  unfold hfind at h
  rw [List.findIdx?_eq_some_iff_getElem] at h
  obtain ⟨hi, h1, _⟩ := h
  exact ⟨Ps[i], List.getElem?_eq_getElem hi, of_decide_eq_true h1⟩
theorem hfind_first {Ps : List Pg} {m : Int} {i j : Nat} {P : Pg} (h : hfind Ps m = some i) (hj : Ps[j]? = some P) (hm : m ≤ P.room) : i ≤ j := by
  unfold hfind at h
  rw [List.findIdx?_eq_some_iff_getElem] at h
  obtain ⟨hi, _, h2⟩ := h
  by_cases hlt : j < i
  · have := h2 j hlt
    have e : Ps[j]'(by omega) = P := by
      have := List.getElem?_eq_getElem (l := Ps) (i := j) (by omega)
      rw [hj] at this
      injection this with this
      exact this.symm
    rw [e] at this
    simp at this
    omega
  · omega
theorem hfind_none {Ps : List Pg} {m : Int} (h : hfind Ps m = none) {j : Nat} {P : Pg} (hj : Ps[j]? = some P) : P.room < m := by
  unfold hfind at h
  rw [List.findIdx?_eq_none_iff] at h
  have := h P (List.mem_of_getElem? hj)
  simpa using this
theorem room_le (P : Pg) : -1 ≤ P.room ∧ P.room ≤ 512 := by unfold Pg.room; omega
/-- What Insert answers, and what it leaves. -/
def hinE (Ps : List Pg) (n : Nat) (v : Ver) : Int := if v.ok then (match hfind Ps v.d.length with | some _ => 0 | none => if n = 0 then 12 else 0) else 3
def hinAt (Ps : List Pg) (v : Ver) : Nat × Nat := match hfind Ps v.d.length with
  | some i => (i, (Ps.getD i Pg0).low)
  | none => (Ps.length, 0)
def hinP (Ps : List Pg) (v : Ver) : List Pg := match hfind Ps v.d.length with
  | some i => Ps.set i (insP (Ps.getD i Pg0) v)
  | none => Ps ++ [insP Pg0 v]
def hinL (Ps : List Pg) (n : Nat) (v : Ver) : Nat := match hfind Ps v.d.length with
  | some _ => n
  | none => n - 1
theorem insE_ok {P : Pg} {v : Ver} (hok : v.ok) (hr : (v.d.length : Int) ≤ P.room) : insE P v = 0 := by unfold insE; rw [if_pos hok, if_neg (by omega)]
theorem insE_bad {P : Pg} {v : Ver} (hok : ¬ v.ok) : insE P v = 3 := by unfold insE; rw [if_neg hok]
theorem insN_ok {P : Pg} {v : Ver} (h : insE P v = 0) : insN P v = insP P v := by unfold insN; rw [if_pos h]
theorem insN_bad {P : Pg} {v : Ver} (h : insE P v ≠ 0) : insN P v = P := by unfold insN; rw [if_neg h]
theorem insS_ok {P : Pg} {v : Ver} (h : insE P v = 0) : insS P v = (P.low : Int) := by unfold insS; rw [if_pos h]
theorem Ver.ok_len {v : Ver} (h : v.ok) : v.d.length ≤ 200 := (of_decide_eq_true (show vdB v.r v.x v.m v.p v.s v.d.length = true from h)).2.2.2.2
theorem room0 : Pg0.room = 474 := by decide
theorem low0 : Pg0.low = 0 := by decide
end Go.Proofs.Ytpnkmkenmpbekaa
