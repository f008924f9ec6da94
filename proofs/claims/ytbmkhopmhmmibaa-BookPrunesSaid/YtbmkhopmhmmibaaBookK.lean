/-
  Columns: a row of them is cloned.
-/
import Derived.Test.YtbmkhopmhmmibaaClogC
import Derived.Test.YtbmkhopmhmmibaaOpen
namespace Go.Proofs.Ytbmkhopmhmmibaa
open Go.RowKit
set_option linter.unusedVariables false

/-- A column: its name, its kind. -/
structure Co where
  nm : ByteArray
  kind : Nat
def Co.e (c : Co) : List Value := [.string c.nm, .int .u8 (c.kind : Int)]
theorem co_len (L : List Co) : (L.flatMap Co.e).length = L.length * 2 := flat_length Co.e 2 (fun _ => rfl) L
theorem co_one (L : List Co) : ∀ u ∈ L.flatMap Co.e, u.oneCell' = true := by
  intro u hu
  rw [List.mem_flatMap] at hu
  obtain ⟨c, _, hc⟩ := hu
  simp only [Co.e, List.mem_cons, List.not_mem_nil, or_false] at hc
  rcases hc with rfl | rfl <;> rfl
theorem info_co : (Try.prog.info? 121).map (fun i => (i.zero, i.size, i.bytes)) = some (some (.agg #[.string ⟨#[]⟩, .int .u8 0]), 2, 24) := by kernel_rfl
set_option maxRecDepth 100000 in
theorem cclone_any (w : World) (A : Option Addr) (n c : Nat) (L : List Co) (hN : n = L.length) (hr : Rd w 2 A n (L.flatMap Co.e)) (hA : A = none → n = 0 ∧ c = 0) (hn : n < 1099511627778) :
    Calls Try.prog 51 #[.slice A n c] w fun e w' => ∃ v', e = .returned v' ∧ w'.ownsRow w.heap.size 121 2 v' n (L.flatMap Co.e) ∧ Below w.heap.size w w' := by
  obtain ⟨i0, hi0, hz0, hz1, hz2⟩ := info_parts4 info_co
  cases A with
  | none =>
    obtain ⟨h0, h1⟩ := hA rfl
    subst h1
    have hL : L = [] := List.eq_nil_of_length_eq_zero (by omega)
    subst hL
    have q := Lib.run_eql_slice_nil (P := Try.prog) w 40 121 none 0 0 0 0 Try.underlying40
    subst h0
    clear hr hA hN
    go_enter Try.func51, Try.ntmps51
    go_wp2
    go_ret
    exact ⟨_, rfl, World.ownsRow_nil _ _ _ _, Below.refl _ _⟩
  | some ad =>
    have HL := Lib.hid (co_len L)
    have HO := Lib.hid (co_one L)
    have HN := Lib.hid hN
    have q := Lib.run_eql_slice_nil (P := Try.prog) w 40 121 (some ad) n c 0 0 Try.underlying40
    clear hA hN
    go_enter Try.func51, Try.ntmps51
    go_wp2_with (at_builtin; refine wpList_append_src _ rfl (.tmp 5) (.tmp 6) 40 40 rfl w.heap.size 121 _ _ 2 24 Try.underlying40 hi0 hz0 hz1 hz2 rfl _ 0 [] rfl (made_nil w _ _) _ n (L.flatMap Co.e) rfl (src_rd Try.underlying40 _ (Rd.alloc hr _) (by decide) HO.out) (by simp only [maxLen]; omega) (by omega) (by simp <;> omega) ?_; intro v1 w1 hown1 hg1 ha1)
    go_ret
    exact ⟨_, rfl, by simpa using hown1, ((Below.refl _ _).alloc (Nat.le_refl _) _).trans (grown_below (made_nil w _ 2) hg1 (by simp))⟩
end Go.Proofs.Ytbmkhopmhmmibaa
