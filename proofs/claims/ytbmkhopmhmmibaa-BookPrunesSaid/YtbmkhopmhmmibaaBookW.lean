/-
  Table, Indexes, Keep and CreateIndex of a book beside its log.
-/
import Derived.Test.YtbmkhopmhmmibaaBookU
namespace Go.Proofs.Ytbmkhopmhmmibaa
open Go.RowKit
set_option linter.unusedVariables false

section
variable {B g k last : Nat} {w0 w : World} {S : List Nat} {T : List Tb} {I : List (Nat × Ix)} {Q : List (Value × List Nat)}
theorem len_max {n : Nat} {e : TypeId} {v : Value} {xs : List Value} {b sz : Nat} (h : w.ownsRow b e sz v n xs) : n ≤ 9223372036854775807 := by
  obtain ⟨_, _, _, hx1, hx2, _⟩ := own_form h
  unfold maxLen at hx2
  omega
theorem wd_tabN (h : Wd B w0 w g S k last T I Q) (own xmin xmax : Nat) (v : Value) (R : List Nat) (n : ByteArray) (hv : (v, R) ∈ Q) (h8 : ∀ t ∈ T, t.cs.length ≤ 8) (hf : findTb S own xmax R n T = none) (io im ix : Int) (e1 : (own : Int) = io) (e2 : (xmin : Int) = im) (e3 : (xmax : Int) = ix) :
    Calls Try.prog 38 #[.pointer (some ⟨k, 0, none⟩), .pointer (some ⟨g, 0, none⟩), .agg #[.int .u64 io, .int .u64 im, .int .u64 ix, v], .string n] w fun e w' => e = .returned (.tuple #[.agg #[.int .u64 0, .string ⟨#[]⟩, .slice none 0 0, .int .u64 0, .int .u64 0], .bool false]) ∧ Wd B w0 w' g S k last T I Q ∧ Below w.heap.size w w' := by
  subst e1 e2 e3
  obtain ⟨F, vT, vI, hl, hm, hb, hq⟩ := h
  refine (table_any w B k g own xmin xmax B last T I S R F v vT vI n hl (hq _ hv).1 (len_max (hq _ hv).1) hb hm.size h8).mono ?_
  rintro e w' ⟨h1, x⟩
  rw [hf] at h1
  exact ⟨h1, Wd.next ⟨F, vT, vI, hl, hm, hb, hq⟩ x, x⟩
theorem wd_tabS (h : Wd B w0 w g S k last T I Q) (own xmin xmax : Nat) (v : Value) (R : List Nat) (n : ByteArray) (t : Tb) (hv : (v, R) ∈ Q) (h8 : ∀ t ∈ T, t.cs.length ≤ 8) (hf : findTb S own xmax R n T = some t) (io im ix : Int) (e1 : (own : Int) = io) (e2 : (xmin : Int) = im) (e3 : (xmax : Int) = ix) (ii ij ik : Int) (e4 : (t.e.id : Int) = ii) (e5 : (t.e.xmin : Int) = ij) (e6 : (t.e.xmax : Int) = ik) (nm : ByteArray) (e7 : t.e.nm = nm) (m : Nat) (e8 : t.cs.length = m) :
    Calls Try.prog 38 #[.pointer (some ⟨k, 0, none⟩), .pointer (some ⟨g, 0, none⟩), .agg #[.int .u64 io, .int .u64 im, .int .u64 ix, v], .string n] w fun e w' => ∃ A c, e = .returned (.tuple #[.agg #[.int .u64 ii, .string nm, .slice A m c, .int .u64 ij, .int .u64 ik], .bool true]) ∧ w'.ownsRow w.heap.size 121 2 (.slice A m c) m (t.cs.flatMap Co.e) ∧ Wd B w0 w' g S k last T I Q ∧ Below w.heap.size w w' := by
  subst e1 e2 e3 e4 e5 e6 e7 e8
  obtain ⟨F, vT, vI, hl, hm, hb, hq⟩ := h
  refine (table_any w B k g own xmin xmax B last T I S R F v vT vI n hl (hq _ hv).1 (len_max (hq _ hv).1) hb hm.size h8).mono ?_
  rintro e w' ⟨h1, x⟩
  rw [hf] at h1
  obtain ⟨v', rfl, ho⟩ := h1
  obtain ⟨A, c, rfl, _⟩ := own_form ho
  exact ⟨A, c, rfl, ho, Wd.next ⟨F, vT, vI, hl, hm, hb, hq⟩ x, x⟩
theorem wd_ixs (h : Wd B w0 w g S k last T I Q) (own xmin xmax id : Nat) (v : Value) (R : List Nat) (hv : (v, R) ∈ Q) (hI : I.length ≤ 16) (io im ix ii : Int) (e1 : (own : Int) = io) (e2 : (xmin : Int) = im) (e3 : (xmax : Int) = ix) (e4 : (id : Int) = ii) (n : Nat) (hn : (I.filter (ixP S own xmax R id)).length = n) :
    Calls Try.prog 39 #[.pointer (some ⟨k, 0, none⟩), .pointer (some ⟨g, 0, none⟩), .agg #[.int .u64 io, .int .u64 im, .int .u64 ix, v], .int .u64 ii] w fun e w' => ∃ A c, e = .returned (.slice A n c) ∧ w'.ownsRow w.heap.size 60 6 (.slice A n c) n ((I.filter (ixP S own xmax R id)).flatMap ixc) ∧ Wd B w0 w' g S k last T I Q ∧ Below w.heap.size w w' := by
  subst e1 e2 e3 e4 hn
  obtain ⟨F, vT, vI, hl, hm, hb, hq⟩ := h
  refine (indexes_any w B k g own xmin xmax B last id T I S R F v vT vI hl (hq _ hv).1 (len_max (hq _ hv).1) hb hI).mono ?_
  rintro e w' ⟨v', rfl, ho, x⟩
  obtain ⟨A, c, rfl, _⟩ := own_form ho
  exact ⟨A, c, rfl, ho, Wd.next ⟨F, vT, vI, hl, hm, hb, hq⟩ x, x⟩
theorem wd_keep (h : Wd B w0 w g S k last T I Q) (id : Nat) (hI : I.length ≤ 16) (n : Nat) (hn : (I.filter (kpP S id)).length = n) :
    Calls Try.prog 70 #[.pointer (some ⟨k, 0, none⟩), .pointer (some ⟨g, 0, none⟩), .int .u64 (id : Int)] w fun e w' => ∃ A c, e = .returned (.slice A n c) ∧ w'.ownsRow w.heap.size 60 6 (.slice A n c) n ((I.filter (kpP S id)).flatMap ixc) ∧ Wd B w0 w' g S k last T I Q ∧ Below w.heap.size w w' := by
  subst hn
  obtain ⟨F, vT, vI, hl, hm, hb, hq⟩ := h
  refine (keep_any w B k g last id T I S F vT vI hl hb hI).mono ?_
  rintro e w' ⟨v', rfl, ho, x⟩
  obtain ⟨A, c, rfl, _⟩ := own_form ho
  exact ⟨A, c, rfl, ho, Wd.next ⟨F, vT, vI, hl, hm, hb, hq⟩ x, x⟩
/-- What CreateIndex leaves. -/
def CiR (B : Nat) (w0 w w' : World) (g : Nat) (S : List Nat) (k last : Nat) (T : List Tb) (I : List (Nat × Ix)) (Q : List (Value × List Nat)) (own xmax : Nat) (R : List Nat) (n tn cn : ByteArray) (e : Ending) : Prop :=
  ((ciE S own xmax R n tn cn T I ≠ 0 ∧ e = .returned (.tuple #[.agg #[.int .u64 0, .string ⟨#[]⟩, .int .u64 0, .int .i64 0, .int .u64 0, .int .u64 0], .int .i64 (ciE S own xmax R n tn cn T I)]) ∧ Wd B w0 w' g S k last T I Q) ∨
      (ciE S own xmax R n tn cn T I = 0 ∧ ∃ t b, findTb S own xmax R tn T = some t ∧ w.heap.size ≤ b ∧ e = .returned (.tuple #[ixV ⟨⟨last + 1, n, own, 0⟩, t.b, t.e, (colIx cn t.cs).toNat⟩, .int .i64 0]) ∧ Wd B w0 w' g S k (last + 1) T (I ++ [(b, ⟨⟨last + 1, n, own, 0⟩, t.b, t.e, (colIx cn t.cs).toNat⟩)]) Q)) ∧ FrT allT B w w'
theorem wd_cridx (h : Wd B w0 w g S k last T I Q) (own xmin xmax : Nat) (v : Value) (R : List Nat) (n tn cn : ByteArray) (hv : (v, R) ∈ Q) (h8 : ∀ t ∈ T, t.cs.length ≤ 8) (hlast : last < 1000000000) (hns : n.size ≤ 9223372036854775807) (io im ix : Int) (e1 : (own : Int) = io) (e2 : (xmin : Int) = im) (e3 : (xmax : Int) = ix) :
    Calls Try.prog 22 #[.pointer (some ⟨k, 0, none⟩), .pointer (some ⟨g, 0, none⟩), .agg #[.int .u64 io, .int .u64 im, .int .u64 ix, v], .string n, .string tn, .string cn] w fun e w' => CiR B w0 w w' g S k last T I Q own xmax R n tn cn e := by
  subst e1 e2 e3
  obtain ⟨F, vT, vI, hl, hm, hb, hq⟩ := h
  refine (cridx_any w B k g own xmin xmax B last T I S R F v vT vI n tn cn hl (hq _ hv).1 (len_max (hq _ hv).1) hb hlast hm.size hns h8).mono ?_
  rintro e w' (⟨h1, rfl, x⟩ | ⟨h1, t, b, ht, hge, rfl, ⟨vI', hb'⟩, hf⟩)
  · exact ⟨.inl ⟨h1, rfl, Wd.next ⟨F, vT, vI, hl, hm, hb, hq⟩ x⟩, FrT.of_below x⟩
  · obtain ⟨h2, h3⟩ := wd_book hl hm hq hb' hf
    exact ⟨.inr ⟨h1, t, b, ht, hge, rfl, h2⟩, h3⟩
end
theorem find_hit {S : List Nat} {own xmax : Nat} {R : List Nat} {n : ByteArray} {t : Tb} {T : List Tb} (h : seenE 1 S own xmax R n t.e = true) : findTb S own xmax R n (t :: T) = some t := by
  unfold findTb
  rw [List.find?_cons, h]
theorem find_miss {S : List Nat} {own xmax : Nat} {R : List Nat} {n : ByteArray} {t : Tb} (h : seenE 1 S own xmax R n t.e = false) : findTb S own xmax R n [t] = none := by
  unfold findTb
  rw [List.find?_cons, h]
  rfl
theorem nm_ne : ((⟨#[116]⟩ : ByteArray).toList == (⟨#[105]⟩ : ByteArray).toList) = false := by decide +kernel
end Go.Proofs.Ytbmkhopmhmmibaa
