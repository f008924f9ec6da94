/-
  A log, a book and kept snapshots side by side: what laws of books use.
-/
import Derived.Test.YtbmkhopmhmmibaaBookH
namespace Go.Proofs.Ytbmkhopmhmmibaa
open Go.RowKit
set_option linter.unusedVariables false

def allT : List TypeId := [96, 5, 28] ++ bkT
/-- A log, a book, and rows of snapshots that are kept. -/
def Wd (B : Nat) (w0 w : World) (g : Nat) (S : List Nat) (k last : Nat) (T : List Tb) (I : List (Nat × Ix)) (Q : List (Value × List Nat)) : Prop :=
  ∃ F vT vI, LG w g 1 S F ∧ Mine B w0 w F ∧ Bk B w k last T I vT vI ∧ ∀ q ∈ Q, w.ownsRow B 28 1 q.1 q.2.length (ucells .u64 q.2) ∧ ∀ j, q.1.ownBlock = some j → ¬ F j
section
variable {B g k last : Nat} {w0 w w' : World} {S : List Nat} {T : List Tb} {I : List (Nat × Ix)} {Q : List (Value × List Nat)} {F F' : Nat → Prop}
theorem FrT.mono {l l' : List TypeId} (h : FrT l B w w') (hs : ∀ e ∈ l, e ∈ l') : FrT l' B w w' := Fr.mono h fun k hk => ⟨hk.1, hk.2.imp fun e he => ⟨hs e he.1, he.2⟩⟩
theorem FrT.all (h : FrT bkT B w w') : FrT allT B w w' := h.mono fun e he => List.mem_append_right _ he
theorem Wd.below' (h : Wd B w0 w g S k last T I Q) : Below B w0 w := by
  obtain ⟨F, vT, vI, hl, hm, hb, hq⟩ := h
  exact hm.below
theorem Wd.size (h : Wd B w0 w g S k last T I Q) : B ≤ w.heap.size := by
  obtain ⟨F, vT, vI, hl, hm, hb, hq⟩ := h
  exact hm.size
theorem Wd.next (h : Wd B w0 w g S k last T I Q) (x : Below w.heap.size w w') : Wd B w0 w' g S k last T I Q := by
  obtain ⟨F, vT, vI, hl, hm, hb, hq⟩ := h
  exact ⟨F, vT, vI, hl.below x, hm.next x, hb.below x, fun q h => ⟨own_below (hq q h).1 x, (hq q h).2⟩⟩
theorem frt_log {l : List TypeId} (hl : LG w g 1 S F) (hm : ∀ j, F j → B ≤ j) (hc : Chg F F' w w') (h : ∀ e ∈ [96, 5, 28], e ∈ l) : FrT l B w w' :=
  FrT.of_fr hc.fr fun j hj => ⟨hm j hj, by
    rcases hl.ty hj with ht | ht | ht
    · exact ⟨_, h _ (by simp), ht⟩
    · exact ⟨_, h _ (by simp), ht⟩
    · exact ⟨_, h _ (by simp), ht⟩⟩
/-- A step of the log. -/
theorem wd_log {S' : List Nat} {vT vI : Value} (hl : LG w g 1 S F) (hm : Mine B w0 w F) (hb : Bk B w k last T I vT vI) (hq : ∀ q ∈ Q, w.ownsRow B 28 1 q.1 q.2.length (ucells .u64 q.2) ∧ ∀ j, q.1.ownBlock = some j → ¬ F j) (hl' : LG w' g 1 S' F') (hc : Chg F F' w w') :
    Wd B w0 w' g S' k last T I Q ∧ FrT allT B w w' :=
  ⟨⟨F', vT, vI, hl', hm.chg hc, hb.log hl hc, fun q h => by
    obtain ⟨o, hn⟩ := hq q h
    exact ⟨hc.fr.own o hn, fun j hj hF => (hc.new j hF).elim (hn j hj) fun hh => by have := (o.lt j hj).2; omega⟩⟩, frt_log hl hm.above hc (by unfold allT; intro e he; exact List.mem_append_left _ he)⟩
theorem wd_begin (h : Wd B w0 w g S k last T I Q) :
    Calls Try.prog 13 #[.pointer (some ⟨g, 0, none⟩)] w fun e w' => e = .returned (begR 1 S) ∧ Wd B w0 w' g (begL 1 S) k last T I Q ∧ FrT allT B w w' := by
  obtain ⟨F, vT, vI, hl, hm, hb, hq⟩ := h
  refine (lg_begin w g 1 S F hl).mono ?_
  rintro e w' ⟨rfl, F', hl', hc⟩
  exact ⟨rfl, wd_log hl hm hb hq hl' hc⟩
theorem wd_commit (h : Wd B w0 w g S k last T I Q) (x : Nat) (hx : x < 18446744073709551616) :
    Calls Try.prog 17 #[.pointer (some ⟨g, 0, none⟩), .int .u64 (x : Int)] w fun e w' => e = .returned (.int .i64 (endE 1 S x)) ∧ Wd B w0 w' g (endL 1 S x 2) k last T I Q ∧ FrT allT B w w' := by
  obtain ⟨F, vT, vI, hl, hm, hb, hq⟩ := h
  refine (lg_commit w g 1 x S F hl hx).mono ?_
  rintro e w' ⟨rfl, F', hl', hc⟩
  exact ⟨rfl, wd_log hl hm hb hq hl' hc⟩
theorem wd_abort (h : Wd B w0 w g S k last T I Q) (x : Nat) (hx : x < 18446744073709551616) :
    Calls Try.prog 19 #[.pointer (some ⟨g, 0, none⟩), .int .u64 (x : Int)] w fun e w' => e = .returned (.int .i64 (endE 1 S x)) ∧ Wd B w0 w' g (endL 1 S x 3) k last T I Q ∧ FrT allT B w w' := by
  obtain ⟨F, vT, vI, hl, hm, hb, hq⟩ := h
  refine (lg_abort w g 1 x S F hl hx).mono ?_
  rintro e w' ⟨rfl, F', hl', hc⟩
  exact ⟨rfl, wd_log hl hm hb hq hl' hc⟩
theorem wd_take (h : Wd B w0 w g S k last T I Q) (own : Nat) :
    Calls Try.prog 15 #[.pointer (some ⟨g, 0, none⟩), .int .u64 (own : Int)] w fun e w' => ∃ v, e = .returned (.agg #[.int .u64 (own : Int), .int .u64 (least (others (runs 1 S) own) (1 + S.length) : Nat), .int .u64 ((1 + S.length : Nat) : Int), v]) ∧ Wd B w0 w' g S k last T I ((v, others (runs 1 S) own) :: Q) ∧ Below w.heap.size w w' := by
  obtain ⟨F, vT, vI, hl, hm, hb, hq⟩ := h
  refine (take_any w g 1 own S F hl).mono ?_
  rintro e w' ⟨v, rfl, ho, x⟩
  refine ⟨v, rfl, ⟨F, vT, vI, hl.below x, hm.next x, hb.below x, fun q h => ?_⟩, x⟩
  rcases List.mem_cons.1 h with rfl | h
  · exact ⟨own_le ho hm.size, fun j hj hF => by have := (ho.lt j hj).1; have := hl.lt hF; omega⟩
  · exact ⟨own_below (hq q h).1 x, (hq q h).2⟩
/-- A step of the book. -/
theorem wd_book {last' : Nat} {T' : List Tb} {I' : List (Nat × Ix)} {vT' vI' : Value} (hl : LG w g 1 S F) (hm : Mine B w0 w F) (hq : ∀ q ∈ Q, w.ownsRow B 28 1 q.1 q.2.length (ucells .u64 q.2) ∧ ∀ j, q.1.ownBlock = some j → ¬ F j) (hb' : Bk B w' k last' T' I' vT' vI') (hf : FrT bkT B w w') :
    Wd B w0 w' g S k last' T' I' Q ∧ FrT allT B w w' :=
  ⟨⟨F, vT', vI', hf.lg hl (by unfold bkT; decide) (by unfold bkT; decide) (by unfold bkT; decide), ⟨hm.above, hm.below.trans (hf.below hm.size), Nat.le_trans hm.size hf.size⟩, hb', fun q h => ⟨hf.own (hq q h).1 (by unfold bkT; decide), (hq q h).2⟩⟩, hf.all⟩
theorem wd_crtab (h : Wd B w0 w g S k last T I Q) (own xmin xmax N c bc : Nat) (A : Option Addr) (v : Value) (R : List Nat) (n : ByteArray) (L : List Co) (hv : (v, R) ∈ Q) (hlast : last < 1000000000) (hns : n.size ≤ 9223372036854775807) (hN : N = L.length) (hL : w.ownsRow bc 121 2 (.slice A N c) N (L.flatMap Co.e)) (hz : ∀ x ∈ L, x.nm.size ≤ 9223372036854775807) :
    Calls Try.prog 20 #[.pointer (some ⟨k, 0, none⟩), .pointer (some ⟨g, 0, none⟩), .agg #[.int .u64 (own : Int), .int .u64 (xmin : Int), .int .u64 (xmax : Int), v], .string n, .slice A N c] w fun e w' => ((crE S own xmax R n L T I ≠ 0 ∧ e = .returned (.tuple #[.int .u64 0, .int .i64 (crE S own xmax R n L T I)]) ∧ Wd B w0 w' g S k last T I Q) ∨
      (crE S own xmax R n L T I = 0 ∧ e = .returned (.tuple #[.int .u64 ((last + 1 : Nat) : Int), .int .i64 0]) ∧ (∃ b cv, w.heap.size ≤ b ∧ Wd B w0 w' g S k (last + 1) (T ++ [⟨b, ⟨last + 1, n, own, 0⟩, L, cv⟩]) I Q))) ∧ FrT allT B w w' := by
  obtain ⟨F, vT, vI, hl, hm, hb, hq⟩ := h
  have hR := (hq _ hv).1
  obtain ⟨_, _, _, hx1, hx2, _⟩ := own_form hR
  refine (crtab_any w B k g own xmin xmax B bc last N c A T I S R F v vT vI n L hl hR (by unfold maxLen at hx2; simp only at hx1; omega) hb hlast hm.size hns hN hL hz).mono ?_
  rintro e w' (⟨h1, rfl, x⟩ | ⟨h1, rfl, ⟨b, cv, vT', hge, hb'⟩, hf⟩)
  · exact ⟨.inl ⟨h1, rfl, Wd.next ⟨F, vT, vI, hl, hm, hb, hq⟩ x⟩, FrT.of_below x⟩
  · obtain ⟨h2, h3⟩ := wd_book hl hm hq hb' hf
    exact ⟨.inr ⟨h1, rfl, b, cv, hge, h2⟩, h3⟩
end
/-- A new log and a new book. -/
theorem wd_new {B k g : Nat} {w0 w : World} {F : Nat → Prop} (hl : LG w g 1 [] F) (hm : Mine B w0 w F) (hb : Bx w k 103 [.int .u64 0, .slice none 0 0, .slice none 0 0]) (hB : B ≤ k) : Wd B w0 w g [] k 0 [] [] [] :=
  ⟨F, _, _, hl, hm, ⟨hB, hb, World.ownsRow_nil _ _ _ _, World.ownsRow_nil _ _ _ _, fun t ht => absurd ht List.not_mem_nil, fun t ht => absurd ht List.not_mem_nil, List.nodup_nil, List.nodup_nil⟩, fun q h => absurd h List.not_mem_nil⟩
theorem wd_newS {B k g : Nat} {w0 w : World} {F : Nat → Prop} {S : List Nat} (hl : LG w g 1 S F) (hm : Mine B w0 w F) (hb : Bx w k 103 [.int .u64 0, .slice none 0 0, .slice none 0 0]) (hB : B ≤ k) : Wd B w0 w g S k 0 [] [] [] :=
  ⟨F, _, _, hl, hm, ⟨hB, hb, World.ownsRow_nil _ _ _ _, World.ownsRow_nil _ _ _ _, fun t ht => absurd ht List.not_mem_nil, fun t ht => absurd ht List.not_mem_nil, List.nodup_nil, List.nodup_nil⟩, fun q h => absurd h List.not_mem_nil⟩
theorem own_lit2 {w : World} {e : TypeId} {sz n : Nat} {cs : List Value} (hn : cs.length = n * sz) (hm : n ≤ 9223372036854775807) :
    (w.alloc (.cells cs.toArray e)).ownsRow w.heap.size e sz (.slice (some ⟨w.heap.size, 0, none⟩) n n) n cs :=
  ⟨hn, .inr ⟨w.heap.size, n, cs.toArray, rfl, Nat.le_refl _, heap_alloc_new w _, Nat.le_refl _, by unfold maxLen; omega, by first | (simp [hn]; done) | (rw [← hn]; simp), by first | (rw [← hn]; simp; done) | simp⟩⟩
def coA : Co := ⟨⟨#[97]⟩, 1⟩
theorem one_any (w : World) :
    Calls Try.prog 35 #[] w fun e w' => e = .returned (.slice (some ⟨w.heap.size, 0, none⟩) 1 1) ∧ w'.ownsRow w.heap.size 121 2 (.slice (some ⟨w.heap.size, 0, none⟩) 1 1) 1 ([coA].flatMap Co.e) ∧ Below w.heap.size w w' := by
  go_enter Try.func35, Try.ntmps35
  go_wp2
  go_ret
  exact ⟨rfl, own_lit2 (cs := [coA].flatMap Co.e) rfl (by decide), (Below.refl _ _).al _⟩
theorem few_any (w : World) (s : ByteArray) (hs : s.size ≤ 9223372036854775807) :
    Calls Try.prog 12 #[.string s] w fun e w' => ∃ s', e = .returned (.string s') ∧ s'.size ≤ 30 ∧ w' = w := by
  obtain ⟨m, hm⟩ : ∃ m, min s.size 30 = m := ⟨_, rfl⟩
  have hm1 : min (s.size : Int) 30 = (m : Int) := by omega
  have hm2 : m ≤ 30 := by omega
  have hm3 : m ≤ s.size := by omega
  clear hm
  go_enter Try.func12, Try.ntmps12
  go_wp2
  go_ret
  refine ⟨_, rfl, ?_, rfl⟩
  simp; omega
theorem name_t : nameB ⟨#[116]⟩ = true := nameB_true ⟨by decide, by decide, by decide⟩
theorem name_a : nameB ⟨#[97]⟩ = true := nameB_true ⟨by decide, by decide, by decide⟩
theorem name_i : nameB ⟨#[105]⟩ = true := nameB_true ⟨by decide, by decide, by decide⟩
theorem proper_one : properB [coA] = true := properB_true ⟨by decide, by decide, fun i h => by
  have : i = 0 := by simp at h; omega
  subst this
  show colOk [coA] 0 coA = true
  unfold colOk
  rw [show coA.nm = ⟨#[97]⟩ from rfl, name_a]
  rfl⟩
end Go.Proofs.Ytbmkhopmhmmibaa
