/-
  Pages: stamp, write: a version's bytes are laid.
-/
import Derived.Test.YtpnkmkenmpbekaaPageD
import Derived.Test.YtpnkmkenmpbekaaBin
import Derived.Laws.CopyOwn
namespace Go.Proofs.Ytpnkmkenmpbekaa
open Go.RowKit

/-- Block b holds just these cells. -/
def Bx (w : World) (b : Nat) (T : TypeId) (l : List Value) : Prop := w.heap[b]? = some (.cells l.toArray T (0, 0))
section
variable {w w' : World} {b : Nat} {T : TypeId} {l : List Value}
theorem Bx.lt (h : Bx w b T l) : b < w.heap.size := (Array.getElem?_eq_some_iff.1 h).1
theorem Bx.cell (h : Bx w b T l) (i : Nat) : w.cell? ⟨b, i, none⟩ = l[i]? := by rw [cell_of_row w b i _ _ _ h]; simp
theorem Bx.frozen (h : Bx w b T l) (i : Nat) : w.frozen? ⟨b, i, none⟩ = false := frozen_of_row w b i _ _ h
theorem Bx.kept (h : Bx w b T l) {row : Option Nat} (hg : w.grownBy w' row) (hne : row ≠ some b) : Bx w' b T l := (hg.block b h.lt (fun e => hne e.symm)).trans h
theorem Bx.new (w : World) (T : TypeId) (C : Array Value) (l : List Value) (hC : C = l.toArray) : Bx (w.alloc (.cells C T)) w.heap.size T l := by subst hC; exact heap_alloc_new w _
end
theorem lay_lay (f : Nat → UInt8) (a : Nat) (l m : List UInt8) (b : Nat) (hb : b = a + l.length) : lay (lay f a l) b m = lay f a (l ++ m) := by
  subst hb
  funext i
  by_cases h1 : i < a
  · rw [lay_out (.inl (by omega)), lay_out (.inl h1), lay_out (.inl h1)]
  · obtain ⟨j, rfl⟩ : ∃ j, i = a + j := ⟨i - a, by omega⟩
    by_cases h2 : j < l.length
    · rw [lay_out (.inl (by omega)), lay_in h2, lay_in (by simp; omega), List.getD_eq_getElem?_getD, List.getD_eq_getElem?_getD, List.getElem?_append_left h2]
    · obtain ⟨k, rfl⟩ : ∃ k, j = l.length + k := ⟨j - l.length, by omega⟩
      by_cases h3 : k < m.length
      · rw [← Nat.add_assoc, lay_in h3, Nat.add_assoc, lay_in (by simp; omega), List.getD_eq_getElem?_getD, List.getD_eq_getElem?_getD, List.getElem?_append_right (by omega), Nat.add_sub_cancel_left]
      · rw [lay_out (.inr (by omega)), lay_out (.inr (by omega)), lay_out (.inr (by simp; omega))]
/-- What a stamp lays, and a whole version. -/
def pkS (m : Nat) (p s : Int) : List UInt8 := leb m 8 ++ leb (p + 1).toNat 4 ++ leb (s + 1).toNat 2
theorem pkS_length (m : Nat) (p s : Int) : (pkS m p s).length = 14 := by simp [pkS, leb_length]
def pk (r x m : Nat) (p s : Int) (d : List UInt8) : List UInt8 := leb r 8 ++ leb x 8 ++ pkS m p s ++ d
theorem pk_length (r x m : Nat) (p s : Int) (d : List UInt8) : (pk r x m p s d).length = 30 + d.length := by simp [pk, pkS_length, leb_length]; omega
set_option maxRecDepth 100000 in
theorem stamp_any (w : World) (g : Nat) (f : Nat → UInt8) (a m : Nat) (x p s : Int) (hx : x = (a : Int)) (h : Pgm w g f) (ha : a + 30 ≤ 512) (hp : -1 ≤ p ∧ p ≤ 65535) (hs : -1 ≤ s ∧ s ≤ 65534) :
    Calls Try.prog 89 #[.pointer (some ⟨g, 0, none⟩), .int .i64 x, .int .u64 (m : Int), .agg #[.int .i64 p, .int .i64 s]] w fun e w' => e = .returned (.tuple #[]) ∧ Pgm w' g (lay f (a + 16) (pkS m p s)) ∧ w.grownBy w' (some g) := by
  subst hx
  have hlay : lay (lay (lay f (a + 16) (leb m 8)) (a + 24) (leb (p + 1).toNat 4)) (a + 28) (leb (s + 1).toNat 2) = lay f (a + 16) (pkS m p s) := by
    rw [lay_lay f (a + 16) (leb m 8) _ (a + 24) (by rw [leb_length]), lay_lay f (a + 16) _ _ (a + 28) (by rw [List.length_append, leb_length, leb_length])]; rfl
  obtain ⟨hp0, hp1⟩ := hp
  obtain ⟨hs0, hs1⟩ := hs
  have hgne : g ≠ w.heap.size := by have := h.lt; omega
  have HL := Lib.hid hlay
  clear hlay
  go_enter Try.func89, Try.ntmps89
  go_wp2_with fail
  have b0 := Bx.new w 41 _ [.int .i64 p, .int .i64 s] rfl
  have g0 := World.grownBy_alloc w (.cells #[.int .i64 p, .int .i64 s] 41) (some g)
  have h0 := h.alloc (.cells #[.int .i64 p, .int .i64 s] 41)
  refine (setNumber_i _ g f _ _ _ (a + 16) 8 m (by omega) rfl rfl h0 (by omega) (by omega)).mono ?_
  rintro e w1 ⟨rfl, h1, g1, _⟩
  have b1 := b0.kept g1 (fun e => by injection e with e; exact hgne e)
  have c1 := b1.cell 0
  have c1' := b1.cell 1
  have G1 := grown_tr g0 g1
  have H1 := Lib.hid h1
  clear h1 h0 h
  go_wp2_with fail
  refine (setNumber_i _ g _ _ _ _ (a + 24) 4 (p + 1).toNat (by omega) rfl (by omega) H1.out (by omega) (by omega)).mono ?_
  rintro e w2 ⟨rfl, h2, g2, _⟩
  have b2 := b1.kept g2 (fun e => by injection e with e; exact hgne e)
  have c2 := b2.cell 0
  have c2' := b2.cell 1
  have G2 := grown_tr G1 g2
  have H2 := Lib.hid h2
  clear h2
  go_wp2_with fail
  refine (setNumber_i _ g _ _ _ _ (a + 28) 2 (s + 1).toNat (by omega) rfl (by omega) H2.out (by omega) (by omega)).mono ?_
  rintro e w3 ⟨rfl, h3, g3, _⟩
  have H3 := Lib.hid h3
  clear h3
  go_wp2_with fail
  go_end0
  exact ⟨rfl, by rw [← HL.out]; exact H3.out, grown_tr G2 g3⟩
/-- Where a cut of the page's array begins. -/
def adr (g a : Nat) : Option Addr := if a = 512 then some ⟨g, 0, none⟩ else some ⟨g, a, none⟩
theorem adr_lt {g a : Nat} (h : a < 512) : adr g a = some ⟨g, a, none⟩ := if_neg (by omega)
theorem sl_from (g a : Nat) (x : Int) (hx : x = (a : Int)) (ha : a ≤ 512) (W : World) : (Instr.sliceAt 121 (.pointer (some ⟨g, 0, none⟩)) (some (.int .i64 x)) none none).run Try.prog W = .ok (.slice (adr g a) (512 - a) (512 - a)) W := by
  subst hx
  rw [run_sliceAt_array_l W _ _ arr_under _ _ (by omega) (by rw [arr_len]; omega), arr_elem, size_u8, arr_len]
  simp only [Result.andThen, slicedAt, Int.toNat_natCast, Nat.mul_one]
  unfold adr
  by_cases h : a = 512
  · subst h; rw [if_pos rfl, if_pos rfl]
  · rw [if_neg (fun e => h e.symm), if_neg h, Addr.add_lit, Nat.zero_add]
theorem sl_both (g a b : Nat) (x y : Int) (hx : x = (a : Int)) (hy : y = (b : Int)) (hab : a ≤ b) (hb : b ≤ 512) (W : World) : (Instr.sliceAt 121 (.pointer (some ⟨g, 0, none⟩)) (some (.int .i64 x)) (some (.int .i64 y)) none).run Try.prog W = .ok (.slice (adr g a) (b - a) (512 - a)) W := by
  subst hx hy
  rw [run_sliceAt_array_lh W _ _ arr_under _ _ _ _ (by omega) (by omega) (by rw [arr_len]; omega), arr_elem, size_u8, arr_len]
  simp only [Result.andThen, slicedAt, Int.toNat_natCast, Nat.mul_one]
  unfold adr
  by_cases h : a = 512
  · subst h; rw [if_pos rfl, if_pos rfl]
  · rw [if_neg (fun e => h e.symm), if_neg h, Addr.add_lit, Nat.zero_add]
theorem splice_pcells (f : Nat → UInt8) (off : Nat) (l : List UInt8) (h : off + l.length ≤ 512) : (pcells f).take off ++ (bcells l ++ (pcells f).drop (off + (bcells l).length)) = pcells (lay f off l) := by
  refine pcells_eq (by simp [pcells_length, bcells_length]; omega) fun i hi => ?_
  have hto : ((pcells f).take off).length = off := by rw [List.length_take, pcells_length]; omega
  by_cases h1 : i < off
  · rw [List.getElem?_append_left (by omega), List.getElem?_take_of_lt h1, pcells_get f hi, lay_out (.inl h1)]
  · rw [List.getElem?_append_right (by omega), hto]
    obtain ⟨j, rfl⟩ : ∃ j, i = off + j := ⟨i - off, by omega⟩
    rw [Nat.add_sub_cancel_left]
    by_cases h2 : j < l.length
    · rw [List.getElem?_append_left (by rw [bcells_length]; exact h2), bcells_get l j h2, lay_in h2, List.getD_eq_getElem?_getD, List.getElem?_eq_getElem h2]; rfl
    · rw [List.getElem?_append_right (by rw [bcells_length]; omega), List.getElem?_drop, bcells_length, lay_out (.inr (by omega)), show off + l.length + (j - l.length) = off + j by omega, pcells_get f hi]
theorem setRow_grown (w : World) (g : Nat) (cs : Array Value) : w.grownBy (w.setRow g cs) (some g) :=
  ⟨rfl, rfl, rfl, by simp [World.setRow], fun k _ hne => setRow_other w g k cs (fun e => hne (by rw [e]))⟩
theorem info_sz : (Try.prog.info? 5).map (·.size) = some 1 := by kernel_rfl
/-- 'copy' onto a page, whatever is copied. -/
theorem wpList_copy_pg {w : World} {ops : Array Oper} {rest : List Oper} {o : Oper} {a : Act} {Q : Exit → Act → World → Prop} (hgd : o.guard = none) (d s : Operand)
    (ho : o.op = .call { callee := .builtin .copy, args := #[d, s], argTypes := #[42, 42] })
    (g off : Nat) (f : Nat → UInt8) (l : List UInt8) (hp : Pgm w g f) (dLen dCap sLen sCap : Nat) (sp : Option Addr) (hd : a.eval d = .slice (adr g off) dLen dCap) (hs : a.eval s = .slice sp sLen sCap)
    (hn : l.length = Nat.min sLen dLen) (hsrc : Rd w 1 sp l.length (bcells l)) (hfit : off + l.length ≤ 512)
    (h : ∀ w', Pgm w' g (lay f off l) → w.grownBy w' (some g) → w'.heap.size = w.heap.size → wpList Try.prog ops Q rest (a.put o.dst (goInt l.length)) w') : wpList Try.prog ops Q (o :: rest) a w := by
  rcases Nat.eq_zero_or_pos l.length with h0 | h0
  · obtain rfl : l = [] := List.eq_nil_of_length_eq_zero h0
    refine wpList_copy_nothing hgd d s _ _ ho 5 Try.underlying42 info_sz _ _ dLen dCap sLen sCap hd hs (by simpa using hn.symm) ?_
    exact h w (by rw [lay_nil]; exact hp) (World.grownBy.refl _ _) rfl
  · obtain ⟨ad, rfl, hc⟩ := hsrc.some_ h0 (by decide)
    rw [adr_lt (by omega)] at hd
    refine wpList_copy_own hgd d s _ _ ho 5 Try.underlying42 info_sz g off dLen dCap ad sLen sCap hd hs _ _ hp (bcells l) (by rw [bcells_length]; exact hn) (fun j v hv => by obtain ⟨hj, rfl⟩ := List.getElem?_eq_some_iff.1 hv; exact hc j hj) (by rw [bcells_length]; simp [pcells_length]; exact hfit) (bcells_one _) ?_
    rw [bcells_length]
    refine h _ ?_ (setRow_grown w g _) (by simp [World.setRow])
    have := setRow_heap w g (pcells f).toArray (pcells (lay f off l)).toArray _ _ hp
    unfold Pgm
    rw [← splice_pcells f off l hfit, bcells_length] at this ⊢
    simpa using this
end Go.Proofs.Ytpnkmkenmpbekaa
