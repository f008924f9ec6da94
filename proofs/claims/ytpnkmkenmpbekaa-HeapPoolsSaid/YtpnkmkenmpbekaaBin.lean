/-
  Bytes in memory: the document's Same, Less, Copy, Cut, Begins (ref03); bytes.Compare, bytes.IndexByte, bytes.Clone; key.Less.
-/
import Derived.Test.YtpnkmkenmpbekaaByt
import Derived.Test.YtpnkmkenmpbekaaKeyP
import Derived.Test.YtpnkmkenmpbekaaNum
import Derived.Outline
import Derived.Shelf.Bytes.SlEqualAll
import Derived.Shelf.Bytes.SlIndexAt
import Derived.Lib.Bytealg
import Derived.WalkSpells
import Derived.BigQuiet
import Derived.Deep.QuietTactic
namespace Go.Proofs.Ytpnkmkenmpbekaa
open Go.RowKit

/-- The slice at A reads as these bytes. -/
def Brd (w : World) (A : Option Addr) (l : List UInt8) : Prop := Rd w 1 A l.length (bcells l)
theorem Brd.below {w w' : World} {A : Option Addr} {l : List UInt8} (h : Brd w A l) (hb : Below w.heap.size w w') : Brd w' A l := Rd.below h hb
theorem bcells_get (l : List UInt8) (j : Nat) (hj : j < l.length) : (bcells l)[j]? = some (.int .u8 ((l[j]).toNat : Int)) := by
  unfold bcells; rw [List.getElem?_map, List.getElem?_eq_getElem hj]; rfl
theorem Brd.at_ {w : World} {A : Option Addr} {l : List UInt8} (h : Brd w A l) {k : Nat} (hk : k < l.length) : ∃ ad : Addr, A = some ad ∧ w.cell? (ad.add k) = some (.int .u8 ((l[k]).toNat : Int)) := by
  obtain ⟨ad, e, hc⟩ := h.2 k _ (bcells_get l k hk)
  exact ⟨ad, e, hc⟩
/-- The bytes as whole numbers. -/
def nums (l : List UInt8) : List Int := l.map fun b => (b.toNat : Int)
theorem nums_length (l : List UInt8) : (nums l).length = l.length := by simp [nums]
theorem back_list (l : List UInt8) : (nums l).map (fun n => UInt8.ofNat n.toNat) = l := by
  unfold nums
  rw [List.map_map]
  conv => rhs; rw [← List.map_id l]
  congr 1
  funext b
  simp
theorem nums_bytes (l : List UInt8) : Lib.bytesOf (nums l) = l := back_list l
theorem nums_str (l : List UInt8) : strOfNums (nums l) = ⟨l.toArray⟩ := by unfold strOfNums; rw [back_list]
theorem nums_get (l : List UInt8) (i : Nat) (h : i < l.length) : (nums l).getD i 0 = ((l[i]).toNat : Int) := by simp [nums, List.getD, h]
theorem Brd.in_ {w : World} {A : Option Addr} {l : List UInt8} (h : Brd w A l) : Lib.BytesIn w A l.length (nums l) := by
  rcases Nat.eq_zero_or_pos l.length with h0 | h0
  · rw [h0]; exact Lib.BytesIn.nil w A _
  · obtain ⟨ad, rfl, _⟩ := h.at_ h0
    refine Lib.BytesIn.of_cells fun i hi => ?_
    obtain ⟨ad', e, hc⟩ := h.at_ hi
    cases e
    rw [hc, nums_get l i hi]
theorem Brd.conv {w : World} {A : Option Addr} {l : List UInt8} (h : Brd w A l) (c : Nat) : (convert 42 9 (.slice A l.length c)).run Try.prog w = .ok (.string ⟨l.toArray⟩) w := by
  have := h.in_.convert (P := Try.prog) (nums_length l) c 42 5 9 Try.underlying42 Try.underlying5 Try.underlying9
  rw [nums_str] at this
  exact this
theorem mk_data (l : List UInt8) : (⟨l.toArray⟩ : ByteArray).toList = l := by rw [Lib.toList_data]
theorem Brd.ext {P : Program} {w : World} {A : Option Addr} {l : List UInt8} (h : Brd w A l) (c : Nat) : (Extern.Bytes.bytesOf (.slice A l.length c)).run P w = .ok ⟨l.toArray⟩ w := by
  cases A with
  | none =>
    have h0 : l = [] := by
      cases l with
      | nil => rfl
      | cons a l => obtain ⟨ad, e, _⟩ := h.at_ (k := 0) (by simp); cases e
    subst h0
    rfl
  | some a =>
    have hl := Lib.run_loadBytesX (P := P) w (nums l) a .empty (fun j x hj => by
      have hjl : j < l.length := by have := (List.getElem?_eq_some_iff.1 hj).1; rwa [nums_length] at this
      obtain ⟨ad, e, hc⟩ := h.at_ hjl
      cases e
      rw [hc]
      unfold nums at hj
      rw [List.getElem?_map, List.getElem?_eq_getElem hjl] at hj
      simp at hj
      rw [hj])
    rw [nums_length, nums_bytes] at hl
    have he : (⟨ByteArray.empty.data ++ l.toArray⟩ : ByteArray) = ⟨l.toArray⟩ := by
      apply ByteArray.ext
      show (#[] : Array UInt8) ++ l.toArray = l.toArray
      simp
    rw [he] at hl
    exact hl
theorem run_compareAt {P : Program} {w : World} {A B : Option Addr} {l m : List UInt8} (ha : Brd w A l) (hb : Brd w B m) (c d : Nat) :
    (Extern.BytealgCompare.compare #[.slice A l.length c, .slice B m.length d]).run P w = .ok (.int .i64 (Lib.compareBytes l m)) w := by
  change Sem.run P (do pure (goInt (Extern.BytealgCompare.cmp (← Extern.Bytes.bytesOf (.slice A l.length c)) (← Extern.Bytes.bytesOf (.slice B m.length d))))) w = _
  simp only [Sem.run_bind, Sem.run_pure, Result.andThen, ha.ext c, hb.ext d]
  rw [Lib.cmp_eq]
  rfl
theorem compare_lt : ∀ l m : List UInt8, decide (Lib.compareBytes l m < 0) = decide (l < m)
  | [], [] => by simp [Lib.compareBytes]
  | [], _ :: _ => by simp [Lib.compareBytes]
  | _ :: _, [] => by simp [Lib.compareBytes]
  | a :: l, b :: m => by
    have ih := compare_lt l m
    unfold Lib.compareBytes
    simp only [List.cons_lt_cons_iff]
    by_cases h1 : a < b
    · simp [h1]
    · by_cases h2 : b < a
      · have : ¬ a = b := fun e => by subst e; exact h1 h2
        simp [h1, h2, this]
      · have e : a = b := UInt8.le_antisymm (UInt8.not_lt.1 h2) (UInt8.not_lt.1 h1)
        subst e
        simp [UInt8.lt_irrefl]
        simpa using ih

/-- Less, as a Bool that the walk leaves whole. -/
def lltB (l m : List UInt8) : Bool := decide (l < m)
def leqB (l m : List UInt8) : Bool := l == m

set_option maxHeartbeats 400000 in
theorem same3_any (A B : Option Addr) (c d : Nat) (l m : List UInt8) (w : World) (ha : Brd w A l) (hb : Brd w B m) :
    Calls Try.prog 22 #[.slice A l.length c, .slice B m.length d] w fun e w' => e = .returned (.bool (leqB l m)) ∧ w' = w := by
  have q1 := ha.conv c
  have q2 := hb.conv d
  have e1 := mk_data l
  have e2 := mk_data m
  unfold leqB
  go_enter Try.func22, Try.ntmps22
  go_wp2
  go_ret
  exact ⟨rfl, rfl⟩
theorem bcells_take (l : List UInt8) (k : Nat) : (bcells l).take k = bcells (l.take k) := by unfold bcells; rw [List.map_take]
theorem bcells_drop (l : List UInt8) (k : Nat) : (bcells l).drop k = bcells (l.drop k) := by unfold bcells; rw [List.map_drop]
theorem Brd.front {w : World} {A : Option Addr} {l : List UInt8} (h : Brd w A l) {k : Nat} (hk : k ≤ l.length) : Brd w A (l.take k) := by
  have := Rd.front h hk
  rw [Nat.mul_one, bcells_take] at this
  unfold Brd
  rw [List.length_take, Nat.min_eq_left hk]
  exact this
theorem made_nil (w : World) (e : TypeId) (size : Nat) : (w.alloc (.cells #[] e)).ownsRow w.heap.size e size (.slice (some ⟨w.heap.size, 0, none⟩) 0 0) 0 [] :=
  World.ownsRow_made w #[] 0 (Nat.le_refl _) (by unfold maxLen; omega) (by simp)

set_option maxHeartbeats 400000 in
theorem copy3_any (A : Option Addr) (c : Nat) (l : List UInt8) (w : World) (ha : Brd w A l) (hl : l.length ≤ 70368744177664) :
    Calls Try.prog 34 #[.slice A l.length c] w fun e w' => ∃ v', e = .returned v' ∧ Byt w' w.heap.size v' l ∧ Below w.heap.size w w' := by
  obtain ⟨i0, hi0, hz0, hz1, hz2⟩ := info_parts info_u8
  go_enter Try.func34, Try.ntmps34
  go_wp2_with (at_builtin; refine wpList_append_src _ rfl (.tmp 3) (.tmp 4) 42 42 rfl w.heap.size 5 _ _ 1 1 Try.underlying42 hi0 hz0 hz1 hz2 rfl _ 0 [] rfl (made_nil w _ _) _ l.length (bcells l) rfl (src_rd Try.underlying42 _ (Rd.alloc ha _) (by decide) (bcells_one _)) (by simp only [maxLen]; omega) (by omega) (by simp <;> omega) ?_; intro v1 w1 hown1 hg1 ha1)
  go_ret
  exact ⟨_, rfl, byt_of hown1 (by simp), ((Below.refl _ _).alloc (Nat.le_refl _) _).trans (grown_below (made_nil w _ 1) hg1 (by simp))⟩
set_option maxHeartbeats 400000 in
theorem cut3_any (A : Option Addr) (c n : Nat) (l : List UInt8) (w : World) (ha : Brd w A l) (hc : l.length ≤ c) (hm : c ≤ 9223372036854775807) (hn : n ≤ 70368744177664) :
    Calls Try.prog 33 #[.slice A l.length c, .int .i64 n] w fun e w' => ∃ v', e = .returned v' ∧ Byt w' w.heap.size v' (l.take n) ∧ Below w.heap.size w w' := by
  obtain ⟨i0, hi0, hz0, hz1, hz2⟩ := info_parts info_u8
  by_cases h : n ≤ l.length
  · have hf := ha.front h
    have hfl : (l.take n).length = n := by rw [List.length_take, Nat.min_eq_left h]
    generalize l.take n = m at *
    subst hfl
    have hmin : min (l.length : Int) (m.length : Int) = (m.length : Int) := by omega
    go_enter Try.func33, Try.ntmps33
    go_wp2_with (at_builtin; (refine wpList_append_src _ rfl (.tmp 5) (.tmp 11) 42 42 rfl w.heap.size 5 _ _ 1 1 Try.underlying42 hi0 hz0 hz1 hz2 rfl _ 0 [] rfl (made_nil w _ _) _ m.length (bcells m) rfl (src_rd Try.underlying42 _ (Rd.alloc hf _) (by decide) (bcells_one _)) (by simp only [maxLen]; omega) (by omega) (by simp <;> omega) ?_; intro v1 w1 hown1 hg1 ha1))
    go_ret
    exact ⟨_, rfl, byt_of hown1 (by simp), ((Below.refl _ _).alloc (Nat.le_refl _) _).trans (grown_below (made_nil w _ 1) hg1 (by simp))⟩
  · rw [List.take_of_length_le (by omega)]
    have hmin : min (l.length : Int) (n : Int) = (l.length : Int) := by omega
    go_enter Try.func33, Try.ntmps33
    go_wp2_with (at_builtin; (refine wpList_append_src _ rfl (.tmp 5) (.tmp 11) 42 42 rfl w.heap.size 5 _ _ 1 1 Try.underlying42 hi0 hz0 hz1 hz2 rfl _ 0 [] rfl (made_nil w _ _) _ l.length (bcells l) rfl (src_rd Try.underlying42 _ (Rd.alloc ha _) (by decide) (bcells_one _)) (by simp only [maxLen]; omega) (by omega) (by simp <;> omega) ?_; intro v1 w1 hown1 hg1 ha1))
    go_ret
    exact ⟨_, rfl, byt_of hown1 (by simp), ((Below.refl _ _).alloc (Nat.le_refl _) _).trans (grown_below (made_nil w _ 1) hg1 (by simp))⟩

/-- Does l begin with m? -/
def preB (l m : List UInt8) : Bool := decide (m.length ≤ l.length) && leqB (l.take m.length) m
theorem preB_iff (l m : List UInt8) : preB l m = true ↔ m <+: l := by
  unfold preB leqB
  rw [Bool.and_eq_true, decide_eq_true_iff, beq_iff_eq]
  constructor
  · rintro ⟨_, h⟩; rw [← h]; exact List.take_prefix _ _
  · intro h; exact ⟨h.length_le, (List.prefix_iff_eq_take.1 h).symm⟩
/-- A byte of the call's own row is written anew. -/
theorem byt_set {w : World} {base g n cap : Nat} {l : List UInt8} (h : w.ownsRow base 5 1 (.slice (some ⟨g, 0, none⟩) n cap) n (bcells l)) (j : Nat) (b : UInt8) :
    Byt (w.setCell ⟨g, j, none⟩ (.int .u8 (b.toNat : Int))) base (.slice (some ⟨g, 0, none⟩) n cap) (l.set j b) := by
  have h1 := (h.stored j (.int .u8 (b.toNat : Int))).1
  refine byt_of h1 ?_
  unfold bcells
  rw [List.map_set]
theorem behind_at {l : List UInt8} {k : Nat} (hk : k < l.length) (hne : l[k] ≠ 255) (hall : ∀ b ∈ l.drop (k + 1), b = 255) : behind l = (l.take (k + 1)).set k (l[k] + 1) := by
  have e : l = l.take k ++ l[k] :: l.drop (k + 1) := by
    conv => lhs; rw [← List.take_append_drop k l, List.drop_eq_getElem_cons hk]
  have hd : l.reverse.dropWhile (· == (255 : UInt8)) = l[k] :: (l.take k).reverse := by
    generalize hc : l[k] = c at *
    generalize l.take k = a at *
    generalize l.drop (k + 1) = b at *
    clear hc
    rw [e, List.reverse_append, List.reverse_cons, List.append_assoc, List.dropWhile_append_of_pos (by intro x hx; simp [hall x (by simpa using hx)])]
    simp [hne]
  unfold behind
  rw [hd]
  simp only [List.reverse_reverse]
  rw [List.take_succ_eq_append_getElem hk, List.set_append_right _ _ (by simp; omega)]
  simp [Nat.min_eq_left (Nat.le_of_lt hk)]
theorem drop_ff : ∀ l : List UInt8, (∀ b ∈ l, b = 255) → l.dropWhile (· == (255 : UInt8)) = []
  | [], _ => rfl
  | a :: l, h => by
    have ha : a = 255 := h a (by simp)
    rw [List.dropWhile_cons, ha, drop_ff l fun b hb => h b (by simp [hb])]
    rfl
theorem behind_ff {l : List UInt8} (h : ∀ b ∈ l, b = 255) : behind l = [] := by
  unfold behind
  rw [drop_ff l.reverse fun b hb => h b (by simpa using hb)]
/-- The shape of a row of the call's own that has a byte or more. -/
theorem byt_shape {w : World} {base : Nat} {v : Value} {l : List UInt8} {n : Nat} (h : Byt w base v l) (hn : l.length = n) (h0 : 0 < n) :
    ∃ g cap, v = .slice (some ⟨g, 0, none⟩) n cap ∧ base ≤ g ∧ n ≤ cap ∧ w.ownsRow base 5 1 (.slice (some ⟨g, 0, none⟩) n cap) n (bcells l) := by
  subst hn
  have h' := h
  rcases h.2 with ⟨_, h0'⟩ | ⟨g, cap, cur, rfl, hb, _, hc, _⟩
  · omega
  · exact ⟨g, cap, rfl, hb, hc, h'⟩

set_option maxHeartbeats 400000 in
theorem clone_any (ad : Addr) (c : Nat) (l : List UInt8) (w : World) (ha : Brd w (some ad) l) (hl : l.length ≤ 70368744177664) :
    Calls Try.prog 68 #[.slice (some ad) l.length c] w fun e w' => ∃ v', e = .returned v' ∧ Byt w' w.heap.size v' l ∧ Below w.heap.size w w' := by
  obtain ⟨i0, hi0, hz0, hz1, hz2⟩ := info_parts info_u8
  have q := Lib.run_eql_slice_nil (P := Try.prog) w 42 5 (some ad) l.length c 0 0 Try.underlying42
  go_enter Try.func68, Try.ntmps68
  go_wp2_with (at_builtin; refine wpList_append_src _ rfl (.tmp 5) (.tmp 6) 42 42 rfl w.heap.size 5 _ _ 1 1 Try.underlying42 hi0 hz0 hz1 hz2 rfl _ 0 [] rfl (made_nil w _ _) _ l.length (bcells l) rfl (src_rd Try.underlying42 _ (Rd.alloc ha _) (by decide) (bcells_one _)) (by simp only [maxLen]; omega) (by omega) (by simp <;> omega) ?_; intro v1 w1 hown1 hg1 ha1)
  go_ret
  exact ⟨_, rfl, byt_of hown1 (by simp), ((Below.refl _ _).alloc (Nat.le_refl _) _).trans (grown_below (made_nil w _ 1) hg1 (by simp))⟩

theorem byt_slice {w : World} {base : Nat} {v : Value} {l : List UInt8} (h : Byt w base v l) : ∃ A c, v = .slice A l.length c ∧ l.length ≤ c ∧ c ≤ 9223372036854775807 ∧ Brd w A l := by
  obtain ⟨A, c, hv, hc, hm, hr⟩ := own_form h
  unfold maxLen at hm
  exact ⟨A, c, hv, hc, hm, hr⟩
end Go.Proofs.Ytpnkmkenmpbekaa
