/-
  Pages, call by call, in terms of slots that hold versions.
-/
import Derived.Test.YtpnkmkenmpbekaaPageQ
namespace Go.Proofs.Ytpnkmkenmpbekaa
open Go.RowKit

/-- Block g is this page. -/
def Pge (w : World) (g : Nat) (P : Pg) : Prop := ∃ f, Pgm w g f ∧ Enc f P
section
variable {w w' : World} {g : Nat} {P : Pg}
theorem Pge.lt (h : Pge w g P) : g < w.heap.size := by obtain ⟨f, h1, _⟩ := h; exact h1.lt
theorem Pge.kept (h : Pge w g P) {row : Option Nat} (hg : w.grownBy w' row) (hne : row ≠ some g) : Pge w' g P := by obtain ⟨f, h1, h2⟩ := h; exact ⟨f, h1.kept hg hne, h2⟩
theorem Pge.below (h : Pge w g P) (hb : Below w.heap.size w w') : Pge w' g P := by obtain ⟨f, h1, h2⟩ := h; exact ⟨f, h1.below hb, h2⟩
theorem Pge.alloc (h : Pge w g P) (o : Obj) : Pge (w.alloc o) g P := by obtain ⟨f, h1, h2⟩ := h; exact ⟨f, h1.alloc o, h2⟩
theorem Pge.drew (h : Pge w g P) : Pge w.drew g P := h
theorem Pge.drewN (h : Pge w g P) (n : Nat) : Pge (w.drewN n) g P := h
end
def Pg0 : Pg := ⟨[], 512⟩
/-- What slot x holds. -/
def getP (P : Pg) (x : Int) : Option Ver := if 0 ≤ x then (match P.L[x.toNat]? with | some (some (_, v)) => some v | _ => none) else none
theorem getP_has {P : Pg} {x : Int} {v : Ver} (h : getP P x = some v) : ∃ (k a : Nat), x = (k : Int) ∧ P.has k a v := by
  unfold getP at h
  by_cases c : 0 ≤ x
  · rw [if_pos c] at h
    cases hs : P.L[x.toNat]? with
    | none => rw [hs] at h; cases h
    | some o =>
      cases o with
      | none => rw [hs] at h; cases h
      | some q =>
        rw [hs] at h
        have e : q.2 = v := by simpa using h
        exact ⟨x.toNat, q.1, by omega, by subst e; exact hs⟩
  · rw [if_neg c] at h; cases h
theorem getP_of {P : Pg} {k a : Nat} {v : Ver} (h : P.has k a v) : getP P (k : Int) = some v := by
  unfold getP
  unfold Pg.has at h
  rw [if_pos (by omega), Int.toNat_natCast, h]
theorem Enc.hasF {f : Nat → UInt8} {P : Pg} (h : Enc f P) (x : Int) : Go.Proofs.Ytpnkmkenmpbekaa.hasF f x = (getP P x).isSome := by
  rw [Bool.eq_iff_iff]
  constructor
  · intro hh
    obtain ⟨k, rfl, hk, hfr⟩ := hasF_yes hh
    rw [h.n] at hk
    obtain ⟨a, v, hv⟩ := h.has_of hk hfr
    rw [getP_of hv]; rfl
  · intro hh
    obtain ⟨v, hv⟩ := Option.isSome_iff_exists.1 hh
    obtain ⟨k, a, rfl, hk⟩ := getP_has hv
    unfold Go.Proofs.Ytpnkmkenmpbekaa.hasF
    rw [decide_eq_true (by omega), decide_eq_true (by rw [h.n]; have := Pg.has_lt hk; omega), Int.toNat_natCast, h.fr_has hk]; rfl
instance (v : Ver) : Decidable v.ok := by unfold Ver.ok; infer_instance
def insE (P : Pg) (v : Ver) : Int := if v.ok then (if P.room < (v.d.length : Int) then 12 else 0) else 3
def insS (P : Pg) (v : Ver) : Int := if insE P v = 0 then (P.low : Int) else 0
def insN (P : Pg) (v : Ver) : Pg := if insE P v = 0 then insP P v else P
theorem pnewE_any (w : World) :
    Calls Try.prog 19 #[] w fun e w' => e = .returned (.pointer (some ⟨w.heap.size, 0, none⟩)) ∧ Pge w' w.heap.size Pg0 ∧ Below w.heap.size w w' := by
  refine (pnew_any w).mono ?_
  rintro e w' ⟨rfl, h1, h2, _⟩
  exact ⟨rfl, ⟨_, h1, enc_new⟩, h2⟩
def Ver.val (v : Ver) (dv : Value) : Value := tupV v.r v.x v.m v.p v.s dv
theorem insE_any (w : World) (g : Nat) (P : Pg) (v : Ver) (A : Option Addr) (c : Nat) (h : Pge w g P) (hd : Rd w 1 A v.d.length (bcells v.d)) (hA : ∀ ad : Addr, A = some ad → ad.block ≠ g) :
    Calls Try.prog 39 #[.pointer (some ⟨g, 0, none⟩), v.val (.slice A v.d.length c)] w fun e w' => e = .returned (.tuple #[.int .i64 (insS P v), .int .i64 (insE P v)]) ∧ Pge w' g (insN P v) ∧ w.grownBy w' (some g) := by
  obtain ⟨f, hp, he⟩ := h
  by_cases hok : v.ok
  · by_cases hr : P.room < (v.d.length : Int)
    · have e1 : insE P v = 12 := by unfold insE; rw [if_pos hok, if_pos hr]
      rw [e1, show insS P v = 0 by unfold insS; rw [if_neg (by rw [e1]; decide)], show insN P v = P by unfold insN; rw [if_neg (by rw [e1]; decide)]]
      refine (pins_full w g f v.r v.x v.m c v.d.length v.p v.s A hp he.snd.slots hok (by rw [he.room_]; exact hr)).mono ?_
      rintro e w' ⟨rfl, hb⟩
      exact ⟨rfl, ⟨f, hp.below hb, he⟩, grown_of_below hb _⟩
    · have e1 : insE P v = 0 := by unfold insE; rw [if_pos hok, if_neg hr]
      rw [e1, show insS P v = P.low by unfold insS; rw [if_pos e1], show insN P v = insP P v by unfold insN; rw [if_pos e1]]
      refine (pins_ok w g f v.r v.x v.m c v.p v.s A v.d hp he.mov hok (by rw [he.room_]; omega) hd hA).mono ?_
      rintro e w' ⟨rfl, h1, h2⟩
      rw [he.low_]
      exact ⟨rfl, ⟨_, h1, he.ins hok (by omega)⟩, h2⟩
  · have e1 : insE P v = 3 := by unfold insE; rw [if_neg hok]
    rw [e1, show insS P v = 0 by unfold insS; rw [if_neg (by rw [e1]; decide)], show insN P v = P by unfold insN; rw [if_neg (by rw [e1]; decide)]]
    refine (pins_form w g v.r v.x v.m c v.d.length v.p v.s A (by unfold Ver.ok at hok; simpa using hok)).mono ?_
    rintro e w' ⟨rfl, hb⟩
    exact ⟨rfl, ⟨f, hp.below hb, he⟩, grown_of_below hb _⟩
def stpE (P : Pg) (x : Int) (m : Nat) (p s : Int) : Int := if 1099511627776 < m ∨ vnB p s = false then 3 else if (getP P x).isSome = false then 15 else 0
def stpP (P : Pg) (x : Int) (m : Nat) (p s : Int) : Pg := match P.L[x.toNat]? with
  | some (some (a, v)) => ⟨P.L.set x.toNat (some (a, ⟨v.r, v.x, m, p, s, v.d⟩)), P.start⟩
  | _ => P
def stpN (P : Pg) (x : Int) (m : Nat) (p s : Int) : Pg := if stpE P x m p s = 0 then stpP P x m p s else P
theorem stpE_any (w : World) (g : Nat) (P : Pg) (x : Int) (m : Nat) (p s : Int) (h : Pge w g P) :
    Calls Try.prog 40 #[.pointer (some ⟨g, 0, none⟩), .int .i64 x, .int .u64 (m : Int), .agg #[.int .i64 p, .int .i64 s]] w fun e w' => e = .returned (.int .i64 (stpE P x m p s)) ∧ Pge w' g (stpN P x m p s) ∧ w.grownBy w' (some g) := by
  obtain ⟨f, hp, he⟩ := h
  have hE : stE f x m p s = stpE P x m p s := by unfold stE stpE; rw [he.hasF]
  refine (stampS_any w g f x m p s hp he.snd).mono ?_
  rintro e w' ⟨rfl, h1, h2⟩
  rw [hE] at h1 ⊢
  refine ⟨rfl, ?_, h2⟩
  unfold stpN
  by_cases c : stpE P x m p s = 0
  · rw [if_pos c] at h1 ⊢
    refine ⟨_, h1, ?_⟩
    have hv : ∃ v, getP P x = some v ∧ ¬ 1099511627776 < m ∧ vnB p s = true := by
      unfold stpE at c
      by_cases c1 : 1099511627776 < m ∨ vnB p s = false
      · rw [if_pos c1] at c; cases c
      · rw [if_neg c1] at c
        by_cases c2 : (getP P x).isSome = false
        · rw [if_pos c2] at c; cases c
        · obtain ⟨v, hv⟩ := Option.isSome_iff_exists.1 (show (getP P x).isSome = true by cases hq : (getP P x).isSome; exact absurd hq c2; rfl)
          exact ⟨v, hv, fun e => c1 (.inl e), by cases hb : vnB p s; exact absurd (.inr hb) c1; rfl⟩
    obtain ⟨v, hv, c3, c4⟩ := hv
    obtain ⟨k, a, rfl, hk⟩ := getP_has hv
    obtain ⟨e1, _, _, _, e5, _⟩ := he.some_ k a v hk
    have e5' := of_decide_eq_true e5
    rw [Int.toNat_natCast, e1]
    have hst : stpP P (k : Int) m p s = ⟨P.L.set k (some (a, ⟨v.r, v.x, m, p, s, v.d⟩)), P.start⟩ := by
      unfold stpP
      unfold Pg.has at hk
      rw [Int.toNat_natCast, hk]
    rw [hst]
    exact he.stamp hk (decide_eq_true ⟨e5'.1, e5'.2.1, show m ≤ 1099511627776 by omega, c4, e5'.2.2.2.2⟩)
  · rw [if_neg c] at h1 ⊢
    exact ⟨f, h1, he⟩
def freE (P : Pg) (x : Int) : Int := if (getP P x).isSome then 0 else 15
def freN (P : Pg) (x : Int) : Pg := if (getP P x).isSome then freeP P x.toNat else P
theorem nS_frF2 {f : Nat → UInt8} {P : Pg} (he : Enc f P) {k a : Nat} {v : Ver} (hk : P.has k a v) : nS (frF2 f k) ≤ 127 := by
  have := (he.drop hk)
  rw [this.n]; exact this.len
theorem freE_any (w : World) (g : Nat) (P : Pg) (x : Int) (h : Pge w g P) :
    Calls Try.prog 41 #[.pointer (some ⟨g, 0, none⟩), .int .i64 x] w fun e w' => e = .returned (.int .i64 (freE P x)) ∧ Pge w' g (freN P x) ∧ w.grownBy w' (some g) := by
  obtain ⟨f, hp, he⟩ := h
  unfold freE freN
  cases hg : getP P x with
  | none =>
    refine (pfree_no w g f x hp he.snd.slots (by rw [he.hasF, hg]; rfl)).mono ?_
    rintro e w' ⟨rfl, rfl⟩
    exact ⟨rfl, ⟨f, hp, he⟩, World.grownBy.refl _ _⟩
  | some v =>
    obtain ⟨k, a, rfl, hk⟩ := getP_has hg
    refine (pfree_yes w g f (k : Int) k rfl hp he.snd (by rw [he.n]; exact Pg.has_lt hk) (he.fr_has hk) (nS_frF2 he hk)).mono ?_
    rintro e w' ⟨rfl, h1, h2⟩
    exact ⟨rfl, ⟨_, h1, he.free_ hk⟩, h2⟩
theorem roomE_any (w : World) (g : Nat) (P : Pg) (h : Pge w g P) :
    Calls Try.prog 25 #[.pointer (some ⟨g, 0, none⟩)] w fun e w' => e = .returned (.int .i64 P.room) ∧ w' = w := by
  obtain ⟨f, hp, he⟩ := h
  have := proom_any w g f hp he.snd.slots
  rwa [he.room_] at this
theorem slotsE_any (w : World) (g : Nat) (P : Pg) (h : Pge w g P) :
    Calls Try.prog 29 #[.pointer (some ⟨g, 0, none⟩)] w fun e w' => e = .returned (.int .i64 (P.L.length : Int)) ∧ w' = w := by
  obtain ⟨f, hp, he⟩ := h
  have := slots_any w g f hp
  rwa [he.n] at this
/-- How many slots hold a version. -/
def Pg.used (P : Pg) : Nat := P.L.countP (·.isSome)
theorem Enc.used {f : Nat → UInt8} {P : Pg} (h : Enc f P) : ∀ {n : Nat}, n ≤ P.L.length → usedF f n = (P.L.take n).countP (·.isSome)
  | 0, _ => rfl
  | n + 1, hn => by
    have hs : P.L[n]? = some (P.L[n]'(by omega)) := List.getElem?_eq_getElem (by omega)
    rw [List.take_succ_eq_append_getElem (by omega), List.countP_append, ← h.used (n := n) (by omega)]
    show usedF f n + (if Go.Proofs.Ytpnkmkenmpbekaa.fr f n then 0 else 1) = _
    congr 1
    cases hq : P.L[n]'(by omega) with
    | none => rw [hq] at hs; rw [if_pos ((h.fr (by omega)).2 hs)]; rfl
    | some q => rw [hq] at hs; rw [if_neg (by rw [h.fr_has (a := q.1) (v := q.2) hs]; simp)]; rfl
theorem usedE_any (w : World) (g : Nat) (P : Pg) (h : Pge w g P) :
    Calls Try.prog 27 #[.pointer (some ⟨g, 0, none⟩)] w fun e w' => e = .returned (.int .i64 (P.used : Int)) ∧ w' = w := by
  obtain ⟨f, hp, he⟩ := h
  have := used_any w g f hp he.snd.slots
  rw [he.n, he.used (Nat.le_refl _), List.take_length] at this
  exact this
theorem le_ver {f : Nat → UInt8} {P : Pg} (h : Enc f P) {k a : Nat} {v : Ver} (hk : P.has k a v) :
    le f a 8 = v.r ∧ le f (a + 8) 8 = v.x ∧ le f (a + 16) 8 = v.m ∧ (le f (a + 24) 4 : Int) - 1 = v.p ∧ (le f (a + 28) 2 : Int) - 1 = v.s ∧ btl f (a + 30) v.d.length = v.d := by
  obtain ⟨_, _, _, _, e5, e6⟩ := h.some_ k a v hk
  obtain ⟨o1, o2, o3, o4, o5⟩ := of_decide_eq_true e5
  have o4' := of_decide_eq_true o4
  have hz : v.sz = 30 + v.d.length := rfl
  have hb : ∀ j, v.bytes.getD j 0 = (pk v.r v.x v.m v.p v.s v.d).getD j 0 := fun _ => rfl
  have hpre : ∀ j, j < 8 → (leb v.r 8 ++ leb v.x 8).getD j 0 = dg v.r j := fun j hj => by
    rw [List.getD_eq_getElem?_getD, List.getElem?_append_left (by rw [leb_length]; exact hj), ← List.getD_eq_getElem?_getD, leb_get _ hj]
  have hpre2 : ∀ j, j < 8 → (leb v.r 8 ++ leb v.x 8).getD (8 + j) 0 = dg v.x j := fun j hj => by
    rw [List.getD_eq_getElem?_getD, List.getElem?_append_right (by rw [leb_length]; omega), ← List.getD_eq_getElem?_getD, leb_length, Nat.add_sub_cancel_left, leb_get _ hj]
  have hS : ∀ j, (pkS v.m v.p v.s).getD j 0 = (leb v.m 8 ++ leb (v.p + 1).toNat 4 ++ leb (v.s + 1).toNat 2).getD j 0 := fun _ => rfl
  have hS1 : ∀ j, j < 8 → (pkS v.m v.p v.s).getD j 0 = dg v.m j := fun j hj => by
    rw [hS, List.append_assoc, List.getD_eq_getElem?_getD, List.getElem?_append_left (by rw [leb_length]; exact hj), ← List.getD_eq_getElem?_getD, leb_get _ hj]
  have hS2 : ∀ j, j < 4 → (pkS v.m v.p v.s).getD (8 + j) 0 = dg (v.p + 1).toNat j := fun j hj => by
    rw [hS, List.append_assoc, List.getD_eq_getElem?_getD, List.getElem?_append_right (by rw [leb_length]; omega), leb_length, Nat.add_sub_cancel_left, List.getElem?_append_left (by rw [leb_length]; exact hj), ← List.getD_eq_getElem?_getD, leb_get _ hj]
  have hS3 : ∀ j, j < 2 → (pkS v.m v.p v.s).getD (12 + j) 0 = dg (v.s + 1).toNat j := fun j hj => by
    rw [hS, List.append_assoc, List.getD_eq_getElem?_getD, List.getElem?_append_right (by rw [leb_length]; omega), leb_length, List.getElem?_append_right (by rw [leb_length]; omega), leb_length, show 12 + j - 8 - 4 = j by omega, ← List.getD_eq_getElem?_getD, leb_get _ hj]
  refine ⟨?_, ?_, ?_, ?_, ?_, ?_⟩
  · rw [le_dg (n := v.r) fun j hj => by rw [e6 j (by omega), hb, pk_pre (by omega), hpre j hj]]
    exact Nat.mod_eq_of_lt (by omega)
  · rw [le_dg (n := v.x) fun j hj => by rw [Nat.add_assoc, e6 (8 + j) (by omega), hb, pk_pre (by omega), hpre2 j hj]]
    exact Nat.mod_eq_of_lt (by omega)
  · rw [le_dg (n := v.m) fun j hj => by rw [Nat.add_assoc, e6 (16 + j) (by omega), hb, pk_mid (by omega), hS1 j hj]]
    exact Nat.mod_eq_of_lt (by omega)
  · rw [le_dg (n := (v.p + 1).toNat) fun j hj => by rw [Nat.add_assoc, e6 (24 + j) (by omega), hb, show 24 + j = 16 + (8 + j) by omega, pk_mid (by omega), hS2 j hj]]
    rw [Nat.mod_eq_of_lt (by omega)]; omega
  · rw [le_dg (n := (v.s + 1).toNat) fun j hj => by rw [Nat.add_assoc, e6 (28 + j) (by omega), hb, show 28 + j = 16 + (12 + j) by omega, pk_mid (by omega), hS3 j hj]]
    rw [Nat.mod_eq_of_lt (by omega)]; omega
  · apply List.ext_getElem?
    intro j
    by_cases hj : j < v.d.length
    · rw [btl_get f _ hj, Nat.add_assoc, e6 (30 + j) (by omega), hb, pk_end, List.getD_eq_getElem?_getD, List.getElem?_eq_getElem hj]; rfl
    · rw [List.getElem?_eq_none (by rw [btl_length]; omega), List.getElem?_eq_none (by omega)]
theorem getE_no (w : World) (g : Nat) (P : Pg) (x : Int) (h : Pge w g P) (hg : getP P x = none) :
    Calls Try.prog 30 #[.pointer (some ⟨g, 0, none⟩), .int .i64 x] w fun e w' => e = .returned (.tuple #[noTup, .bool false]) ∧ Below w.heap.size w w' := by
  obtain ⟨f, hp, he⟩ := h
  exact get_no w g f x hp he.snd.slots (by rw [he.hasF, hg]; rfl)
theorem getE_yes (w : World) (g : Nat) (P : Pg) (x : Int) (v : Ver) (h : Pge w g P) (hg : getP P x = some v) :
    Calls Try.prog 30 #[.pointer (some ⟨g, 0, none⟩), .int .i64 x] w fun e w' => ∃ dv, e = .returned (.tuple #[v.val dv, .bool true]) ∧ Byt w' w.heap.size dv v.d ∧ Below w.heap.size w w' := by
  obtain ⟨f, hp, he⟩ := h
  obtain ⟨k, a, rfl, hk⟩ := getP_has hg
  obtain ⟨e1, e2, _, _, _, _⟩ := he.some_ k a v hk
  obtain ⟨l1, l2, l3, l4, l5, l6⟩ := le_ver he hk
  have := get_yes w g f (k : Int) k rfl hp he.snd (by rw [he.n]; exact Pg.has_lt hk) (he.fr_has hk)
  rw [e1, e2, l1, l2, l3, l4, l5, show v.sz - 30 = v.d.length by unfold Ver.sz; omega, l6] at this
  exact this
/-- A page's bytes. -/
def pgB (P : Pg) (l : List UInt8) : Prop := ∃ f, Enc f P ∧ l = btl f 0 512
set_option maxRecDepth 100000 in
theorem pgB_one {P : Pg} {l m : List UInt8} (h : pgB P l) (h' : pgB P m) : l = m := by
  obtain ⟨f, he, rfl⟩ := h
  obtain ⟨g, he', rfl⟩ := h'
  unfold btl
  refine List.map_congr_left fun j hj => ?_
  rw [Nat.zero_add]
  exact he.one he' j (List.mem_range.1 hj)
set_option maxRecDepth 100000 in
theorem pgB_len {P : Pg} {l : List UInt8} (h : pgB P l) : l.length = 512 := by
  obtain ⟨f, _, rfl⟩ := h; exact btl_length _ _ _
set_option maxRecDepth 100000 in
theorem bytesE_any (w : World) (g : Nat) (P : Pg) (h : Pge w g P) :
    Calls Try.prog 23 #[.pointer (some ⟨g, 0, none⟩)] w fun e w' => ∃ v l, e = .returned v ∧ pgB P l ∧ Byt w' w.heap.size v l ∧ Below w.heap.size w w' := by
  obtain ⟨f, hp, he⟩ := h
  refine (pbytes_any w g f hp).mono ?_
  rintro e w' ⟨v, rfl, h1, h2⟩
  exact ⟨v, _, rfl, ⟨f, he, rfl⟩, h1, h2⟩
end Go.Proofs.Ytpnkmkenmpbekaa
