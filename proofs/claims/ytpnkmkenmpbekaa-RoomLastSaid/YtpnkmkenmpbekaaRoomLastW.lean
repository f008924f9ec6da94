/-
  RoomLast: the walk: the law answers true; of what was there nothing has turned.
-/
import Derived.Test.YtpnkmkenmpbekaaRoomPlaysW
import Derived.Maps.RangeWalk
import Derived.Maps.OwnSet
import Derived.Maps.OwnOps
import Derived.Deep.DeepCutAuto
namespace Go.Proofs.Ytpnkmkenmpbekaa.roomLast
open Go.RowKit Go.ChangeShapes Go.WideShapes Go.ChangeAt Go.Deep Go.Maps Go.Proofs.Ytpnkmkenmpbekaa.roomPlays
set_option linter.unusedVariables false

theorem lawI : Keyed Try.prog 3 := int_keyed Try.underlying3
/-- The map holds just these numbers, each at its place. -/
structure Hld (D : DataW Unit) (L : List Int) : Prop where
  key : ∀ kl, Maps.has D kl = true → ∃ j : Nat, j < L.length ∧ kl = .int .i64 (j : Int)
  at_ : ∀ (j : Nat) (u : Int), L[j]? = some u → Maps.has D (.int .i64 (j : Int)) = true ∧ ∀ z, D.atKey (.int .i64 (j : Int)) z = .lit (.int .i64 u)
  size : Maps.size D = L.length
theorem hld_nil : Hld (.map []) [] := ⟨fun kl h => (by cases h), fun j u h => (by simp at h), rfl⟩
theorem setN_get {L : List Int} {k0 : Nat} {r : Int} (hk : k0 ≤ L.length) (hl : k0 < 256) (j : Nat) : (setN L (k0 : Int) r)[j]? = if j = k0 then some (cap r) else L[j]? := by
  have hE : setE L (k0 : Int) = 0 := by unfold setE; rw [if_neg (by omega), if_neg (by omega)]
  unfold setN
  rw [if_pos hE]
  unfold setL
  by_cases h : (k0 : Int) = (L.length : Int)
  · rw [if_pos h]
    have h' : k0 = L.length := by omega
    subst h'
    by_cases e : j = L.length
    · subst e; simp
    · rw [if_neg e]
      by_cases hlt : j < L.length
      · rw [List.getElem?_append_left hlt]
      · rw [List.getElem?_eq_none (by simp; omega), List.getElem?_eq_none (by omega)]
  · rw [if_neg h, Int.toNat_natCast]
    by_cases e : j = k0
    · subst e; rw [if_pos rfl, List.getElem?_set_self (by omega)]
    · rw [if_neg e, List.getElem?_set_ne (fun h => e h.symm)]
theorem setN_length {L : List Int} {k0 : Nat} {r : Int} (hk : k0 ≤ L.length) (hl : k0 < 256) : (setN L (k0 : Int) r).length = if k0 = L.length then L.length + 1 else L.length := by
  have hE : setE L (k0 : Int) = 0 := by unfold setE; rw [if_neg (by omega), if_neg (by omega)]
  unfold setN
  rw [if_pos hE]
  unfold setL
  by_cases h : k0 = L.length
  · rw [if_pos h, if_pos (by omega)]; simp
  · rw [if_neg h, if_neg (by omega)]; simp
theorem hld_put {D : DataW Unit} {L : List Int} {p r : Int} (hT : Maps.Tidy D) (h : Hld D L) (hE : setE L p = 0) : Hld (D.put (.int .i64 p) (.lit (.int .i64 (cap r)))) (setN L p r) := by
  have hp : 0 ≤ p ∧ p < 256 ∧ p ≤ (L.length : Int) := by
    unfold setE at hE
    by_cases h1 : p < 0 ∨ 256 ≤ p
    · rw [if_pos h1] at hE; cases hE
    · rw [if_neg h1] at hE
      by_cases h2 : (L.length : Int) < p
      · rw [if_pos h2] at hE; cases hE
      · omega
  obtain ⟨k0, rfl⟩ : ∃ k : Nat, p = (k : Int) := ⟨p.toNat, by omega⟩
  have hk : k0 ≤ L.length := by omega
  have hl : k0 < 256 := by omega
  have hM := hT.isMap
  have hlen := setN_length (r := r) hk hl
  have hhas : Maps.has D (.int .i64 (k0 : Int)) = decide (k0 < L.length) := by
    by_cases hlt : k0 < L.length
    · rw [(h.at_ k0 _ (List.getElem?_eq_getElem hlt)).1, decide_eq_true hlt]
    · rw [decide_eq_false hlt]
      cases hh : Maps.has D (.int .i64 (k0 : Int)) with
      | false => rfl
      | true =>
        obtain ⟨j, hj, e⟩ := h.key _ hh
        injection e with _ e
        omega
  refine ⟨fun kl hkl => ?_, fun j u hu => ?_, ?_⟩
  · by_cases e : kl = .int .i64 (k0 : Int)
    · exact ⟨k0, by rw [hlen]; split <;> omega, e⟩
    · rw [Maps.has_put_other e] at hkl
      obtain ⟨j, hj, e2⟩ := h.key kl hkl
      exact ⟨j, by rw [hlen]; split <;> omega, e2⟩
  · rw [setN_get hk hl] at hu
    by_cases e : j = k0
    · subst e
      rw [if_pos rfl] at hu
      injection hu with hu
      subst hu
      exact ⟨Maps.has_put_same hM (show WideAt.IsKeyLit (.int .i64 (j : Int)) from trivial) _, fun z => Maps.atKey_put_same hM (show WideAt.IsKeyLit (.int .i64 (j : Int)) from trivial) _ z⟩
    · rw [if_neg e] at hu
      obtain ⟨h1, h2⟩ := h.at_ j u hu
      have hne : (Lit.int .i64 (j : Int)) ≠ .int .i64 (k0 : Int) := fun e2 => by injection e2 with _ e2; omega
      exact ⟨by rw [Maps.has_put_other hne]; exact h1, fun z => by rw [Maps.atKey_put_other hne]; exact h2 z⟩
  · rw [Maps.size_put hT, hhas, hlen, h.size]
    by_cases hlt : k0 < L.length
    · rw [decide_eq_true hlt, if_pos rfl, if_neg (by omega)]
    · rw [decide_eq_false hlt, if_neg (by simp), if_pos (by omega)]
theorem hld_get {D : DataW Unit} {L : List Int} {x c : Int} (h : Hld D L) (hh : Maps.has D (.int .i64 x) = true) (hat : ∀ zd, D.atKey (.int .i64 x) zd = .lit (.int .i64 c)) : getI L x = c := by
  obtain ⟨j, hj, e⟩ := h.key _ hh
  injection e with _ e
  subst e
  have h2 := (h.at_ j _ (List.getElem?_eq_getElem hj)).2 (.lit (.int .i64 0))
  rw [hat] at h2
  injection h2 with h2
  injection h2 with _ h2
  unfold getI
  rw [if_neg (by omega), Int.toNat_natCast, List.getD_eq_getElem?_getD, List.getElem?_eq_getElem hj, Option.getD_some, h2]
theorem only_map {P : Program} {K : TypeId} {R : Value → Option (DataW Unit × List MemPlace)} {w w' : World} {g b n : Nat} {v v' : Value} {D : DataW Unit} (h : Only w w' g v v') (hm : w.ownsMap P K R b n D) (h1 : b ≠ g) (h2 : some b ≠ v.ownBlock) : w'.ownsMap P K R b n D := by
  obtain ⟨es, clock, hb, r⟩ := hm
  exact ⟨es, clock, (h.block b (Array.getElem?_eq_some_iff.1 hb).1 h1 h2).trans hb, r⟩
theorem map_ne {P : Program} {K e : TypeId} {R : Value → Option (DataW Unit × List MemPlace)} {w : World} {b n base size m : Nat} {v : Value} {xs : List Value} {D : DataW Unit} (hm : w.ownsMap P K R b n D) (ho : w.ownsRow base e size v m xs) : some b ≠ v.ownBlock := fun e => by
  obtain ⟨es, clock, hb, _⟩ := hm
  rcases ho.2 with ⟨rfl, _⟩ | ⟨g, c, r, rfl, _, hg, _⟩
  · cases e
  · have : b = g := by simpa [Value.ownBlock] using e
    subst this
    rw [hb] at hg
    cases hg
theorem room_grown {w w' : World} {base br g : Nat} {v : Value} {l : List Int} {row : Option Nat} (h : Room w base br g v l) (hg : w.grownBy w' row) (h1 : some g ≠ row) (h2 : v.ownBlock = none ∨ v.ownBlock ≠ row) : Room w' base br g v l :=
  ⟨h.box.kept hg (.inr h1), h.row.kept hg h2⟩
theorem grown_none {w w' : World} (h : w.grownBy w' none) : Below w.heap.size w w' := ⟨h.os, h.tape, h.output, h.size, fun k hk => h.block k hk (by simp)⟩
/-- What stands between the rounds. -/
structure St (w wr : World) (g B n : Nat) (v : Value) (D : DataW Unit) (L : List Int) : Prop where
  room : Room wr g w.heap.size g v L
  own : wr.ownsMap Try.prog 3 (plainElem Try.prog 3) B n D
  hld : Hld D L
  len : L.length ≤ 256
  below : Below w.heap.size w wr
  g0 : w.heap.size ≤ g
  B0 : w.heap.size ≤ B
section
variable {w wr w' : World} {g B n : Nat} {v v' : Value} {D : DataW Unit} {L L' : List Int}
theorem St.ne (h : St w wr g B n v D L) : B ≠ g := fun e => map_ne h.own h.room.box (by rw [e]; rfl)
theorem St.alloc (h : St w wr g B n v D L) (o : Obj) : St w (wr.alloc o) g B n v D L :=
  ⟨h.room.alloc o, h.own.kept (World.grownBy_alloc _ _ none) (by simp), h.hld, h.len, h.below.alloc h.below.size o, h.g0, h.B0⟩
end
set_option maxRecDepth 100000 in
set_option maxHeartbeats 4000000 in
theorem walk (A : Option Addr) (c : Nat) (l : List Step) (w : World) (r0 : Ord w A l) (n0 : l.length ≤ c) (m0 : c ≤ 9223372036854775807) :
    Calls Try.prog 3 #[.slice A l.length c] w fun e w' => e = .returned (.bool true) ∧ Below w.heap.size w w' := by
  have hmm := @run_makeMap Try.prog
  go_enter Try.func3, Try.ntmps3
  go_wp2_with fail
  refine (awake6_any _).mono ?_
  rintro e w1 ⟨rfl, hb1⟩
  have hz1 := hb1.size
  go_wp2_with fail
  refine (newroom_any w1 w.heap.size).mono ?_
  rintro e w2 ⟨rfl, hr2, hb2, hw2⟩
  have hz2 : w1.heap.size ≤ w2.heap.size := hb2.size
  clear hw2
  have hx2 : Below w.heap.size w w2 := hb1.trans (hb2.mono hz1)
  have hS0 : St w (w2.alloc (.map #[] 0)) w1.heap.size w2.heap.size 0 (.slice none 0 0) (.map []) [] :=
    ⟨hr2.alloc _, World.ownsMap_made _ _ _ _, hld_nil, by simp, hx2.alloc hx2.size _, hz1, hx2.size⟩
  go_wp2
  go_loopw [15] (fun iv wr => ∃ (k : Nat) (v : Value) (D : DataW Unit) (L : List Int), k ≤ l.length ∧ k ≤ 200 ∧ iv = .int .i64 (k : Int) ∧ St w wr w1.heap.size w2.heap.size k v D L) (fun iv _ => l.length - (intOf iv).toNat)
  case atStart => exact ⟨0, _, _, _, Nat.zero_le _, by omega, rfl, hS0⟩
  case round =>
    obtain ⟨k, v, D, L, hk, hk2, rfl, hS⟩ := hrel
    have hb := hS.below
    have hz := hb.size
    by_cases hend : k < l.length ∧ k < 200
    · obtain ⟨hlt, h200⟩ := hend
      obtain ⟨ad, rfl, q0, q1, q2⟩ := Ord.at_ (Rd.below r0 (hb.mono (Nat.le_refl _))) hlt
      have ix := idx_op ad l.length c k hlt
      generalize l[k] = o at *
      clear r0 hS0
      go_wp2_with fail
      have b := Bx.new wr 28 #[.int .i64 o.page, .int .i64 o.room, .int .i64 o.need] [.int .i64 o.page, .int .i64 o.room, .int .i64 o.need] rfl
      have SW := hS.alloc (.cells #[.int .i64 o.page, .int .i64 o.room, .int .i64 o.need] 28)
      have hsW : wr.heap.size < (wr.alloc (.cells #[.int .i64 o.page, .int .i64 o.room, .int .i64 o.need] 28)).heap.size := by simp
      have s1 : wr.heap.size ≠ w1.heap.size := by have := hS.room.lt; omega
      have s3 : some wr.heap.size ≠ v.ownBlock := fun e => by have := (hS.room.row.lt _ e.symm).2; omega
      clear hS hb q0 q1 q2
      generalize wr.alloc (.cells #[.int .i64 o.page, .int .i64 o.room, .int .i64 o.need] 28) = W at *
      generalize wr.heap.size = sl at *
      refine (set_all W w1.heap.size w.heap.size w1.heap.size v L o.page o.room SW.room SW.below.size SW.len).mono ?_
      rintro e w6 ⟨rfl, v6, o6, R6⟩
      have d0 := o6.held hsW s1 s3 (b.cell 0)
      have d1 := o6.held hsW s1 s3 (b.cell 1)
      have hn6 := SW.ne
      have m6 := only_map o6 SW.own hn6 (map_ne SW.own SW.room.row)
      have x6 : Below w.heap.size w w6 := SW.below.trans (o6.below SW.g0 (fun k e => (SW.room.row.lt k e).1) SW.below.size)
      have H6 := SW.hld
      have l6 := SW.len
      have hg0 := SW.g0
      have hB0 := SW.B0
      clear o6 SW b
      go_upto_if 28 with fail
      go_cut [15] (fun s wx => s = .int .i64 (k : Int) ∧ ∃ D', St w wx w1.heap.size w2.heap.size (k + 1) v6 D' (setN L o.page o.room))
      case first =>
        by_cases hE : setE L o.page = 0
        · have hEb : (setE L o.page == 0) = true := by rw [hE]; rfl
          have hp : 0 ≤ o.page ∧ o.page < 256 := by
            rcases set_cases L o.page l6 with ⟨_, e⟩ | ⟨_, e⟩ | ⟨h, _⟩ | ⟨h, _⟩
            · rw [hE] at e; cases e
            · rw [hE] at e; cases e
            · omega
            · omega
          have hq := hld_put (r := o.room) (m6.tidy lawI) H6 hE
          go_wp2_with (first
            | (at_mapUpdate; refine wpList_mapUpdate_own _ rfl _ _ _ 26 rfl 3 3 lawI Try.underlying26 _ w2.heap.size k D rfl m6 (by unfold maxLen; omega) _ _ _ rfl rfl (keyOf_int_mk Try.underlying3 (WalkArith.wf_i64 (by omega))) _ [] (plainElem_int Try.underlying3 (WalkArith.wf_i64 (by omega))) ?_; intro w7 m7 g7)
            | go_in)
          go_meet
          exact ⟨rfl, _, ⟨room_grown R6 g7 (fun e => by injection e with e; exact hn6 e.symm) (.inr fun e => map_ne m6 R6.row e.symm), m7, hq, setN_len l6, x6.trans (below_of_grown g7 hB0 x6.size), hg0, hB0⟩⟩
        · have hEb : (setE L o.page == 0) = false := beq_eq_false_iff_ne.2 hE
          have hN : setN L o.page o.room = L := if_neg hE
          rw [hN] at R6
          go_wp2
          go_meet
          exact ⟨rfl, _, ⟨by rw [hN]; exact R6, m6.mono (Nat.le_succ _), by rw [hN]; exact H6, by rw [hN]; exact l6, x6, hg0, hB0⟩⟩
      case rest =>
        obtain ⟨rfl, D', SC⟩ := hcut
        clear R6 m6 x6 H6 l6 d0 d1
        generalize setN L o.page o.room = L' at *
        go_wp2_with (first
          | (at_range; refine wpList_range_own _ rfl _ 26 rfl 3 3 lawI Try.underlying26 _ w2.heap.size (k + 1) D' rfl SC.own ?_; intro w8 hrg0 hg8 hs8)
          | go_in)
        go_frame
        have R8 := room_grown SC.room hg8 (by simp) (by cases v6.ownBlock <;> simp)
        have x8 : Below w.heap.size w w8 := SC.below.trans ((grown_none hg8).mono SC.below.size)
        go_loopw [7] (fun _ wr => ∃ (left : Lit → Bool) (cnt : Nat), wr.ranges Try.prog 3 (plainElem Try.prog 3) w2.heap.size wc.heap.size (k + 1) D' left cnt ∧ (∀ kl, left kl = true → Maps.has D' kl = true) ∧ Room wr w1.heap.size w.heap.size w1.heap.size v6 L' ∧ Below w.heap.size w wr) (fun _ wr => wr.rangeLeft w2.heap.size wc.heap.size)
        case atStart => exact ⟨_, _, hrg0, fun _ h => h, R8, x8⟩
        case round =>
          obtain ⟨left, cnt, hrg, hlf, hR, hx⟩ := hrel
          go_wp2_with (first
            | (at_next; refine wpList_next_ranges_ii _ rfl _ rfl 3 3 .i64 .i64 lawI Try.underlying3 Try.underlying3 w2.heap.size wc.heap.size (k + 1) _ _ _ rfl hrg ?_ ?_)
            | go_in)
          · intro _ _
            go_wp2
            go_roundw
            case rel => exact ⟨k + 1, v6, D', L', by omega, by omega, by go_num, ⟨hR, hrg.owns, SC.hld, SC.len, hx, SC.g0, SC.B0⟩⟩
            case measure => simp [intOf]; omega
          · intro x cc w9 cnt1 hwx hwc hlx hat hrg1 hlt9 hg9 hs9 hen
            have hgt := hld_get SC.hld (hlf _ hlx) hat
            have hR9 := room_grown hR hg9 (fun e => by have := hR.lt; injection e with e; have := SC.room.lt; omega) (by
              rcases hv : v6.ownBlock with _ | q
              · exact .inl rfl
              · exact .inr fun e => by injection e with e; have := (SC.room.row.lt q hv).2; omega)
            have hx9 : Below w.heap.size w w9 := hx.trans (below_of_grown hg9 (by have := SC.below.size; omega) hx.size)
            have gp := get_any w9 w1.heap.size w.heap.size w1.heap.size v6 L' x hR9
            rw [hgt] at gp
            have GP := Lib.hid gp
            clear gp hgt
            go_wp2_with (go_at_call 16; (with_reducible refine (GP.out).mono ?_); rintro e w10 ⟨rfl, hw1⟩; have hw := hw1.symm; subst hw)
            go_roundw
            case rel => exact ⟨_, cnt1, hrg1, fun kl h => hlf kl (by simp at h; exact h.1), hR9, hx9⟩
            case measure => rw [hrg1.left_eq, hrg.left_eq]; exact hlt9
    · have hsz := hS.hld.size
      clear hS0
      rcases (show k = l.length ∨ (k < l.length ∧ k = 200) by omega) with hkl | ⟨hlt, hkl⟩
      · have hown := hS.own
        have HPG := Lib.hid (pages_any wr _ _ _ _ _ hS.room)
        subst hkl
        clear r0
        go_wp2_with (first
          | (go_at_call 17; (with_reducible refine (HPG.out).mono ?_); rintro e w10 ⟨rfl, hw1⟩; have hw := hw1.symm; subst hw)
          | (at_len; refine wpList_len_own _ rfl _ 26 rfl 3 3 Try.underlying26 _ w2.heap.size _ D rfl hown ?_; simp only [hsz])
          | go_in)
        go_ret
        exact ⟨by simp, hb⟩
      · obtain ⟨ad, rfl, q0, q1, q2⟩ := Ord.at_ (Rd.below r0 (hb.mono (Nat.le_refl _))) hlt
        have ix := idx_op ad l.length c k hlt
        generalize l[k] = o at *
        have h200 : ¬ k < 200 := by omega
        clear hkl hk2
        have SW := hS.alloc (.cells #[.int .i64 o.page, .int .i64 o.room, .int .i64 o.need] 28)
        have hown := SW.own
        have HPG := Lib.hid (pages_any _ _ _ _ _ _ SW.room)
        have hbW := SW.below
        clear r0 SW hS
        go_wp2_with (first
          | (go_at_call 17; (with_reducible refine (HPG.out).mono ?_); rintro e w10 ⟨rfl, hw1⟩; have hw := hw1.symm; subst hw)
          | (at_len; refine wpList_len_own _ rfl _ 26 rfl 3 3 Try.underlying26 _ w2.heap.size _ D rfl hown ?_; simp only [hsz])
          | go_in)
        go_ret
        exact ⟨by simp, hbW⟩
end Go.Proofs.Ytpnkmkenmpbekaa.roomLast
