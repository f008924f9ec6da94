/-
  Pages, the plain side: a page full of versions of one size.
-/
import Derived.Test.YtpnkmkenmpbekaaPageR
namespace Go.Proofs.Ytpnkmkenmpbekaa

/-- All n slots hold v. -/
structure Ful (P : Pg) (v : Ver) (n : Nat) : Prop where
  len : P.L.length = n
  all : ∀ j, j < n → ∃ a, P.has j a v
/-- All n slots but q hold v; q holds nothing. -/
structure Gap (P : Pg) (v : Ver) (n q : Nat) : Prop where
  len : P.L.length = n
  lt : q < n
  all : ∀ j, j < n → j ≠ q → ∃ a, P.has j a v
  gap : P.L[q]? = some none
theorem tot_all {s : Nat} : ∀ {l : List Sl}, (∀ (j : Nat) x, l[j]? = some x → x.sz = s) → tot l = l.length * s
  | [], _ => by simp [tot]
  | a :: l, h => by
    have h0 := h 0 a rfl
    rw [tot_cons, h0, tot_all (l := l) (fun j x hx => h (j + 1) x (by simpa using hx)), List.length_cons, Nat.add_mul, Nat.one_mul]
    omega
theorem lowN_all {L : List Sl} : ∀ {n : Nat}, (∀ j, j < n → L[j]? ≠ some none) → lowN L n = n
  | 0, _ => rfl
  | n + 1, h => by
    have ih := lowN_all (L := L) (n := n) fun j hj => h j (by omega)
    unfold lowN
    rw [ih, if_neg (by omega), if_neg (by rw [noneAt_iff]; exact h n (by omega))]
theorem lowN_at {L : List Sl} {q : Nat} (hq : L[q]? = some none) : ∀ {n : Nat}, q < n → (∀ j, j < q → L[j]? ≠ some none) → lowN L n = q
  | 0, h, _ => by omega
  | n + 1, h, ha => by
    unfold lowN
    by_cases c : q < n
    · rw [lowN_at hq c ha, if_pos c]
    · have e : q = n := by omega
      subst e
      rw [lowN_all ha, if_neg (by omega), if_pos (noneAt_iff.2 hq)]
section
variable {P : Pg} {v : Ver} {n q : Nat}
theorem has_ne {j a : Nat} (h : P.has j a v) : P.L[j]? ≠ some none := by unfold Pg.has at h; rw [h]; simp
theorem Ful.tot (h : Ful P v n) : Go.Proofs.Ytpnkmkenmpbekaa.tot P.L = n * v.sz := by
  rw [tot_all (s := v.sz) fun j x hx => ?_, h.len]
  have hj := (List.getElem?_eq_some_iff.1 hx).1
  rw [h.len] at hj
  obtain ⟨a, ha⟩ := h.all j hj
  unfold Pg.has at ha
  rw [ha] at hx
  injection hx with hx
  subst hx
  rfl
theorem Ful.low (h : Ful P v n) : P.low = n := by
  unfold Pg.low
  rw [h.len]
  exact lowN_all fun j hj => by obtain ⟨a, ha⟩ := h.all j hj; exact has_ne ha
theorem Ful.mm (h : Ful P v n) : P.mm = n + 1 := by unfold Pg.mm; rw [h.low, h.len]; omega
theorem Ful.room (h : Ful P v n) : P.room = max (512 - (4 + 4 * ((n + 1 : Nat) : Int)) - 30 - ((n * v.sz : Nat) : Int)) (-1) := by
  unfold Pg.room; rw [h.mm, h.tot]
theorem Gap.tot (h : Gap P v n q) : Go.Proofs.Ytpnkmkenmpbekaa.tot P.L + v.sz = n * v.sz := by
  have hq := h.lt
  have h1 : Ful ⟨P.L.set q (some (0, v)), 0⟩ v n := by
    refine ⟨by rw [List.length_set]; exact h.len, fun j hj => ?_⟩
    by_cases e : j = q
    · subst e; exact ⟨0, (Pg.has_set (by rw [h.len]; exact hq)).2 (.inl ⟨rfl, rfl⟩)⟩
    · obtain ⟨a, ha⟩ := h.all j hj e
      exact ⟨a, (Pg.has_set (by rw [h.len]; exact hq)).2 (.inr ⟨e, ha⟩)⟩
  have h2 := h1.tot
  have h3 := tot_set (t := (some (0, v) : Sl)) h.gap
  have e0 : Sl.sz none = 0 := rfl
  have e1 : Sl.sz (some (0, v)) = v.sz := rfl
  have h2' : Go.Proofs.Ytpnkmkenmpbekaa.tot (P.L.set q (some (0, v))) = n * v.sz := h2
  omega
theorem Gap.low (h : Gap P v n q) : P.low = q := by
  unfold Pg.low
  rw [h.len]
  exact lowN_at h.gap h.lt fun j hj => by obtain ⟨a, ha⟩ := h.all j (by have := h.lt; omega) (by omega); exact has_ne ha
theorem Gap.mm (h : Gap P v n q) : P.mm = n := by unfold Pg.mm; rw [h.low, h.len]; have := h.lt; omega
theorem ins0P_has {P : Pg} {w : Ver} {k : Nat} : (∃ a, (ins0P P w).has k a v) ↔ ∃ a, P.has k a v := by
  unfold ins0P
  split
  · constructor
    · rintro ⟨a, h⟩; exact (mvL_some.1 h).2
    · rintro ⟨a, h⟩; exact ⟨_, mvL_some.2 ⟨rfl, a, h⟩⟩
  · exact Iff.rfl
theorem Ful.add (h : Ful P v n) : Ful (insP P v) v (n + 1) := by
  refine ⟨by rw [insP_len, h.mm], fun j hj => ?_⟩
  have hl := ins0P_len P v
  have hi : (insP P v).L = (ins0P P v).L ++ [some ((ins0P P v).start - v.sz, v)] := by unfold insP; rw [h.low, h.len, if_neg (by omega)]
  unfold Pg.has
  rw [hi]
  by_cases e : j < n
  · obtain ⟨a, ha⟩ := ins0P_has.2 (h.all j e)
    exact ⟨a, by rw [List.getElem?_append_left (by rw [hl, h.len]; exact e)]; exact ha⟩
  · exact ⟨_, by rw [List.getElem?_append_right (by rw [hl, h.len]; omega), hl, h.len, show j - n = 0 by omega]; rfl⟩
theorem Gap.add (h : Gap P v n q) : Ful (insP P v) v n := by
  refine ⟨by rw [insP_len, h.mm], fun j hj => ?_⟩
  have hl := ins0P_len P v
  have hq := h.lt
  have hi : (insP P v).L = (ins0P P v).L.set q (some ((ins0P P v).start - v.sz, v)) := by unfold insP; rw [h.low, h.len, if_pos hq]
  unfold Pg.has
  rw [hi]
  by_cases e : j = q
  · subst e; exact ⟨_, List.getElem?_set_self (by rw [hl, h.len]; exact hq)⟩
  · obtain ⟨a, ha⟩ := ins0P_has.2 (h.all j hj e)
    exact ⟨a, by rw [List.getElem?_set_ne (fun e' => e e'.symm)]; exact ha⟩
theorem Gap.room (h : Gap P v n q) : P.room = max (512 - (4 + 4 * (n : Int)) - 30 - (Go.Proofs.Ytpnkmkenmpbekaa.tot P.L : Int)) (-1) := by
  unfold Pg.room; rw [h.mm]
theorem trimN_self {L : List Sl} {n : Nat} (h : ∀ j, j + 1 = n → L[j]? ≠ some none) : trimN L n = n := by
  cases n with
  | zero => rfl
  | succ n => unfold trimN; rw [if_neg (by rw [noneAt_iff]; exact h n rfl)]
/-- What Free leaves of a full page. -/
theorem Ful.freed (h : Ful P v n) (hq : q < n) : freE P (q : Int) = 0 ∧ (if q + 1 = n then Ful (freN P (q : Int)) v q else Gap (freN P (q : Int)) v n q) := by
  obtain ⟨a, ha⟩ := h.all q hq
  have hg := getP_of ha
  have hN : freN P (q : Int) = freeP P q := by unfold freN; rw [hg, if_pos (by rfl), Int.toNat_natCast]
  refine ⟨by unfold freE; rw [hg]; rfl, ?_⟩
  rw [hN]
  have hset : ∀ j, (P.L.set q none)[j]? = if j = q then some none else P.L[j]? := fun j => by
    by_cases e : j = q
    · subst e; rw [if_pos rfl, List.getElem?_set_self (by rw [h.len]; exact hq)]
    · rw [if_neg e, List.getElem?_set_ne (fun e' => e e'.symm)]
  have hlen : (P.L.set q none).length = n := by rw [List.length_set]; exact h.len
  have hF : freeP P q = ⟨(P.L.set q none).take (trimN (P.L.set q none) n), P.start⟩ := by unfold freeP trimP; rw [hlen]
  by_cases c : q + 1 = n
  · rw [if_pos c]
    have ht : trimN (P.L.set q none) n = q := by
      rw [← c]
      unfold trimN
      rw [if_pos (noneAt_iff.2 (by rw [hset, if_pos rfl]))]
      exact trimN_self fun j hj => by
        rw [hset, if_neg (by omega)]
        obtain ⟨b, hb⟩ := h.all j (by omega)
        exact has_ne hb
    rw [hF, ht]
    refine ⟨by rw [List.length_take, hlen]; omega, fun j hj => ?_⟩
    obtain ⟨b, hb⟩ := h.all j (by omega)
    exact ⟨b, by unfold Pg.has; show ((P.L.set q none).take q)[j]? = _; rw [List.getElem?_take_of_lt hj, hset, if_neg (by omega)]; exact hb⟩
  · rw [if_neg c]
    have ht : trimN (P.L.set q none) n = n := trimN_self fun j hj => by
      rw [hset, if_neg (by omega)]
      obtain ⟨b, hb⟩ := h.all j (by omega)
      exact has_ne hb
    rw [hF, ht, List.take_of_length_le (by rw [hlen]; exact Nat.le_refl _)]
    refine ⟨hlen, hq, fun j hj hne => ?_, by show (P.L.set q none)[q]? = _; rw [hset, if_pos rfl]⟩
    obtain ⟨b, hb⟩ := h.all j hj
    exact ⟨b, by unfold Pg.has; show (P.L.set q none)[j]? = _; rw [hset, if_neg hne]; exact hb⟩
theorem Ful.insE_ok (h : Ful P v n) (hok : v.ok) (hfit : (n + 1) * (4 + v.sz) ≤ 508) : insE P v = 0 := by
  have hz : v.sz = 30 + v.d.length := rfl
  have e : (n + 1) * (4 + v.sz) = 4 * (n + 1) + n * v.sz + v.sz := by rw [Nat.mul_add, Nat.add_mul n 1 v.sz]; omega
  unfold insE
  rw [if_pos hok, h.room, if_neg (by omega)]
theorem Ful.insE_full (h : Ful P v n) (hok : v.ok) (hfull : 508 < (n + 1) * (4 + v.sz)) : insE P v = 12 := by
  have hz : v.sz = 30 + v.d.length := rfl
  have e : (n + 1) * (4 + v.sz) = 4 * (n + 1) + n * v.sz + v.sz := by rw [Nat.mul_add, Nat.add_mul n 1 v.sz]; omega
  unfold insE
  rw [if_pos hok, h.room, if_pos (by omega)]
/-- Full again. -/
theorem Ful.refill (h : Ful P v n) (hq : q < n) (hok : v.ok) (hfit : n * (4 + v.sz) ≤ 508) :
    freE P (q : Int) = 0 ∧ insE (freN P (q : Int)) v = 0 ∧ insS (freN P (q : Int)) v = (q : Int) ∧ Ful (insN (freN P (q : Int)) v) v n := by
  obtain ⟨e1, e2⟩ := h.freed hq
  generalize freN P (q : Int) = Q at *
  by_cases c : q + 1 = n
  · rw [if_pos c] at e2
    subst c
    have hE := e2.insE_ok hok hfit
    exact ⟨e1, hE, by unfold insS; rw [if_pos hE, e2.low], by unfold insN; rw [if_pos hE]; exact e2.add⟩
  · rw [if_neg c] at e2
    have hz : v.sz = 30 + v.d.length := rfl
    have ht := e2.tot
    have e : n * (4 + v.sz) = 4 * n + n * v.sz := by rw [Nat.mul_add]; omega
    have hE : insE Q v = 0 := by
      unfold insE
      rw [if_pos hok, e2.room, if_neg (by omega)]
    exact ⟨e1, hE, by unfold insS; rw [if_pos hE, e2.low], by unfold insN; rw [if_pos hE]; exact e2.add⟩
theorem Ful.used (h : Ful P v n) : P.used = n := by
  unfold Pg.used
  rw [List.countP_eq_length.2 fun x hx => ?_, h.len]
  obtain ⟨j, hj, rfl⟩ := List.getElem_of_mem hx
  obtain ⟨a, ha⟩ := h.all j (by rw [← h.len]; exact hj)
  unfold Pg.has at ha
  rw [List.getElem?_eq_getElem hj] at ha
  injection ha with ha
  rw [ha]; rfl
theorem ful0 (v : Ver) : Ful Pg0 v 0 := ⟨rfl, fun j hj => by omega⟩
end
end Go.Proofs.Ytpnkmkenmpbekaa
