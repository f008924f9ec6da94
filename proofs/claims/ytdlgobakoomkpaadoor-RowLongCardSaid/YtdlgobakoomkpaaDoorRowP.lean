/-
  The plain side of rows: a row's bytes; which rows match their kinds; that a row is read again, and nothing that is cut off or longer. No program in sight.
-/
import Derived.Test.YtdlgobakoomkpaaDoorRowD
import Derived.Test.YtdlgobakoomkpaaDoorVrd
namespace Go.Proofs.YtdlgobakoomkpaaDoor
open Go.RowKit

/-- The value that is none. -/
def nulv : Val := ⟨0, 0, ⟨#[]⟩, false⟩
/-- A value's bytes. -/
def venc (v : Val) : List UInt8 :=
  if v.k = 0 then [] else if v.k = 1 then le8 (u64 v.i) else if v.k = 2 then UInt8.ofNat v.s.size :: v.s.data.toList else [if v.b = true then 1 else 0]
theorem venc_nul : venc ⟨0, 0, ⟨#[]⟩, false⟩ = [] := rfl
theorem venc_int (i : Int) : venc ⟨1, i, ⟨#[]⟩, false⟩ = le8 (u64 i) := rfl
theorem venc_text (s : ByteArray) : venc ⟨2, 0, s, false⟩ = UInt8.ofNat s.size :: s.data.toList := rfl
theorem venc_bool (b : Bool) : venc ⟨3, 0, ⟨#[]⟩, b⟩ = [if b = true then 1 else 0] := rfl
def vencs (l : List Val) : List UInt8 := l.flatMap venc
theorem vencs_append (a b : List Val) : vencs (a ++ b) = vencs a ++ vencs b := List.flatMap_append
theorem vencs_snoc (l : List Val) (a : Val) : vencs (l ++ [a]) = vencs l ++ venc a := by rw [vencs_append]; simp [vencs]
theorem vencs_cons (a : Val) (l : List Val) : vencs (a :: l) = venc a ++ vencs l := rfl
def nbit (v : Val) : Nat := if v.k = 0 then 1 else 0
/-- Which values are none, bit by bit. -/
def nul : List Val → Nat
  | [] => 0
  | v :: t => nbit v + 2 * nul t
theorem nul_lt : ∀ l : List Val, nul l < 2 ^ l.length
  | [] => by simp [nul]
  | v :: t => by
    have h := nul_lt t
    have hb : nbit v ≤ 1 := by unfold nbit; split <;> omega
    rw [nul, List.length_cons, Nat.pow_succ]
    omega
theorem nul_snoc (v : Val) : ∀ l : List Val, nul (l ++ [v]) = nul l + 2 ^ l.length * nbit v
  | [] => by simp [nul]
  | a :: t => by
    rw [List.cons_append, nul, nul, nul_snoc v t, List.length_cons, Nat.pow_succ, Nat.mul_add, Nat.mul_comm (2 ^ t.length) 2, Nat.mul_assoc]
    omega
/-- A row's bytes. -/
def renc (l : List Val) : List UInt8 := UInt8.ofNat (nul l) :: vencs l
theorem venc_len {a : Val} (h : rightB a = true) : (venc a).length ≤ 61 := by
  rcases right_cases h with rfl | ⟨i, rfl⟩ | ⟨s, rfl, hs⟩ | ⟨x, rfl⟩
  · decide
  · rw [venc_int, le8_length]; omega
  · rw [venc_text]
    have hs60 : s.size ≤ 60 := by unfold soundB at hs; simp at hs; exact hs.1
    have : s.data.toList.length = s.size := by rw [Array.length_toList]; rfl
    rw [List.length_cons, this]; omega
  · cases x <;> decide
theorem vencs_len : ∀ l : List Val, l.all rightB = true → (vencs l).length ≤ 61 * l.length
  | [], _ => by simp [vencs]
  | a :: l, h => by
    rw [List.all_cons, Bool.and_eq_true] at h
    have h1 := venc_len h.1
    have h2 := vencs_len l h.2
    rw [vencs_cons, List.length_append, List.length_cons]; omega

/-- May a column of this kind hold the value? -/
def fit (k : UInt8) (v : Val) : Bool := (v.k == 0) || (v.k == (k.toNat : Int))
def fits : List UInt8 → List Val → Bool
  | [], [] => true
  | k :: ks, v :: t => fit k v && fits ks t
  | _, _ => false
theorem fits_cons (k : UInt8) (v : Val) (ks : List UInt8) (t : List Val) : fits (k :: ks) (v :: t) = (fit k v && fits ks t) := rfl
theorem fits_len : ∀ (ks : List UInt8) (l : List Val), fits ks l = true → ks.length = l.length
  | [], [], _ => rfl
  | [], _ :: _, h => by cases h
  | _ :: _, [], h => by cases h
  | k :: ks, v :: t, h => by
    rw [fits_cons, Bool.and_eq_true] at h
    rw [List.length_cons, List.length_cons, fits_len ks t h.2]

/-- What is wrong with a row of kinds, its length aside. -/
def mtE (ks : List UInt8) (l : List Val) : Int :=
  if kok ks = false ∨ ks.length ≠ l.length then 1 else if l.all rightB = false then 3 else if fits ks l = false then 8 else 0
def rwE (ks : List UInt8) (l : List Val) : Int := if mtE ks l ≠ 0 then mtE ks l else if 200 < 1 + (vencs l).length then 2 else 0
def rwB (ks : List UInt8) (l : List Val) : List UInt8 := if rwE ks l = 0 then renc l else []
theorem mtE_arg {ks : List UInt8} {l : List Val} (h : kok ks = false ∨ ks.length ≠ l.length) : mtE ks l = 1 := if_pos h
theorem mtE_form {ks : List UInt8} {l : List Val} (h : kok ks = true) (hl : ks.length = l.length) (h3 : l.all rightB = false) : mtE ks l = 3 := by
  unfold mtE; rw [if_neg (by rintro (e | e); rw [h] at e; cases e; exact e hl), if_pos h3]
theorem mtE_type {ks : List UInt8} {l : List Val} (h : kok ks = true) (hl : ks.length = l.length) (h3 : l.all rightB = true) (h8 : fits ks l = false) : mtE ks l = 8 := by
  unfold mtE; rw [if_neg (by rintro (e | e); rw [h] at e; cases e; exact e hl), if_neg (by rw [h3]; decide), if_pos h8]
theorem mtE_ok {ks : List UInt8} {l : List Val} (h : kok ks = true) (hl : ks.length = l.length) (h3 : l.all rightB = true) (h8 : fits ks l = true) : mtE ks l = 0 := by
  unfold mtE; rw [if_neg (by rintro (e | e); rw [h] at e; cases e; exact e hl), if_neg (by rw [h3]; decide), if_neg (by rw [h8]; decide)]
theorem mtE_cases (ks : List UInt8) (l : List Val) : ((kok ks = false ∨ ks.length ≠ l.length) ∧ mtE ks l = 1) ∨ (kok ks = true ∧ ks.length = l.length ∧ ((l.all rightB = false ∧ mtE ks l = 3) ∨ (l.all rightB = true ∧ ((fits ks l = false ∧ mtE ks l = 8) ∨ (fits ks l = true ∧ mtE ks l = 0))))) := by
  by_cases h : kok ks = false ∨ ks.length ≠ l.length
  · exact .inl ⟨h, mtE_arg h⟩
  · have hk : kok ks = true := by cases hx : kok ks; exact absurd (.inl hx) h; rfl
    have hl : ks.length = l.length := by by_cases hx : ks.length = l.length; exact hx; exact absurd (.inr hx) h
    refine .inr ⟨hk, hl, ?_⟩
    cases h3 : l.all rightB
    · exact .inl ⟨rfl, mtE_form hk hl h3⟩
    · refine .inr ⟨rfl, ?_⟩
      cases h8 : fits ks l
      · exact .inl ⟨rfl, mtE_type hk hl h3 h8⟩
      · exact .inr ⟨rfl, mtE_ok hk hl h3 h8⟩
theorem rwE_bad {ks : List UInt8} {l : List Val} (h : mtE ks l ≠ 0) : rwE ks l = mtE ks l := if_pos h
theorem rwE_long {ks : List UInt8} {l : List Val} (h : mtE ks l = 0) (h2 : 200 < 1 + (vencs l).length) : rwE ks l = 2 := by unfold rwE; rw [if_neg (fun e => e h), if_pos h2]
theorem rwE_ok {ks : List UInt8} {l : List Val} (h : mtE ks l = 0) (h2 : ¬ 200 < 1 + (vencs l).length) : rwE ks l = 0 := by unfold rwE; rw [if_neg (fun e => e h), if_neg h2]
theorem rwB_no {ks : List UInt8} {l : List Val} (h : rwE ks l ≠ 0) : rwB ks l = [] := if_neg h
theorem rwB_yes {ks : List UInt8} {l : List Val} (h : rwE ks l = 0) : rwB ks l = renc l := if_pos h
theorem rwE_zero {ks : List UInt8} {l : List Val} (h : rwE ks l = 0) : kok ks = true ∧ ks.length = l.length ∧ l.all rightB = true ∧ fits ks l = true ∧ 1 + (vencs l).length ≤ 200 := by
  have hm : mtE ks l = 0 := by by_cases e : mtE ks l = 0; exact e; rw [rwE_bad e] at h; exact absurd h e
  rcases mtE_cases ks l with ⟨_, e⟩ | ⟨hk, hl, ⟨_, e⟩ | ⟨h3, ⟨_, e⟩ | ⟨h8, _⟩⟩⟩
  · rw [hm] at e; cases e
  · rw [hm] at e; cases e
  · rw [hm] at e; cases e
  · refine ⟨hk, hl, h3, h8, ?_⟩
    by_cases h2 : 200 < 1 + (vencs l).length
    · rw [rwE_long hm h2] at h; cases h
    · omega

theorem leN_le8 {u : Nat} (h : u < 18446744073709551616) : leN (le8 u) = u := by
  have e : le8 u = [UInt8.ofNat (u / 256 ^ 0), UInt8.ofNat (u / 256 ^ 1), UInt8.ofNat (u / 256 ^ 2), UInt8.ofNat (u / 256 ^ 3), UInt8.ofNat (u / 256 ^ 4), UInt8.ofNat (u / 256 ^ 5), UInt8.ofNat (u / 256 ^ 6), UInt8.ofNat (u / 256 ^ 7)] := rfl
  rw [e]
  simp only [leN, UInt8.toNat_ofNat']
  simp only [Nat.reducePow]
  omega
theorem wrap_u64 {i : Int} (h : -9223372036854775808 ≤ i ∧ i ≤ 9223372036854775807) : IntKind.i64.wrap ((u64 i : Nat) : Int) = i := by
  rw [IntKind.wrap_i64]
  unfold u64
  omega
theorem num_back {i : Int} (h : -9223372036854775808 ≤ i ∧ i ≤ 9223372036854775807) : IntKind.i64.wrap ((leN (le8 (u64 i)) : Nat) : Int) = i := by
  rw [leN_le8 (by unfold u64; omega), wrap_u64 h]

/-- The value of kind k with which bytes begin, and how many it has: 0, if there is none. -/
def rf (k : UInt8) : List UInt8 → Val × Nat
  | [] => (nulv, 0)
  | b :: t =>
    if k = 1 then (if 8 ≤ t.length + 1 then (⟨1, IntKind.i64.wrap ((leN ((b :: t).take 8) : Nat) : Int), ⟨#[]⟩, false⟩, 8) else (nulv, 0))
    else if k = 2 then (if b.toNat ≤ t.length then (⟨2, 0, ⟨(t.take b.toNat).toArray⟩, false⟩, b.toNat + 1) else (nulv, 0))
    else if k = 3 then (if b.toNat ≤ 1 then (⟨3, 0, ⟨#[]⟩, b == 1⟩, 1) else (nulv, 0))
    else (nulv, 0)
theorem rf_cons (k b : UInt8) (t : List UInt8) : rf k (b :: t) =
    if k = 1 then (if 8 ≤ t.length + 1 then (⟨1, IntKind.i64.wrap ((leN ((b :: t).take 8) : Nat) : Int), ⟨#[]⟩, false⟩, 8) else (nulv, 0))
    else if k = 2 then (if b.toNat ≤ t.length then (⟨2, 0, ⟨(t.take b.toNat).toArray⟩, false⟩, b.toNat + 1) else (nulv, 0))
    else if k = 3 then (if b.toNat ≤ 1 then (⟨3, 0, ⟨#[]⟩, b == 1⟩, 1) else (nulv, 0))
    else (nulv, 0) := rfl
theorem rf_len (k : UInt8) (q : List UInt8) : (rf k q).2 ≤ q.length := by
  cases q with
  | nil => exact Nat.le_refl _
  | cons b t =>
    rw [rf_cons, List.length_cons]
    split
    · split
      · assumption
      · exact Nat.zero_le _
    · split
      · split
        · show b.toNat + 1 ≤ _; omega
        · exact Nat.zero_le _
      · split
        · split
          · show 1 ≤ _; omega
          · exact Nat.zero_le _
        · exact Nat.zero_le _
theorem rf_size (k : UInt8) (q : List UInt8) : (rf k q).1.s.size ≤ q.length := by
  cases q with
  | nil => exact Nat.le_refl _
  | cons b t =>
    have h0 : (⟨#[]⟩ : ByteArray).size ≤ t.length + 1 := Nat.zero_le _
    rw [rf_cons, List.length_cons]
    split
    · split <;> exact h0
    · split
      · split
        · show (t.take b.toNat).toArray.size ≤ _
          simp; omega
        · exact h0
      · split
        · split <;> exact h0
        · exact h0
theorem rf_app {k : UInt8} {q : List UInt8} (r : List UInt8) (h : (rf k q).2 ≠ 0) : rf k (q ++ r) = rf k q := by
  cases q with
  | nil => exact absurd rfl h
  | cons b t =>
    rw [rf_cons] at h
    rw [List.cons_append, rf_cons, rf_cons]
    by_cases k1 : k = 1
    · rw [if_pos k1] at h
      rw [if_pos k1, if_pos k1]
      by_cases h8 : 8 ≤ t.length + 1
      · rw [if_pos h8, if_pos (by rw [List.length_append]; omega), ← List.cons_append, List.take_append_of_le_length (by rw [List.length_cons]; omega)]
      · rw [if_neg h8] at h; exact absurd rfl h
    · rw [if_neg k1] at h
      rw [if_neg k1, if_neg k1]
      by_cases k2 : k = 2
      · rw [if_pos k2] at h
        rw [if_pos k2, if_pos k2]
        by_cases hb : b.toNat ≤ t.length
        · rw [if_pos hb, if_pos (by rw [List.length_append]; omega), List.take_append_of_le_length hb]
        · rw [if_neg hb] at h; exact absurd rfl h
      · rw [if_neg k2] at h
        rw [if_neg k2, if_neg k2]
theorem rf_venc {k : UInt8} {v : Val} (hr : rightB v = true) (hi : In63 v) (h0 : v.k ≠ 0) (hk : kin k = true) (hf : fit k v = true) (r : List UInt8) :
    rf k (venc v ++ r) = (v, (venc v).length) ∧ (venc v).length ≠ 0 := by
  have hkk : v.k = (k.toNat : Int) := by
    unfold fit at hf
    rw [Bool.or_eq_true, beq_iff_eq, beq_iff_eq] at hf
    exact hf.resolve_left h0
  rcases right_cases hr with rfl | ⟨i, rfl⟩ | ⟨s, rfl, hs⟩ | ⟨x, rfl⟩
  · exact absurd rfl h0
  · have e : k = 1 := UInt8.toNat_inj.1 (by simp at hkk ⊢; omega)
    subst e
    have hl := le8_length (u64 i)
    have hn := num_back hi
    simp only [] at hn
    rw [venc_int]
    obtain ⟨b, t, hbt⟩ : ∃ b t, le8 (u64 i) = b :: t := ⟨_, _, rfl⟩
    rw [hbt] at hl hn ⊢
    rw [List.cons_append, rf_cons, if_pos rfl, if_pos (by rw [List.length_append]; rw [List.length_cons] at hl; omega), ← List.cons_append, List.take_append_of_le_length (by omega), List.take_of_length_le (by omega), hn]
    exact ⟨by rw [hl], by rw [hl]; decide⟩
  · have e : k = 2 := UInt8.toNat_inj.1 (by simp at hkk ⊢; omega)
    subst e
    have hs60 : s.size ≤ 60 := by unfold soundB at hs; simp at hs; exact hs.1
    have hsl : s.data.toList.length = s.size := by rw [Array.length_toList]; rfl
    have hb : (UInt8.ofNat s.size).toNat = s.data.toList.length := by simp; omega
    rw [venc_text, List.cons_append, rf_cons, if_neg (by decide), if_pos rfl, hb, if_pos (by rw [List.length_append]; omega), List.take_left]
    exact ⟨rfl, by simp⟩
  · have e : k = 3 := UInt8.toNat_inj.1 (by simp at hkk ⊢; omega)
    subst e
    cases x <;> exact ⟨rfl, by decide⟩

/-- The values of kinds that bytes say, of a byte of those that are none. -/
def rrd : List UInt8 → Nat → List UInt8 → Option (List Val)
  | [], n, q => if n = 0 ∧ q = [] then some [] else none
  | k :: ks, n, q =>
    if n % 2 = 1 then (rrd ks (n / 2) q).map (nulv :: ·)
    else if (rf k q).2 ≠ 0 ∧ rightB (rf k q).1 = true then (rrd ks (n / 2) (q.drop (rf k q).2)).map ((rf k q).1 :: ·)
    else none
theorem rrd_nil (n : Nat) (q : List UInt8) : rrd [] n q = if n = 0 ∧ q = [] then some [] else none := rfl
theorem rrd_nul {k : UInt8} {ks : List UInt8} {n : Nat} {q : List UInt8} (h : n % 2 = 1) : rrd (k :: ks) n q = (rrd ks (n / 2) q).map (nulv :: ·) := if_pos h
theorem rrd_yes {k : UInt8} {ks : List UInt8} {n : Nat} {q : List UInt8} (h : n % 2 ≠ 1) (hr : (rf k q).2 ≠ 0 ∧ rightB (rf k q).1 = true) :
    rrd (k :: ks) n q = (rrd ks (n / 2) (q.drop (rf k q).2)).map ((rf k q).1 :: ·) := by
  show (if n % 2 = 1 then _ else _) = _
  rw [if_neg h, if_pos hr]
theorem rrd_no {k : UInt8} {ks : List UInt8} {n : Nat} {q : List UInt8} (h : n % 2 ≠ 1) (hr : ¬ ((rf k q).2 ≠ 0 ∧ rightB (rf k q).1 = true)) : rrd (k :: ks) n q = none := by
  show (if n % 2 = 1 then _ else _) = _
  rw [if_neg h, if_neg hr]
theorem rrd_enc : ∀ (ks : List UInt8) (l : List Val), ks.all kin = true → fits ks l = true → (∀ v ∈ l, rightB v = true) → (∀ v ∈ l, In63 v) → rrd ks (nul l) (vencs l) = some l
  | [], [], _, _, _, _ => by rw [rrd_nil]; exact if_pos ⟨rfl, rfl⟩
  | [], _ :: _, _, h, _, _ => by cases h
  | _ :: _, [], _, h, _, _ => by cases h
  | k :: ks, v :: l, hk, hf, hr, hi => by
    rw [List.all_cons, Bool.and_eq_true] at hk
    rw [fits_cons, Bool.and_eq_true] at hf
    have ih := rrd_enc ks l hk.2 hf.2 (fun x hx => hr x (List.mem_cons_of_mem _ hx)) (fun x hx => hi x (List.mem_cons_of_mem _ hx))
    have hrv := hr v (List.mem_cons_self ..)
    by_cases h0 : v.k = 0
    · have hv : v = nulv := by
        rcases right_cases hrv with rfl | ⟨i, rfl⟩ | ⟨s, rfl, hs⟩ | ⟨x, rfl⟩
        · rfl
        · cases h0
        · cases h0
        · cases h0
      have hb : nul (v :: l) = 1 + 2 * nul l := by rw [nul]; unfold nbit; rw [if_pos h0]
      rw [rrd_nul (by omega), hb, show (1 + 2 * nul l) / 2 = nul l by omega, vencs_cons, hv, show venc nulv = [] from rfl, List.nil_append, ih]
      rfl
    · have hb : nul (v :: l) = 2 * nul l := by rw [nul]; unfold nbit; rw [if_neg h0]; omega
      have e := rf_venc hrv (hi v (List.mem_cons_self ..)) h0 hk.1 hf.1 (vencs l)
      rw [vencs_cons, hb, rrd_yes (by omega) (by rw [e.1]; exact ⟨e.2, hrv⟩), e.1, show 2 * nul l / 2 = nul l by omega, List.drop_left, ih]
      rfl
/-- Nothing that is longer. -/
theorem rrd_more : ∀ (ks : List UInt8) (n : Nat) (q r : List UInt8) (l : List Val), rrd ks n q = some l → r ≠ [] → rrd ks n (q ++ r) = none
  | [], n, q, r, l, h, hr => by
    rw [rrd_nil, if_neg]
    rintro ⟨_, e⟩
    exact hr (List.append_eq_nil_iff.1 e).2
  | k :: ks, n, q, r, l, h, hr => by
    by_cases hn : n % 2 = 1
    · rw [rrd_nul hn] at h ⊢
      cases hx : rrd ks (n / 2) q with
      | none => rw [hx] at h; cases h
      | some m => rw [rrd_more ks _ q r m hx hr]; rfl
    · by_cases hf : (rf k q).2 ≠ 0 ∧ rightB (rf k q).1 = true
      · rw [rrd_yes hn hf] at h
        have e := rf_app r hf.1
        rw [rrd_yes hn (by rw [e]; exact hf), e]
        cases hx : rrd ks (n / 2) (q.drop (rf k q).2) with
        | none => rw [hx] at h; cases h
        | some m => rw [List.drop_append_of_le_length (rf_len k q), rrd_more ks _ _ r m hx hr]; rfl
      · rw [rrd_no hn hf] at h; cases h
theorem rrd_right : ∀ (ks : List UInt8) (n : Nat) (q : List UInt8) (l : List Val), rrd ks n q = some l → l.all rightB = true ∧ l.length = ks.length
  | [], n, q, l, h => by
    rw [rrd_nil] at h
    split at h
    · cases h; exact ⟨rfl, rfl⟩
    · cases h
  | k :: ks, n, q, l, h => by
    by_cases hn : n % 2 = 1
    · rw [rrd_nul hn] at h
      cases hx : rrd ks (n / 2) q with
      | none => rw [hx] at h; cases h
      | some m =>
        rw [hx] at h
        cases h
        have := rrd_right ks _ _ m hx
        exact ⟨by rw [List.all_cons, this.1, Bool.and_true]; unfold rightB nulv; rw [if_pos rfl, ByteArray.toList_eq]; rfl, by rw [List.length_cons, List.length_cons, this.2]⟩
    · by_cases hf : (rf k q).2 ≠ 0 ∧ rightB (rf k q).1 = true
      · rw [rrd_yes hn hf] at h
        cases hx : rrd ks (n / 2) (q.drop (rf k q).2) with
        | none => rw [hx] at h; cases h
        | some m =>
          rw [hx] at h
          cases h
          have := rrd_right ks _ _ m hx
          exact ⟨by rw [List.all_cons, this.1, hf.2]; rfl, by rw [List.length_cons, List.length_cons, this.2]⟩
      · rw [rrd_no hn hf] at h; cases h
/-- Too great a byte of those that are none. -/
theorem rrd_big : ∀ (ks : List UInt8) (n : Nat) (q : List UInt8), 2 ^ ks.length ≤ n → rrd ks n q = none
  | [], n, q, h => by rw [rrd_nil, if_neg]; rintro ⟨e, _⟩; simp at h; omega
  | k :: ks, n, q, h => by
    have h2 : 2 ^ ks.length ≤ n / 2 := by rw [List.length_cons, Nat.pow_succ] at h; omega
    by_cases hn : n % 2 = 1
    · rw [rrd_nul hn, rrd_big ks _ _ h2]; rfl
    · by_cases hf : (rf k q).2 ≠ 0 ∧ rightB (rf k q).1 = true
      · rw [rrd_yes hn hf, rrd_big ks _ _ h2]; rfl
      · rw [rrd_no hn hf]

/-- The row of kinds that bytes say. -/
def rrB (ks p : List UInt8) : Option (List Val) :=
  match p with
  | [] => none
  | b :: q => if 199 < q.length then none else rrd ks b.toNat q
def rrL (ks p : List UInt8) : List Val := if kok ks = true then (rrB ks p).getD [] else []
def rrE (ks p : List UInt8) : Int := if kok ks = true then (if (rrB ks p).isSome = true then 0 else 3) else 1
theorem rrL_right (ks p : List UInt8) : (rrL ks p).all rightB = true ∧ (rrL ks p).length ≤ ks.length := by
  unfold rrL
  split
  · cases p with
    | nil => exact ⟨rfl, Nat.zero_le _⟩
    | cons b q =>
      unfold rrB
      simp only []
      split
      · exact ⟨rfl, Nat.zero_le _⟩
      · cases h : rrd ks b.toNat q with
        | none => exact ⟨rfl, Nat.zero_le _⟩
        | some l => have := rrd_right _ _ _ _ h; exact ⟨this.1, Nat.le_of_eq this.2⟩
  · exact ⟨rfl, Nat.zero_le _⟩
theorem renc_byte {l : List Val} (h : l.length ≤ 8) : (UInt8.ofNat (nul l)).toNat = nul l := by
  have h1 := nul_lt l
  have h2 : 2 ^ l.length ≤ 2 ^ 8 := Nat.pow_le_pow_right (by decide) h
  simp
  omega
theorem kok_parts {ks : List UInt8} (h : kok ks = true) : 1 ≤ ks.length ∧ ks.length ≤ 8 ∧ ks.all kin = true := by
  unfold kok at h
  rw [Bool.and_eq_true, decide_eq_true_iff] at h
  exact ⟨h.1.1, h.1.2, h.2⟩
theorem rrB_renc {ks : List UInt8} {l : List Val} (h : rwE ks l = 0) (hi : ∀ v ∈ l, In63 v) : rrB ks (renc l) = some l := by
  obtain ⟨hk, hl, h3, h8, h2⟩ := rwE_zero h
  obtain ⟨k1, k8, ka⟩ := kok_parts hk
  unfold rrB renc
  simp only []
  rw [if_neg (by omega), renc_byte (by omega)]
  exact rrd_enc ks l ka h8 (fun v hv => List.all_eq_true.1 h3 v hv) hi
theorem rr_renc {ks : List UInt8} {l : List Val} (h : rwE ks l = 0) (hi : ∀ v ∈ l, In63 v) : rrL ks (renc l) = l ∧ rrE ks (renc l) = 0 := by
  have hk := (rwE_zero h).1
  unfold rrL rrE
  rw [if_pos hk, if_pos hk, rrB_renc h hi]
  exact ⟨rfl, rfl⟩
theorem rr_more {ks : List UInt8} {l : List Val} (h : rwE ks l = 0) (hi : ∀ v ∈ l, In63 v) {r : List UInt8} (hr : r ≠ []) : rrE ks (renc l ++ r) = 3 := by
  have hk := (rwE_zero h).1
  have e := rrB_renc h hi
  unfold rrE
  rw [if_pos hk]
  unfold rrB renc at e ⊢
  rw [List.cons_append]
  simp only [] at e ⊢
  split
  · rfl
  · split at e
    · cases e
    · rw [rrd_more _ _ _ _ _ e hr]; rfl
theorem rr_cut {ks : List UInt8} {l : List Val} (h : rwE ks l = 0) (hi : ∀ v ∈ l, In63 v) {k : Nat} (hr : k < (renc l).length) : rrE ks ((renc l).take k) = 3 := by
  have hk := (rwE_zero h).1
  have e := rrB_renc h hi
  unfold rrE
  rw [if_pos hk]
  cases hx : rrB ks ((renc l).take k) with
  | none => rfl
  | some m =>
    exfalso
    have hd : (renc l).drop k ≠ [] := by intro e0; have := List.length_drop (i := k) (l := renc l); rw [e0] at this; simp at this; omega
    have hc : (renc l).take k ++ (renc l).drop k = renc l := List.take_append_drop k _
    generalize (renc l).take k = a at *
    generalize (renc l).drop k = d at *
    rw [← hc] at e
    cases a with
    | nil => cases hx
    | cons b q =>
      unfold rrB at hx e
      rw [List.cons_append] at e
      simp only [] at hx e
      split at hx
      · cases hx
      · split at e
        · cases e
        · rw [rrd_more _ _ _ _ _ hx hd] at e; cases e
theorem renc_inj {ks : List UInt8} {a b : List Val} (ha : rwE ks a = 0) (hb : rwE ks b = 0) (ia : ∀ v ∈ a, In63 v) (ib : ∀ v ∈ b, In63 v) (h : renc a = renc b) : a = b := by
  have e1 := rrB_renc ha ia
  rw [h, rrB_renc hb ib] at e1
  exact (Option.some.inj e1).symm
end Go.Proofs.YtdlgobakoomkpaaDoor
