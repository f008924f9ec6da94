/-
  RowKinds: the walk: where the library's tables hold what its text lays, the law answers true; of what was there nothing has turned.
-/
import Derived.Test.YtdlgobakoomkpaaDoorAwake4
import Derived.Test.YtdlgobakoomkpaaDoorCell2R
import Derived.Test.YtdlgobakoomkpaaDoorDoorB
namespace Go.Proofs.YtdlgobakoomkpaaDoor.rowKinds
open Go.RowKit

theorem kd_of (k : Int) : ∃ kd : UInt8, 1 + k % 3 = (kd.toNat : Int) ∧ kok [kd] = true := by
  have : k % 3 = 0 ∨ k % 3 = 1 ∨ k % 3 = 2 := by omega
  rcases this with h | h | h <;> rw [h]
  · exact ⟨1, rfl, by decide⟩
  · exact ⟨2, rfl, by decide⟩
  · exact ⟨3, rfl, by decide⟩
theorem len_one {v : Val} (h : rightB v = true) : ¬ 200 < 1 + (vencs [v]).length := by
  have := vencs_len [v] (by rw [List.all_cons, h]; rfl)
  simp at this
  omega
theorem fits_one (k : UInt8) (v : Val) : fits [k] [v] = ((v.k == 0) || (v.k == (k.toNat : Int))) := by
  rw [fits_cons, show fits [] [] = true from rfl, Bool.and_true]; rfl
theorem boxat {w W : World} {u0 u1 u2 u3 : Value} {T : TypeId} (h : Below (w.heap.size + 1) (w.alloc (.cells #[u0, u1, u2, u3] T)) W) :
    W.cell? ⟨w.heap.size, 0, none⟩ = some u0 ∧ W.cell? ⟨w.heap.size, 1, none⟩ = some u1 ∧ W.cell? ⟨w.heap.size, 2, none⟩ = some u2 ∧ W.cell? ⟨w.heap.size, 3, none⟩ = some u3 := by
  refine ⟨?_, ?_, ?_, ?_⟩ <;> (rw [h.cell (by simp)]; simp [go_sem])

set_option maxHeartbeats 2000000 in
theorem walk_f (k : Int) (hk0 : 0 ≤ k) (hk1 : k < 256) (kd : UInt8) (hkd : 1 + k % 3 = (kd.toNat : Int)) (v : Val) (w : World) (hE : Env w)
    (GR : Hid (∀ W, Calls Tryd.prog 30 #[.agg #[.int .u8 v.k, .int .i64 v.i, .string v.s, .bool v.b]] W fun e w' => e = .returned (.bool false) ∧ Below W.heap.size W w'))
    (GF : Hid (∀ K A W, Brd W K [kd] → Vrd W A [v] → Env W → Calls Tryd.prog 35 #[.slice K 1 1, .slice A 1 1] W fun e w' => e = .returned (.int .i64 3) ∧ Below W.heap.size W w')) :
    Calls Tryd.prog 14 #[.int .u8 k, .agg #[.int .u8 v.k, .int .i64 v.i, .string v.s, .bool v.b]] w fun e w' => e = .returned (.bool true) ∧ Below w.heap.size w w' := by
  have hkb := kd.toNat_lt
  go_enter Tryd.func14, Tryd.ntmps14
  go_wp2_with fail
  refine (awake4_any _ (hE.next (by repeat (first | exact Below.refl _ _ | refine Below.drew ?_ | refine below_drewN ?_ _ | refine Below.al ?_ _ | refine Below.next ?_ (by assumption))))).mono ?_
  rintro e w1 ⟨rfl, hb1⟩
  have y1 : Below (w.heap.size + 1) (w.alloc (.cells #[.int .u8 v.k, .int .i64 v.i, .string v.s, .bool v.b] 43)) w1 := by simpa using hb1
  have x1 : Below w.heap.size w w1 := (by repeat (first | exact Below.refl _ _ | assumption | refine Below.drew ?_ | refine below_dN ?_ _ | refine Below.al ?_ _ | refine Below.next ?_ (by assumption)))
  have hz1 : w.heap.size < w1.heap.size := by have := hb1.size; simp at this; omega
  obtain ⟨m0, m1, m2, m3⟩ := boxat y1
  go_wp2_with fail
  refine (GR.out _).mono ?_
  rintro e w2 ⟨rfl, hb2⟩
  have hz2 : w.heap.size < w2.heap.size := by have := hb2.size; omega
  have y2 := y1.trans (hb2.mono (by omega))
  have x2 := x1.next hb2
  clear m0 m1 m2 m3 hz1 hb1 y1
  obtain ⟨m0, m1, m2, m3⟩ := boxat y2
  go_wp2_with fail
  refine Calls.mono (GF.out _ _ _ ?k1 ?k2 ?k3) ?_
  case k1 => exact Rd.alloc (rd_lit (by first | rfl | simp) (by simp [bcells]) rfl) _
  case k2 => exact rd_lit (by first | rfl | simp) rfl rfl
  case k3 => exact hE.next (by repeat (first | exact Below.refl _ _ | assumption | refine Below.drew ?_ | refine below_dN ?_ _ | refine Below.al ?_ _ | refine Below.next ?_ (by assumption)))
  rintro e w3 ⟨rfl, hb3⟩
  have hz3 : w.heap.size < w3.heap.size := by have := hb3.size; simp at this; omega
  have y3 : Below (w.heap.size + 1) (w.alloc (.cells #[.int .u8 v.k, .int .i64 v.i, .string v.s, .bool v.b] 43)) w3 := ((y2.alloc (by omega) _).alloc (by simp; omega) _).trans (hb3.mono (by simp; omega))
  have x3 : Below w.heap.size w w3 := (by repeat (first | exact Below.refl _ _ | assumption | refine Below.drew ?_ | refine below_dN ?_ _ | refine Below.al ?_ _ | refine Below.next ?_ (by assumption)))
  clear m0 m1 m2 m3 hz2 hb2 y2
  obtain ⟨m0, m1, m2, m3⟩ := boxat y3
  go_wp2
  go_ret
  exact ⟨rfl, x3⟩
set_option maxHeartbeats 2000000 in
theorem walk_a (k : Int) (hk0 : 0 ≤ k) (hk1 : k < 256) (kd : UInt8) (hkd : 1 + k % 3 = (kd.toNat : Int)) (v : Val) (w : World) (hE : Env w)
    (GR : Hid (∀ W, Calls Tryd.prog 30 #[.agg #[.int .u8 v.k, .int .i64 v.i, .string v.s, .bool v.b]] W fun e w' => e = .returned (.bool true) ∧ Below W.heap.size W w'))
    (GF : Hid (∀ K A W, Brd W K [kd] → Vrd W A [v] → Env W → Calls Tryd.prog 35 #[.slice K 1 1, .slice A 1 1] W fun e w' => e = .returned (.int .i64 0) ∧ Below W.heap.size W w')) (q0 : (v.k == 0) = true) :
    Calls Tryd.prog 14 #[.int .u8 k, .agg #[.int .u8 v.k, .int .i64 v.i, .string v.s, .bool v.b]] w fun e w' => e = .returned (.bool true) ∧ Below w.heap.size w w' := by
  have hkb := kd.toNat_lt
  go_enter Tryd.func14, Tryd.ntmps14
  go_wp2_with fail
  refine (awake4_any _ (hE.next (by repeat (first | exact Below.refl _ _ | refine Below.drew ?_ | refine below_drewN ?_ _ | refine Below.al ?_ _ | refine Below.next ?_ (by assumption))))).mono ?_
  rintro e w1 ⟨rfl, hb1⟩
  have y1 : Below (w.heap.size + 1) (w.alloc (.cells #[.int .u8 v.k, .int .i64 v.i, .string v.s, .bool v.b] 43)) w1 := by simpa using hb1
  have x1 : Below w.heap.size w w1 := (by repeat (first | exact Below.refl _ _ | assumption | refine Below.drew ?_ | refine below_dN ?_ _ | refine Below.al ?_ _ | refine Below.next ?_ (by assumption)))
  have hz1 : w.heap.size < w1.heap.size := by have := hb1.size; simp at this; omega
  obtain ⟨m0, m1, m2, m3⟩ := boxat y1
  go_wp2_with fail
  refine (GR.out _).mono ?_
  rintro e w2 ⟨rfl, hb2⟩
  have hz2 : w.heap.size < w2.heap.size := by have := hb2.size; omega
  have y2 := y1.trans (hb2.mono (by omega))
  have x2 := x1.next hb2
  clear m0 m1 m2 m3 hz1 hb1 y1
  obtain ⟨m0, m1, m2, m3⟩ := boxat y2
  go_wp2_with fail
  refine Calls.mono (GF.out _ _ _ ?k1 ?k2 ?k3) ?_
  case k1 => exact Rd.alloc (rd_lit (by first | rfl | simp) (by simp [bcells]) rfl) _
  case k2 => exact rd_lit (by first | rfl | simp) rfl rfl
  case k3 => exact hE.next (by repeat (first | exact Below.refl _ _ | assumption | refine Below.drew ?_ | refine below_dN ?_ _ | refine Below.al ?_ _ | refine Below.next ?_ (by assumption)))
  rintro e w3 ⟨rfl, hb3⟩
  have hz3 : w.heap.size < w3.heap.size := by have := hb3.size; simp at this; omega
  have y3 : Below (w.heap.size + 1) (w.alloc (.cells #[.int .u8 v.k, .int .i64 v.i, .string v.s, .bool v.b] 43)) w3 := ((y2.alloc (by omega) _).alloc (by simp; omega) _).trans (hb3.mono (by simp; omega))
  have x3 : Below w.heap.size w w3 := (by repeat (first | exact Below.refl _ _ | assumption | refine Below.drew ?_ | refine below_dN ?_ _ | refine Below.al ?_ _ | refine Below.next ?_ (by assumption)))
  clear m0 m1 m2 m3 hz2 hb2 y2
  obtain ⟨m0, m1, m2, m3⟩ := boxat y3
  go_wp2
  go_ret
  exact ⟨rfl, x3⟩
set_option maxHeartbeats 2000000 in
theorem walk_b (k : Int) (hk0 : 0 ≤ k) (hk1 : k < 256) (kd : UInt8) (hkd : 1 + k % 3 = (kd.toNat : Int)) (v : Val) (w : World) (hE : Env w)
    (GR : Hid (∀ W, Calls Tryd.prog 30 #[.agg #[.int .u8 v.k, .int .i64 v.i, .string v.s, .bool v.b]] W fun e w' => e = .returned (.bool true) ∧ Below W.heap.size W w'))
    (GF : Hid (∀ K A W, Brd W K [kd] → Vrd W A [v] → Env W → Calls Tryd.prog 35 #[.slice K 1 1, .slice A 1 1] W fun e w' => e = .returned (.int .i64 0) ∧ Below W.heap.size W w')) (q0 : (v.k == 0) = false) (q1 : (v.k == (kd.toNat : Int)) = true) :
    Calls Tryd.prog 14 #[.int .u8 k, .agg #[.int .u8 v.k, .int .i64 v.i, .string v.s, .bool v.b]] w fun e w' => e = .returned (.bool true) ∧ Below w.heap.size w w' := by
  have hkb := kd.toNat_lt
  go_enter Tryd.func14, Tryd.ntmps14
  go_wp2_with fail
  refine (awake4_any _ (hE.next (by repeat (first | exact Below.refl _ _ | refine Below.drew ?_ | refine below_drewN ?_ _ | refine Below.al ?_ _ | refine Below.next ?_ (by assumption))))).mono ?_
  rintro e w1 ⟨rfl, hb1⟩
  have y1 : Below (w.heap.size + 1) (w.alloc (.cells #[.int .u8 v.k, .int .i64 v.i, .string v.s, .bool v.b] 43)) w1 := by simpa using hb1
  have x1 : Below w.heap.size w w1 := (by repeat (first | exact Below.refl _ _ | assumption | refine Below.drew ?_ | refine below_dN ?_ _ | refine Below.al ?_ _ | refine Below.next ?_ (by assumption)))
  have hz1 : w.heap.size < w1.heap.size := by have := hb1.size; simp at this; omega
  obtain ⟨m0, m1, m2, m3⟩ := boxat y1
  go_wp2_with fail
  refine (GR.out _).mono ?_
  rintro e w2 ⟨rfl, hb2⟩
  have hz2 : w.heap.size < w2.heap.size := by have := hb2.size; omega
  have y2 := y1.trans (hb2.mono (by omega))
  have x2 := x1.next hb2
  clear m0 m1 m2 m3 hz1 hb1 y1
  obtain ⟨m0, m1, m2, m3⟩ := boxat y2
  go_wp2_with fail
  refine Calls.mono (GF.out _ _ _ ?k1 ?k2 ?k3) ?_
  case k1 => exact Rd.alloc (rd_lit (by first | rfl | simp) (by simp [bcells]) rfl) _
  case k2 => exact rd_lit (by first | rfl | simp) rfl rfl
  case k3 => exact hE.next (by repeat (first | exact Below.refl _ _ | assumption | refine Below.drew ?_ | refine below_dN ?_ _ | refine Below.al ?_ _ | refine Below.next ?_ (by assumption)))
  rintro e w3 ⟨rfl, hb3⟩
  have hz3 : w.heap.size < w3.heap.size := by have := hb3.size; simp at this; omega
  have y3 : Below (w.heap.size + 1) (w.alloc (.cells #[.int .u8 v.k, .int .i64 v.i, .string v.s, .bool v.b] 43)) w3 := ((y2.alloc (by omega) _).alloc (by simp; omega) _).trans (hb3.mono (by simp; omega))
  have x3 : Below w.heap.size w w3 := (by repeat (first | exact Below.refl _ _ | assumption | refine Below.drew ?_ | refine below_dN ?_ _ | refine Below.al ?_ _ | refine Below.next ?_ (by assumption)))
  clear m0 m1 m2 m3 hz2 hb2 y2
  obtain ⟨m0, m1, m2, m3⟩ := boxat y3
  go_wp2
  go_ret
  exact ⟨rfl, x3⟩
set_option maxHeartbeats 2000000 in
theorem walk_t (k : Int) (hk0 : 0 ≤ k) (hk1 : k < 256) (kd : UInt8) (hkd : 1 + k % 3 = (kd.toNat : Int)) (v : Val) (w : World) (hE : Env w)
    (GR : Hid (∀ W, Calls Tryd.prog 30 #[.agg #[.int .u8 v.k, .int .i64 v.i, .string v.s, .bool v.b]] W fun e w' => e = .returned (.bool true) ∧ Below W.heap.size W w'))
    (GF : Hid (∀ K A W, Brd W K [kd] → Vrd W A [v] → Env W → Calls Tryd.prog 35 #[.slice K 1 1, .slice A 1 1] W fun e w' => e = .returned (.int .i64 8) ∧ Below W.heap.size W w')) (q0 : (v.k == 0) = false) (q1 : (v.k == (kd.toNat : Int)) = false) :
    Calls Tryd.prog 14 #[.int .u8 k, .agg #[.int .u8 v.k, .int .i64 v.i, .string v.s, .bool v.b]] w fun e w' => e = .returned (.bool true) ∧ Below w.heap.size w w' := by
  have hkb := kd.toNat_lt
  go_enter Tryd.func14, Tryd.ntmps14
  go_wp2_with fail
  refine (awake4_any _ (hE.next (by repeat (first | exact Below.refl _ _ | refine Below.drew ?_ | refine below_drewN ?_ _ | refine Below.al ?_ _ | refine Below.next ?_ (by assumption))))).mono ?_
  rintro e w1 ⟨rfl, hb1⟩
  have y1 : Below (w.heap.size + 1) (w.alloc (.cells #[.int .u8 v.k, .int .i64 v.i, .string v.s, .bool v.b] 43)) w1 := by simpa using hb1
  have x1 : Below w.heap.size w w1 := (by repeat (first | exact Below.refl _ _ | assumption | refine Below.drew ?_ | refine below_dN ?_ _ | refine Below.al ?_ _ | refine Below.next ?_ (by assumption)))
  have hz1 : w.heap.size < w1.heap.size := by have := hb1.size; simp at this; omega
  obtain ⟨m0, m1, m2, m3⟩ := boxat y1
  go_wp2_with fail
  refine (GR.out _).mono ?_
  rintro e w2 ⟨rfl, hb2⟩
  have hz2 : w.heap.size < w2.heap.size := by have := hb2.size; omega
  have y2 := y1.trans (hb2.mono (by omega))
  have x2 := x1.next hb2
  clear m0 m1 m2 m3 hz1 hb1 y1
  obtain ⟨m0, m1, m2, m3⟩ := boxat y2
  go_wp2_with fail
  refine Calls.mono (GF.out _ _ _ ?k1 ?k2 ?k3) ?_
  case k1 => exact Rd.alloc (rd_lit (by first | rfl | simp) (by simp [bcells]) rfl) _
  case k2 => exact rd_lit (by first | rfl | simp) rfl rfl
  case k3 => exact hE.next (by repeat (first | exact Below.refl _ _ | assumption | refine Below.drew ?_ | refine below_dN ?_ _ | refine Below.al ?_ _ | refine Below.next ?_ (by assumption)))
  rintro e w3 ⟨rfl, hb3⟩
  have hz3 : w.heap.size < w3.heap.size := by have := hb3.size; simp at this; omega
  have y3 : Below (w.heap.size + 1) (w.alloc (.cells #[.int .u8 v.k, .int .i64 v.i, .string v.s, .bool v.b] 43)) w3 := ((y2.alloc (by omega) _).alloc (by simp; omega) _).trans (hb3.mono (by simp; omega))
  have x3 : Below w.heap.size w w3 := (by repeat (first | exact Below.refl _ _ | assumption | refine Below.drew ?_ | refine below_dN ?_ _ | refine Below.al ?_ _ | refine Below.next ?_ (by assumption)))
  clear m0 m1 m2 m3 hz2 hb2 y2
  obtain ⟨m0, m1, m2, m3⟩ := boxat y3
  go_wp2
  go_ret
  exact ⟨rfl, x3⟩
theorem walk (k : Int) (hk : (Lit.int .u8 k).wf = true) (v : Val) (hv : ValOk v) (w : World) (hE : Env w) :
    Calls Tryd.prog 14 #[.int .u8 k, .agg #[.int .u8 v.k, .int .i64 v.i, .string v.s, .bool v.b]] w fun e w' => e = .returned (.bool true) ∧ Below w.heap.size w w' := by
  obtain ⟨hk0, hk1⟩ := wf_u8 hk
  obtain ⟨kd, hkd, hkok⟩ := kd_of k
  have hok : ∀ x ∈ [v], ValOk x := fun x hx => by simp at hx; subst hx; exact hv
  have gr := rright_any v (by have := hv.s; unfold maxLen at this; exact this)
  have gf : ∀ K A W, Brd W K [kd] → Vrd W A [v] → Env W → Calls Tryd.prog 35 #[.slice K 1 1, .slice A 1 1] W fun e w' => e = .returned (.int .i64 (rwE [kd] [v])) ∧ Below W.heap.size W w' := fun K A W h1 h2 h3 => rowfits_any K A 1 1 [kd] [v] W h1 (by simp) (by simp) h2 hok h3
  have hall : [v].all rightB = rightB v := by simp
  cases hR : rightB v with
  | false =>
    rw [hR] at gr hall
    have em := mtE_form (ks := [kd]) (l := [v]) hkok rfl hall
    have e1 : rwE [kd] [v] = 3 := by rw [rwE_bad (by rw [em]; decide), em]
    rw [e1] at gf
    exact walk_f k hk0 hk1 kd hkd v w hE (Lib.hid gr) (Lib.hid gf)
  | true =>
    rw [hR] at gr hall
    have h1 := len_one hR
    cases hF : fits [kd] [v] with
    | true =>
      have e1 : rwE [kd] [v] = 0 := rwE_ok (mtE_ok hkok rfl hall hF) h1
      rw [e1] at gf
      rw [fits_one] at hF
      by_cases hv0 : v.k = 0
      · exact walk_a k hk0 hk1 kd hkd v w hE (Lib.hid gr) (Lib.hid gf) (by simpa using hv0)
      · have q0 : (v.k == 0) = false := by simpa using hv0
        rw [q0, Bool.false_or] at hF
        exact walk_b k hk0 hk1 kd hkd v w hE (Lib.hid gr) (Lib.hid gf) q0 hF
    | false =>
      have em := mtE_type (ks := [kd]) (l := [v]) hkok rfl hall hF
      have e1 : rwE [kd] [v] = 8 := by rw [rwE_bad (by rw [em]; decide), em]
      rw [e1] at gf
      rw [fits_one, Bool.or_eq_false_iff] at hF
      exact walk_t k hk0 hk1 kd hkd v w hE (Lib.hid gr) (Lib.hid gf) hF.1 hF.2
end Go.Proofs.YtdlgobakoomkpaaDoor.rowKinds
