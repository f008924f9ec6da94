/-
  Package room and the document's own answer (ref06) side by side: what a call turns, told whole; nil maps.
-/
import Derived.Test.YtpnkmkenmpbekaaRoomC
namespace Go.Proofs.Ytpnkmkenmpbekaa
open Go.RowKit

/-- Of what was there, only block g and the row at v may have turned; the row at v' is that one, or new. -/
structure Only (w w' : World) (g : Nat) (v v' : Value) : Prop where
  os : w'.os = w.os
  tape : w'.tape = w.tape
  output : w'.output = w.output
  size : w.heap.size ≤ w'.heap.size
  block : ∀ k, k < w.heap.size → k ≠ g → some k ≠ v.ownBlock → w'.heap[k]? = w.heap[k]?
  own : v'.ownBlock = v.ownBlock ∨ ∃ h, v'.ownBlock = some h ∧ w.heap.size ≤ h
theorem Only.refl (w : World) (g : Nat) (v : Value) : Only w w g v v := ⟨rfl, rfl, rfl, Nat.le_refl _, fun _ _ _ _ => rfl, .inl rfl⟩
theorem Only.kept {w w' : World} {g n size base : Nat} {v v' u : Value} {e : TypeId} {xs : List Value} (h : Only w w' g v v') (ho : w.ownsRow base e size u n xs) (h1 : u.ownBlock ≠ some g) (h2 : u.ownBlock = none ∨ u.ownBlock ≠ v.ownBlock) : w'.ownsRow base e size u n xs := by
  refine ⟨ho.1, ?_⟩
  rcases ho.2 with hn | ⟨q, cap, cur, rfl, hb, hg, rest⟩
  · exact .inl hn
  · have hlt := (Array.getElem?_eq_some_iff.1 hg).1
    refine .inr ⟨q, cap, cur, rfl, hb, ?_, rest⟩
    rw [h.block q hlt (fun e => h1 (by rw [e]; rfl)) (fun e => by rcases h2 with h2 | h2; cases h2; exact h2 e)]
    exact hg
theorem Only.below {w w' : World} {g B : Nat} {v v' : Value} (h : Only w w' g v v') (hg : B ≤ g) (hv : ∀ k, v.ownBlock = some k → B ≤ k) (hB : B ≤ w.heap.size) : Below B w w' :=
  ⟨h.os, h.tape, h.output, h.size, fun k hk => h.block k (by omega) (by omega) (fun e => by have := hv k e.symm; omega)⟩
theorem only_cell {w w1 : World} {g j : Nat} {u v v' : Value} (h : Only w w1 g v v') : Only w (w1.setCell ⟨g, j, none⟩ u) g v v' :=
  ⟨h.os, h.tape, h.output, by simpa [World.setCell] using h.size, fun k hk hne hv => (heap_setCell_other w1 ⟨g, j, none⟩ k u (fun e => hne e)).trans (h.block k hk hne hv), h.own⟩
theorem only_row {w w1 : World} {g g1 j n c : Nat} {u v : Value} (h : Only w w1 g v (.slice (some ⟨g1, 0, none⟩) n c)) : Only w (w1.setCell ⟨g1, j, none⟩ u) g v (.slice (some ⟨g1, 0, none⟩) n c) := by
  refine ⟨h.os, h.tape, h.output, by simpa [World.setCell] using h.size, fun k hk hne hv => ?_, h.own⟩
  refine (heap_setCell_other w1 ⟨g1, j, none⟩ k u (fun e => ?_)).trans (h.block k hk hne hv)
  have e' : k = g1 := e
  subst e'
  rcases h.own with h1 | ⟨q, h1, h2⟩
  · exact hv (by rw [← h1]; rfl)
  · have : k = q := by simpa [Value.ownBlock] using h1
    omega
theorem found_one {l : List Int} {m : Int} {i i' : Nat} {ok ok' : Bool} (h : Found l m i ok) (h' : Found l m i' ok') : i = i' ∧ ok = ok' := by
  cases ok with
  | false =>
    obtain ⟨rfl, hall⟩ := h.2 rfl
    cases ok' with
    | false => exact ⟨(h'.2 rfl).1.symm, rfl⟩
    | true =>
      obtain ⟨h1, h2, _⟩ := h'.1 rfl
      have := hall i' h1
      omega
  | true =>
    obtain ⟨h1, h2, h3⟩ := h.1 rfl
    cases ok' with
    | false =>
      have := (h'.2 rfl).2 i h1
      omega
    | true =>
      obtain ⟨g1, g2, g3⟩ := h'.1 rfl
      by_cases e : i < i'
      · have := g3 i e; omega
      · by_cases e2 : i' < i
        · have := h3 i' e2; omega
        · exact ⟨by omega, rfl⟩
theorem find_nil (w : World) (need : Int) :
    Calls Try.prog 62 #[.pointer none, .int .i64 need] w fun e w' => e = .returned (.tuple #[.int .i64 0, .bool false]) ∧ w' = w := by
  go_enter Try.func62, Try.ntmps62
  go_wp2
  go_ret2
  exact ⟨rfl, rfl⟩
theorem pages_nil (w : World) : Calls Try.prog 17 #[.pointer none] w fun e w' => e = .returned (.int .i64 0) ∧ w' = w := by
  go_enter Try.func17, Try.ntmps17
  go_wp2
  go_ret
  exact ⟨rfl, rfl⟩
theorem mget_nil (w : World) (p : Int) : Calls Try.prog 16 #[.pointer none, .int .i64 p] w fun e w' => e = .returned (.int .i64 (-1)) ∧ w' = w := by
  by_cases h0 : p < 0
  · go_enter Try.func16, Try.ntmps16
    go_wp2
    go_ret
    exact ⟨rfl, rfl⟩
  · go_enter Try.func16, Try.ntmps16
    go_wp2_with (go_at_call 17; (with_reducible refine (pages_nil _).mono ?_); rintro e w1 ⟨rfl, hw1⟩; have hw := hw1.symm; subst hw)
    go_ret
    exact ⟨rfl, rfl⟩
set_option maxHeartbeats 1000000 in
theorem set_put_only (w : World) (base br g : Nat) (v : Value) (l : List Int) (p : Nat) (r : Int) (h : Room w base br g v l) (h1 : p < 256) (h2 : p < l.length) :
    Calls Try.prog 15 #[.pointer (some ⟨g, 0, none⟩), .int .i64 (p : Int), .int .i64 r] w fun e w' => e = .returned (.int .i64 0) ∧ Only w w' g v v ∧ Room w' base br g v (l.set p (cap r)) := by
  have hc := h.cell
  obtain ⟨g1, c, rfl, hg1, hn, hm⟩ := int_shape h.row (by omega)
  have hix := idx_int g1 l.length c p h2
  have hcell := (h.row.cellAt p (by omega)).trans (icells_get l p h2)
  have hfr := h.row.frozenAt p
  have hput := put_row (k := p) (u := cap r) h.box h.row
  have hB := only_row (j := p) (u := .int .i64 (cap r)) (Only.refl w g (.slice (some ⟨g1, 0, none⟩) l.length c))
  have HP := Lib.hid hput
  have HB := Lib.hid hB
  have hne : ((p : Int) == (l.length : Int)) = false := beq_eq_false_iff_ne.2 (by omega)
  clear h hput hB
  rcases cap_cases r with ⟨hr, e⟩ | ⟨hr, e⟩ | ⟨hr, e⟩
  all_goals
    rw [e] at HP HB ⊢
    go_enter Try.func15, Try.ntmps15
    go_wp2
    go_ret
    exact ⟨rfl, HB.out, ⟨HP.out.1, by rw [List.length_set]; exact HP.out.2⟩⟩
set_option maxRecDepth 100000 in
set_option maxHeartbeats 1000000 in
theorem set_app_only (w : World) (base br g : Nat) (v : Value) (l : List Int) (r : Int) (h : Room w base br g v l) (hbase : br ≤ w.heap.size) (h1 : l.length < 256) :
    Calls Try.prog 15 #[.pointer (some ⟨g, 0, none⟩), .int .i64 (l.length : Int), .int .i64 r] w fun e w' => e = .returned (.int .i64 0) ∧ ∃ v', Only w w' g v v' ∧ Room w' base br g v' (l ++ [cap r]) := by
  obtain ⟨i0, hi0, hz0, hz1, hz2⟩ := info_parts4 info_int
  have hc := h.cell
  have hrow := h.row
  have hbox := h.box
  have hvb := rows_apart hbox hrow (by decide)
  obtain ⟨A, c, hv, hn, hm, hr⟩ := h.form
  subst hv
  clear h hr
  rcases cap_cases r with ⟨hr, e⟩ | ⟨hr, e⟩ | ⟨hr, e⟩
  all_goals
    rw [e]
    clear e
    go_enter Try.func15, Try.ntmps15
    go_wp2_with (at_builtin; refine wpList_append_src _ rfl (.tmp 33) (.tmp 34) 115 115 rfl br 3 _ _ 1 8 Try.underlying115 hi0 hz0 hz1 hz2 rfl _ _ _ rfl (World.ownsRow.alloc hrow _) _ 1 (icells [0]) rfl (src_rd Try.underlying115 _ (rd_lit (by first | rfl | simp) rfl rfl) (by decide) (icells_one _)) (by simp only [maxLen]; omega) (by omega) (by simp; omega) ?_; intro v1 w1 ho1 hg1 ha1; have hb1 : w1.ownsRow base 119 1 (.slice (some ⟨g, 0, none⟩) 1 1) 1 [.slice A l.length c] := (World.ownsRow.alloc hbox (.cells #[.int .i64 0] 3)).kept hg1 hvb; obtain ⟨g1, c1, rfl, hgg, hnn, hmm⟩ := int_shape ho1 (by omega); have hpb := put_box hb1 ho1; have q0 := (hb1.cellAt 0 (by omega)); have q1 := hb1.frozenAt 0; have hix := idx_int g1 (l.length + 1) c1 l.length (by omega); have ho1' : w1.ownsRow br 3 1 (.slice (some ⟨g1, 0, none⟩) (l.length + 1) c1) (l.length + 1) (icells (l ++ [0])) := (by rw [icells_append]; exact ho1); have hpb' := put_box hb1 ho1'; have q2 := (hpb'.2.cellAt l.length (by omega)).trans (icells_get (l ++ [0]) l.length (by simp)); have q3 := hpb'.2.frozenAt l.length; have hB : Only w w1 g (.slice A l.length c) (.slice (some ⟨g1, 0, none⟩) (l.length + 1) c1) := ⟨hg1.os, hg1.tape, hg1.output, Nat.le_trans (by simp) hg1.size, fun k hk _ hv => (hg1.block k (by simp; omega) hv).trans (Below.heap_alloc _ _ _ hk), ha1.imp id (fun e => ⟨_, e, by simp⟩)⟩; have HPR := Lib.hid (fun u => put_row (k := l.length) (u := u) hpb'.1 hpb'.2); have hq0 : w1.cell? ⟨g, 0, none⟩ = some (.slice A l.length c) := q0; clear hpb hpb' ho1 ho1' q0)
    go_ret
    refine ⟨rfl, .slice (some ⟨g1, 0, none⟩) (l.length + 1) c1, only_row (only_cell hB), ?_⟩
    first
      | exact ⟨(HPR.out (-1)).1, by have h := (HPR.out (-1)).2; rw [set_last] at h; rw [List.length_append]; exact h⟩
      | exact ⟨(HPR.out r).1, by have h := (HPR.out r).2; rw [set_last] at h; rw [List.length_append]; exact h⟩
      | exact ⟨(HPR.out 512).1, by have h := (HPR.out 512).2; rw [set_last] at h; rw [List.length_append]; exact h⟩
/-- A block that neither map is, behind a writing call of the one or the other. -/
theorem Only.held {w w' : World} {g b i : Nat} {v v' x : Value} (h : Only w w' g v v') (hb : b < w.heap.size) (h1 : b ≠ g) (h2 : some b ≠ v.ownBlock) (hc : w.cell? ⟨b, i, none⟩ = some x) : w'.cell? ⟨b, i, none⟩ = some x := by
  have e := h.block b hb h1 h2
  have key : ∀ W : World, W.cell? ⟨b, i, none⟩ = (W.heap[b]?).bind fun o => match o with | .cells cs _ _ => cs[i]? | _ => none := fun W => by
    unfold World.cell?
    cases W.heap[b]? with
    | none => rfl
    | some o => cases o <;> rfl
  rw [key, e, ← key]
  exact hc
end Go.Proofs.Ytpnkmkenmpbekaa
