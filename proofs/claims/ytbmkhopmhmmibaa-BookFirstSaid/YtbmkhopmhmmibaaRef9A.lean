/-
  The document's log (ref09): New, Next, State, Begin, End.
-/
import Derived.Test.YtbmkhopmhmmibaaClogF
namespace Go.Proofs.Ytbmkhopmhmmibaa
open Go.RowKit
set_option linter.unusedVariables false

theorem info_i64 : (Try.prog.info? 3).map (fun i => (i.zero, i.size, i.bytes)) = some (some (.int .i64 0), 1, 8) := by kernel_rfl
theorem idx_i64u (g n c k : Nat) (h : k < n) (W : World) : (Instr.indexAt 97 (.slice (some ⟨g, 0, none⟩) n c) (.int .u64 (k : Int))).run Try.prog W = .ok (.pointer (some ⟨g, k, none⟩)) W := by
  rw [run_indexAt_slice (h := by kernel_rfl), if_pos (by omega)]
  rw [show Try.prog.elem 97 = 3 by kernel_rfl, show (sizeOf 3).run Try.prog W = .ok 1 W by kernel_rfl]
  simp [Result.andThen, Addr.add_lit]
theorem idx_i64i (g n c k : Nat) (h : k < n) (W : World) : (Instr.indexAt 97 (.slice (some ⟨g, 0, none⟩) n c) (.int .i64 (k : Int))).run Try.prog W = .ok (.pointer (some ⟨g, k, none⟩)) W := by
  rw [run_indexAt_slice (h := by kernel_rfl), if_pos (by omega)]
  rw [show Try.prog.elem 97 = 3 by kernel_rfl, show (sizeOf 3).run Try.prog W = .ok 1 W by kernel_rfl]
  simp [Result.andThen, Addr.add_lit]
/-- The document's log in memory. -/
structure Rg (w : World) (g : Nat) (v : Value) (f : Nat) (S : List Nat) : Prop where
  box : Bx w g 99 [.int .u64 (f : Int), v]
  row : w.ownsRow 0 3 1 v S.length (ucells .i64 S)
  pos : 1 ≤ f
  max : f + S.length ≤ 1099511627777
def Rf (g : Nat) (v : Value) (k : Nat) : Prop := k = g ∨ v.ownBlock = some k
section
variable {w w' : World} {g f : Nat} {v v1 : Value} {S : List Nat} {T : Nat → Prop}
theorem Rg.ty (h : Rg w g v f S) {k : Nat} (hk : Rf g v k) : Ty w k 99 ∨ Ty w k 3 := by
  rcases hk with rfl | hk
  · exact .inl h.box.ty
  · exact .inr (own_ty h.row hk)
theorem Rg.lt (h : Rg w g v f S) {k : Nat} (hk : Rf g v k) : k < w.heap.size := by rcases h.ty hk with h | h <;> exact h.lt
theorem Rg.fr (h : Rg w g v f S) (hf : Fr T w w') (hn : ∀ k, Rf g v k → ¬ T k) : Rg w' g v f S :=
  ⟨hf.bx h.box (hn g (.inl rfl)), hf.own h.row fun k e => hn k (.inr e), h.pos, h.max⟩
theorem Rg.below (h : Rg w g v f S) (hb : Below w.heap.size w w') : Rg w' g v f S := h.fr (T := fun _ => False) (Fr.of_below hb) fun _ _ hh => hh
theorem Rg.alloc (h : Rg w g v f S) (o : Obj) : Rg (w.alloc o) g v f S := h.below ((Below.refl _ _).alloc (Nat.le_refl _) o)
theorem Rg.drewN (h : Rg w g v f S) (n : Nat) : Rg (w.drewN n) g v f S := h.below (below_n w n)
theorem Rg.app (h : Rg w g v f S) (hm : f + S.length ≤ 1099511627776) (hg : w.grownBy w' v.ownBlock) (ha : v1.ownBlock = v.ownBlock ∨ v1.ownBlock = some w.heap.size) (ho : w'.ownsRow 0 3 1 v1 (S.length + 1) (ucells .i64 S ++ ucells .i64 [1])) :
    Rg (w'.setCell ⟨g, 1, none⟩ v1) g v1 f (S ++ [1]) ∧ Chg (Rf g v) (Rf g v1) w (w'.setCell ⟨g, 1, none⟩ v1) := by
  have f1 : Fr (fun k => v.ownBlock = some k) w w' := Fr.of_own hg fun k e => e
  have hb := f1.bx h.box fun e => h.box.ty.ne (own_ty h.row e) (by decide) rfl
  have f2 : Fr (fun k => k = g) w' (w'.setCell ⟨g, 1, none⟩ v1) := Fr.set (S := fun k => k = g) (Fr.refl _ _) (.inl rfl) 1 v1
  refine ⟨⟨hb.set 1 v1, ?_, h.pos, by rw [List.length_append, List.length_singleton]; omega⟩, ?_, fun k hk => ?_⟩
  · have := f2.own ho fun k e => (own_ty ho e).ne hb.ty (by decide)
    rwa [← ucells_append, ← List.length_singleton (a := 1), ← List.length_append] at this
  · exact (f1.mono fun k e => (.inr e : Rf g v k)).trans f2 fun k e => .inl (.inl e)
  · rcases hk with hk | hk
    · exact .inl (.inl hk)
    · rcases ha with ha | ha
      · exact .inl (.inr (ha ▸ hk))
      · rw [ha] at hk; injection hk with hk; exact .inr (by omega)
theorem Rg.store (h : Rg w g v f S) {gb c k : Nat} (hv : v = .slice (some ⟨gb, 0, none⟩) S.length c) (s : Nat) :
    Rg (w.setCell ⟨gb, k, none⟩ (.int .i64 (s : Int))) g v f (S.set k s) ∧ Fr (Rf g v) w (w.setCell ⟨gb, k, none⟩ (.int .i64 (s : Int))) := by
  have hgb : v.ownBlock = some gb := by rw [hv]; rfl
  have f2 : Fr (fun k => k = gb) w (w.setCell ⟨gb, k, none⟩ (.int .i64 (s : Int))) := Fr.set (S := fun k => k = gb) (Fr.refl _ _) (.inl rfl) k _
  have hT := own_ty h.row hgb
  refine ⟨⟨f2.bx h.box (h.box.ty.ne hT (by decide)), ?_, h.pos, by rw [List.length_set]; exact h.max⟩, f2.mono fun q e => .inr (e ▸ hgb)⟩
  have h1 := h.row
  subst hv
  have h2 := (h1.stored k (.int .i64 (s : Int))).1
  rw [List.length_set, ucells_set]
  exact h2
end
theorem rnew_no (w : World) (x : Nat) (h : x = 0 ∨ 1099511627776 < x) :
    Calls Try.prog 10 #[.int .u64 (x : Int)] w fun e w' => e = .returned (.tuple #[.pointer none, .int .i64 1]) ∧ w' = w := by
  rcases h with rfl | h
  · go_enter Try.func10, Try.ntmps10
    go_wp2
    refine bodyPost_ret (v := .tuple #[.pointer none, .int .i64 1]) (by simp [results, Try.results10, go_sem]) rfl ?_
    exact ⟨rfl, rfl⟩
  · have h0 : decide ((x : Int) < 1) = false := decide_eq_false (by omega)
    go_enter Try.func10, Try.ntmps10
    go_wp2
    refine bodyPost_ret (v := .tuple #[.pointer none, .int .i64 1]) (by simp [results, Try.results10, go_sem]) rfl ?_
    exact ⟨rfl, rfl⟩
theorem rnew_ok (w : World) (x : Nat) (h0 : 1 ≤ x) (h : x ≤ 1099511627776) :
    Calls Try.prog 10 #[.int .u64 (x : Int)] w fun e w' => e = .returned (.tuple #[.pointer (some ⟨w.heap.size, 0, none⟩), .int .i64 0]) ∧ Rg w' w.heap.size (.slice none 0 0) x [] ∧ Below w.heap.size w w' := by
  have h0' : decide ((x : Int) < 1) = false := decide_eq_false (by omega)
  have h0'' : ¬ (x : Int) < 1 := by omega
  go_enter Try.func10, Try.ntmps10
  go_wp2
  refine bodyPost_ret (v := .tuple #[.pointer (some ⟨w.heap.size, 0, none⟩), .int .i64 0]) (by simp [results, Try.results10, go_sem]) rfl ?_
  exact ⟨rfl, ⟨Bx.new w 99 _ [.int .u64 (x : Int), .slice none 0 0] rfl, World.ownsRow_nil _ _ _ _, h0, by simp; omega⟩, (Below.refl _ _).alloc (Nat.le_refl _) _⟩
theorem rnext_nil (w : World) :
    Calls Try.prog 41 #[.pointer none] w fun e w' => e = .returned (.int .u64 0) ∧ w' = w := by
  go_enter Try.func41, Try.ntmps41
  go_wp2
  go_ret
  exact ⟨rfl, rfl⟩
theorem rnext_any (w : World) (g f : Nat) (v : Value) (S : List Nat) (h : Rg w g v f S) :
    Calls Try.prog 41 #[.pointer (some ⟨g, 0, none⟩)] w fun e w' => e = .returned (.int .u64 ((f + S.length : Nat) : Int)) ∧ ∃ n, w' = w.drewN n := by
  have hmax := h.max
  obtain ⟨A, c, rfl, hn, hm, hr⟩ := own_form h.row
  have c0 := h.box.cell 0
  have c1 := h.box.cell 1
  clear hr h
  go_enter Try.func41, Try.ntmps41
  go_wp2_with fail
  go_quiet (fail)
  go_wp2
  go_ret
  exact ⟨rfl, _, rfl⟩
theorem rbegin_nil (w : World) :
    Calls Try.prog 14 #[.pointer none] w fun e w' => e = .returned (.tuple #[.int .u64 0, .int .i64 15]) ∧ w' = w := by
  go_enter Try.func14, Try.ntmps14
  go_wp2
  refine bodyPost_ret (v := .tuple #[.int .u64 0, .int .i64 15]) (by simp [results, Try.results14, go_sem]) rfl ?_
  exact ⟨rfl, rfl⟩
theorem rbegin_full (w : World) (g f : Nat) (v : Value) (S : List Nat) (h : Rg w g v f S) (hfull : f + S.length = 1099511627777) :
    Calls Try.prog 14 #[.pointer (some ⟨g, 0, none⟩)] w fun e w' => e = .returned (.tuple #[.int .u64 0, .int .i64 12]) ∧ ∃ n, w' = w.drewN n := by
  have hn := rnext_any w g f v S h
  rw [hfull] at hn
  have HN := Lib.hid hn
  clear hn h
  go_enter Try.func14, Try.ntmps14
  go_wp2_with (go_at_call 41; (with_reducible refine (HN.out).mono ?_); rintro e w1 ⟨rfl, n, rfl⟩)
  refine bodyPost_ret (v := .tuple #[.int .u64 0, .int .i64 12]) (by simp [results, Try.results14, go_sem]) rfl ?_
  exact ⟨rfl, n, rfl⟩
set_option maxRecDepth 100000 in
set_option maxHeartbeats 1000000 in
theorem rbegin_ok (w : World) (g f : Nat) (v : Value) (S : List Nat) (h : Rg w g v f S) (hmax : f + S.length ≤ 1099511627776) :
    Calls Try.prog 14 #[.pointer (some ⟨g, 0, none⟩)] w fun e w' => e = .returned (.tuple #[.int .u64 ((f + S.length : Nat) : Int), .int .i64 0]) ∧ ∃ v', Rg w' g v' f (S ++ [1]) ∧ Chg (Rf g v) (Rf g v') w w' := by
  obtain ⟨i0, hi0, hz0, hz1, hz2⟩ := info_parts4 info_i64
  have HM := Lib.hid hmax
  have HN := Lib.hid (rnext_any w g f v S h)
  have hps := h.pos
  obtain ⟨x, hx⟩ : ∃ x, x = f + S.length := ⟨_, rfl⟩
  rw [← hx] at HN hmax ⊢
  have hSl : S.length ≤ 1099511627776 := by omega
  have hc1 : ¬ (1099511627776 : Int) < (x : Int) := by omega
  clear hx hps
  go_enter Try.func14, Try.ntmps14
  go_wp2_with fail
  refine (HN.out).mono ?_
  rintro e w0 ⟨rfl, n, hw0⟩
  have L0 : Rg w0 g v f S := by rw [hw0]; exact h.drewN n
  have hB0 : Below w.heap.size w w0 := by rw [hw0]; exact below_n w n
  clear hw0 h
  have c1 := L0.box.cell 1
  have LA := L0.alloc (.cells #[.int .i64 1] 3)
  have HA := Lib.hid ((fr_alloc w0 (.cells #[.int .i64 1] 3) (Rf g v)))
  clear L0
  go_wp2_with (at_builtin; refine wpList_append_src _ rfl (.tmp 15) (.tmp 16) 97 97 rfl 0 3 _ _ 1 8 Try.underlying97 hi0 hz0 hz1 hz2 rfl _ _ _ rfl LA.row _ 1 (ucells .i64 [1]) rfl (src_rd Try.underlying97 _ (rd_lit (by first | rfl | simp) rfl rfl) (by decide) (ucells_one _ _)) (by simp only [maxLen]; omega) (by omega) (by simp) ?_; intro v1 w1 ho1 hg1 ha1; obtain ⟨g1, k1, rfl, _, _, _⟩ := own_shape ho1 (by omega); have L1 := LA.app HM.out hg1 ha1 ho1; have hb1 := (Fr.of_own (S := fun k => v.ownBlock = some k) hg1 fun k e => e).bx LA.box fun e => LA.box.ty.ne (own_ty LA.row e) (by decide) rfl; have d1 := hb1.cell 1; have z1 := hb1.frozen 1; have LE := Lib.hid L1.1; have C1 := Lib.hid L1.2; clear L1 hb1 ho1 hg1 ha1 LA)
  refine bodyPost_ret (v := .tuple #[.int .u64 (x : Int), .int .i64 0]) (by simp [results, Try.results14, go_sem]) rfl ?_
  exact ⟨rfl, _, LE.out, Chg.step hB0 (Chg.trans ⟨HA.out, fun k hk => .inl hk⟩ C1.out)⟩
end Go.Proofs.Ytbmkhopmhmmibaa
