/-
  DropIndex; Prune and DropIndex beside a log.
-/
import Derived.Test.YtbmkhopmhmmibaaPruneB
namespace Go.Proofs.Ytbmkhopmhmmibaa
open Go.RowKit
set_option linter.unusedVariables false

/-- What DropIndex answers and leaves. -/
def DiR (B : Nat) (w w' : World) (k last : Nat) (T : List Tb) (I : List (Nat × Ix)) (vT vI : Value) (S : List Nat) (own xmax : Nat) (R : List Nat) (n : ByteArray) (e : Ending) : Prop := match findI 1 S own xmax R n I with
  | none => e = .returned (.tuple #[.int .u64 0, .int .i64 6]) ∧ Below w.heap.size w w'
  | some i => if allFree S own xmax R T I [i.1] = true then e = .returned (.tuple #[.int .u64 ((entB T I i.1).id : Int), .int .i64 0]) ∧ Bk B w' k last (T.map (Tb.st [i.1] own)) (I.map (Ix.st [i.1] own)) vT vI ∧ FrT bkT B w w'
      else e = .returned (.tuple #[.int .u64 0, .int .i64 11]) ∧ Below w.heap.size w w'
set_option maxRecDepth 100000 in
set_option maxHeartbeats 4000000 in
theorem dridx_any (w : World) (B k g own xmin xmax bb last : Nat) (T : List Tb) (I : List (Nat × Ix)) (S R : List Nat) (F : Nat → Prop) (v vT vI : Value) (n : ByteArray) (hl : LG w g 1 S F) (hR : w.ownsRow bb 28 1 v R.length (ucells .u64 R)) (hn : R.length ≤ 9223372036854775807)
    (hB : Bk B w k last T I vT vI) (hBw : B ≤ w.heap.size) :
    Calls Try.prog 27 #[.pointer (some ⟨k, 0, none⟩), .pointer (some ⟨g, 0, none⟩), .agg #[.int .u64 (own : Int), .int .u64 (xmin : Int), .int .u64 (xmax : Int), v], .string n] w fun e w' => DiR B w w' k last T I vT vI S own xmax R n e := by
  obtain ⟨A, c, hv, _, _, _⟩ := own_form hR
  subst hv
  obtain ⟨AT, ct, AI, ci, rfl, rfl, hT64, hI64, hM⟩ := hB.m
  have x0 : Below w.heap.size w (w.alloc (.cells #[.int .u64 (own : Int), .int .u64 (xmin : Int), .int .u64 (xmax : Int), .slice A R.length c] 50)).drew := ((Below.refl _ _).al _).next (below_n _ 1)
  have b0 : Bx (w.alloc (.cells #[.int .u64 (own : Int), .int .u64 (xmin : Int), .int .u64 (xmax : Int), .slice A R.length c] 50)).drew w.heap.size 50 [.int .u64 (own : Int), .int .u64 (xmin : Int), .int .u64 (xmax : Int), .slice A R.length c] := (Bx.new w 50 _ _ rfl).below (below_n _ 1)
  have bk := (hB.below x0).box
  have hSd : (w.alloc (.cells #[.int .u64 (own : Int), .int .u64 (xmin : Int), .int .u64 (xmax : Int), .slice A R.length c] 50)).drew.cell? ⟨w.heap.size, 0, none⟩ = some (.int .u64 (own : Int)) ∧ (w.alloc (.cells #[.int .u64 (own : Int), .int .u64 (xmin : Int), .int .u64 (xmax : Int), .slice A R.length c] 50)).drew.cell? ⟨w.heap.size, 1, none⟩ = some (.int .u64 (xmin : Int)) ∧ (w.alloc (.cells #[.int .u64 (own : Int), .int .u64 (xmin : Int), .int .u64 (xmax : Int), .slice A R.length c] 50)).drew.cell? ⟨w.heap.size, 2, none⟩ = some (.int .u64 (xmax : Int)) ∧ (w.alloc (.cells #[.int .u64 (own : Int), .int .u64 (xmin : Int), .int .u64 (xmax : Int), .slice A R.length c] 50)).drew.cell? ⟨w.heap.size, 3, none⟩ = some (.slice A R.length c) ∧ (w.alloc (.cells #[.int .u64 (own : Int), .int .u64 (xmin : Int), .int .u64 (xmax : Int), .slice A R.length c] 50)).drew.cell? ⟨k, 2, none⟩ = some (.slice AI I.length ci) := ⟨b0.cell 0, b0.cell 1, b0.cell 2, b0.cell 3, bk.cell 2⟩
  have HFT := ifind_any _ g 1 own xmin xmax bb I.length ci 0 AI I S R F _ n (hl.below x0) (own_below hR x0) hn rfl hI64 (hM.below x0).rI (fun t ht => ((hM.below x0).eI t ht))
  have HB := Lib.hid hB
  have HX := Lib.hid x0
  have HL := Lib.hid hl
  have HR := Lib.hid hR
  obtain ⟨o, ho⟩ : ∃ o, findI 1 S own xmax R n I = o := ⟨_, rfl⟩
  rw [ho] at HFT
  have HFB := Lib.hid ho
  clear hl hR hB hM bk
  cases o with
  | none =>
    have HFT := Lib.hid (show Calls _ _ _ _ fun e w' => e = .returned (.tuple #[.pointer none, .bool false]) ∧ _ from HFT)
    clear ho
    go_enter Try.func27, Try.ntmps27
    go_upto_region 3 with fail
    go_region_held3 (fun w' => w'.cell? ⟨w.heap.size, 0, none⟩ = some (.int .u64 (own : Int)) ∧ w'.cell? ⟨w.heap.size, 1, none⟩ = some (.int .u64 (xmin : Int)) ∧ w'.cell? ⟨w.heap.size, 2, none⟩ = some (.int .u64 (xmax : Int)) ∧ w'.cell? ⟨w.heap.size, 3, none⟩ = some (.slice A R.length c) ∧ w'.cell? ⟨k, 2, none⟩ = some (.slice AI I.length ci)) (first | (with_reducible assumption))
      (first | (go_at_call 63; (with_reducible refine (HFT.out).mono ?_); rintro e w1 ⟨rfl, hb1⟩; have x1 := HX.out.next hb1; have hS1 : w1.cell? ⟨w.heap.size, 0, none⟩ = some (.int .u64 (own : Int)) ∧ w1.cell? ⟨w.heap.size, 1, none⟩ = some (.int .u64 (xmin : Int)) ∧ w1.cell? ⟨w.heap.size, 2, none⟩ = some (.int .u64 (xmax : Int)) ∧ w1.cell? ⟨w.heap.size, 3, none⟩ = some (.slice A R.length c) ∧ w1.cell? ⟨k, 2, none⟩ = some (.slice AI I.length ci) := ⟨cells_below hb1 hSd.1, cells_below hb1 hSd.2.1, cells_below hb1 hSd.2.2.1, cells_below hb1 hSd.2.2.2.1, cells_below hb1 hSd.2.2.2.2⟩))
    go_wp2_with fail
    refine bodyPost_ret (v := .tuple #[.int .u64 0, .int .i64 6]) (by simp [results, Try.results27, go_sem]) rfl ?_
    unfold DiR
    rw [HFB.out]
    exact ⟨rfl, x1⟩
  | some i =>
    obtain ⟨ib, x⟩ := i
    have him : (ib, x) ∈ I := List.mem_of_find?_eq_some ho
    have HIM := Lib.hid him
    have HFT := Lib.hid (show Calls _ _ _ _ fun e w' => e = .returned (.tuple #[.pointer (some ⟨ib, 0, none⟩), .bool true]) ∧ _ from HFT)
    clear ho him
    go_enter Try.func27, Try.ntmps27
    go_upto_region 3 with fail
    go_region_held3 (fun w' => w'.cell? ⟨w.heap.size, 0, none⟩ = some (.int .u64 (own : Int)) ∧ w'.cell? ⟨w.heap.size, 1, none⟩ = some (.int .u64 (xmin : Int)) ∧ w'.cell? ⟨w.heap.size, 2, none⟩ = some (.int .u64 (xmax : Int)) ∧ w'.cell? ⟨w.heap.size, 3, none⟩ = some (.slice A R.length c) ∧ w'.cell? ⟨k, 2, none⟩ = some (.slice AI I.length ci)) (first | (with_reducible assumption))
      (first | (go_at_call 63; (with_reducible refine (HFT.out).mono ?_); rintro e w1 ⟨rfl, hb1⟩; have x1 := HX.out.next hb1; have b1 := b0.below hb1; have hS1 : w1.cell? ⟨w.heap.size, 0, none⟩ = some (.int .u64 (own : Int)) ∧ w1.cell? ⟨w.heap.size, 1, none⟩ = some (.int .u64 (xmin : Int)) ∧ w1.cell? ⟨w.heap.size, 2, none⟩ = some (.int .u64 (xmax : Int)) ∧ w1.cell? ⟨w.heap.size, 3, none⟩ = some (.slice A R.length c) ∧ w1.cell? ⟨k, 2, none⟩ = some (.slice AI I.length ci) := ⟨cells_below hb1 hSd.1, cells_below hb1 hSd.2.1, cells_below hb1 hSd.2.2.1, cells_below hb1 hSd.2.2.2.1, cells_below hb1 hSd.2.2.2.2⟩))
    clear hSd hS1 b0 HFT
    have x1d : Below w.heap.size w w1.drew := x1.next (below_n w1 1)
    have b1d : Bx w1.drew w.heap.size 50 [.int .u64 (own : Int), .int .u64 (xmin : Int), .int .u64 (xmax : Int), .slice A R.length c] := b1.below (below_n w1 1)
    have y2 : Below w1.drew.heap.size w1.drew (w1.alloc (.cells #[.pointer (some ⟨ib, 0, none⟩)] 135)).drew := (Below.refl w1.drew.heap.size w1.drew).al (.cells #[.pointer (some ⟨ib, 0, none⟩)] 135)
    have x2 := x1d.next y2
    have b2 := b1d.below y2
    have hSd : w1.drew.cell? ⟨w.heap.size, 0, none⟩ = some (.int .u64 (own : Int)) ∧ w1.drew.cell? ⟨w.heap.size, 1, none⟩ = some (.int .u64 (xmin : Int)) ∧ w1.drew.cell? ⟨w.heap.size, 2, none⟩ = some (.int .u64 (xmax : Int)) ∧ w1.drew.cell? ⟨w.heap.size, 3, none⟩ = some (.slice A R.length c) := ⟨b1d.cell 0, b1d.cell 1, b1d.cell 2, b1d.cell 3⟩
    have hSe : (w1.alloc (.cells #[.pointer (some ⟨ib, 0, none⟩)] 135)).drew.cell? ⟨w.heap.size, 0, none⟩ = some (.int .u64 (own : Int)) ∧ (w1.alloc (.cells #[.pointer (some ⟨ib, 0, none⟩)] 135)).drew.cell? ⟨w.heap.size, 1, none⟩ = some (.int .u64 (xmin : Int)) ∧ (w1.alloc (.cells #[.pointer (some ⟨ib, 0, none⟩)] 135)).drew.cell? ⟨w.heap.size, 2, none⟩ = some (.int .u64 (xmax : Int)) ∧ (w1.alloc (.cells #[.pointer (some ⟨ib, 0, none⟩)] 135)).drew.cell? ⟨w.heap.size, 3, none⟩ = some (.slice A R.length c) := ⟨b2.cell 0, b2.cell 1, b2.cell 2, b2.cell 3⟩
    have o2 : (w1.alloc (.cells #[.pointer (some ⟨ib, 0, none⟩)] 135)).drew.ownsRow w1.heap.size 135 1 (.slice (some ⟨w1.heap.size, 0, none⟩) 1 1) 1 ([ib].map ptr) := own_below (own_lit2 (w := w1) (e := 135) (sz := 1) (n := 1) (cs := [.pointer (some ⟨ib, 0, none⟩)]) rfl (by decide)) (below_n _ 1)
    have HDR := Lib.hid (drop_any (w1.alloc (.cells #[.pointer (some ⟨ib, 0, none⟩)] 135)).drew B k g own xmin xmax bb w1.heap.size last 1 1 (some ⟨w1.heap.size, 0, none⟩) T I S R [ib] F _ _ _ (HL.out.below x2) (own_below HR.out x2) hn (HB.out.below x2) (Nat.le_trans hBw x2.size) (fun d hd => by
      rw [List.mem_singleton] at hd
      subst hd
      exact .inr (List.mem_map.2 ⟨_, HIM.out, rfl⟩)) rfl (Nat.le_refl _) o2)
    have HX2 := Lib.hid x2
    clear o2 y2
    obtain ⟨id0, hid⟩ : ∃ z, (entB T I ([ib].headD 0)).id = z := ⟨_, rfl⟩
    have HID := Lib.hid hid
    clear hid
    cases hfa : allFree S own xmax R T I [ib] with
    | true =>
      have HFA := Lib.hid hfa
      have HDR := Lib.hid (HDR.out.mono (R' := fun e w' => e = .returned (.tuple #[.int .u64 (id0 : Int), .int .i64 0]) ∧ Bk B w' k last (T.map (Tb.st [ib] own)) (I.map (Ix.st [ib] own)) (.slice AT T.length ct) (.slice AI I.length ci) ∧ FrT bkT B _ w') fun e w' h => by
        rcases h with ⟨h1, _⟩ | ⟨_, h2, h3, h4⟩
        · rw [HFA.out] at h1; cases h1
        · rw [HID.out] at h2; exact ⟨h2, h3, h4⟩)
      clear hfa
      go_upto_region 6 with fail
      go_region_held3 (fun w' => w'.cell? ⟨w.heap.size, 0, none⟩ = some (.int .u64 (own : Int)) ∧ w'.cell? ⟨w.heap.size, 1, none⟩ = some (.int .u64 (xmin : Int)) ∧ w'.cell? ⟨w.heap.size, 2, none⟩ = some (.int .u64 (xmax : Int)) ∧ w'.cell? ⟨w.heap.size, 3, none⟩ = some (.slice A R.length c)) (first | (with_reducible assumption))
        (first | (go_at_call 61; (with_reducible refine (HDR.out).mono ?_); rintro e w3 ⟨rfl, hk3, f3⟩; have b3 := f3.bx b2 (by unfold bkT; decide); have HK3 := Lib.hid hk3; have hS3 : w3.cell? ⟨w.heap.size, 0, none⟩ = some (.int .u64 (own : Int)) ∧ w3.cell? ⟨w.heap.size, 1, none⟩ = some (.int .u64 (xmin : Int)) ∧ w3.cell? ⟨w.heap.size, 2, none⟩ = some (.int .u64 (xmax : Int)) ∧ w3.cell? ⟨w.heap.size, 3, none⟩ = some (.slice A R.length c) := ⟨b3.cell 0, b3.cell 1, b3.cell 2, b3.cell 3⟩))
      go_wp2_with fail
      refine bodyPost_ret (v := .tuple #[.int .u64 (id0 : Int), .int .i64 0]) (by simp [results, Try.results27, go_sem]) rfl ?_
      unfold DiR
      rw [HFB.out]
      show (if allFree S own xmax R T I [ib] = true then _ else _)
      rw [HFA.out, if_pos rfl]
      exact ⟨by rw [← HID.out]; rfl, HK3.out, (FrT.of_below HX2.out).trans f3⟩
    | false =>
      have HFA := Lib.hid hfa
      have HDR := Lib.hid (HDR.out.mono (R' := fun e w' => e = .returned (.tuple #[.int .u64 0, .int .i64 11]) ∧ Below (w1.alloc (.cells #[.pointer (some ⟨ib, 0, none⟩)] 135)).drew.heap.size (w1.alloc (.cells #[.pointer (some ⟨ib, 0, none⟩)] 135)).drew w') fun e w' h => by
        rcases h with ⟨_, h2, h3⟩ | ⟨h1, _⟩
        · exact ⟨h2, h3⟩
        · rw [HFA.out] at h1; cases h1)
      clear hfa
      go_upto_region 6 with fail
      go_region_held3 (fun w' => w'.cell? ⟨w.heap.size, 0, none⟩ = some (.int .u64 (own : Int)) ∧ w'.cell? ⟨w.heap.size, 1, none⟩ = some (.int .u64 (xmin : Int)) ∧ w'.cell? ⟨w.heap.size, 2, none⟩ = some (.int .u64 (xmax : Int)) ∧ w'.cell? ⟨w.heap.size, 3, none⟩ = some (.slice A R.length c)) (first | (with_reducible assumption))
        (first | (go_at_call 61; (with_reducible refine (HDR.out).mono ?_); rintro e w3 ⟨rfl, x3⟩; have hS3 : w3.cell? ⟨w.heap.size, 0, none⟩ = some (.int .u64 (own : Int)) ∧ w3.cell? ⟨w.heap.size, 1, none⟩ = some (.int .u64 (xmin : Int)) ∧ w3.cell? ⟨w.heap.size, 2, none⟩ = some (.int .u64 (xmax : Int)) ∧ w3.cell? ⟨w.heap.size, 3, none⟩ = some (.slice A R.length c) := ⟨cells_below x3 hSe.1, cells_below x3 hSe.2.1, cells_below x3 hSe.2.2.1, cells_below x3 hSe.2.2.2⟩))
      go_wp2_with fail
      refine bodyPost_ret (v := .tuple #[.int .u64 0, .int .i64 11]) (by simp [results, Try.results27, go_sem]) rfl ?_
      unfold DiR
      rw [HFB.out]
      show (if allFree S own xmax R T I [ib] = true then _ else _)
      rw [HFA.out, if_neg (by decide)]
      exact ⟨rfl, HX2.out.next x3⟩
section
variable {g : Nat} {w0 : World} {S : List Nat} {B k last : Nat} {w : World} {T : List Tb} {I : List (Nat × Ix)} {Q : List (Value × List Nat)}
theorem wd_prune (hw : Wd B w0 w g S k last T I Q) (h : Nat) (hT16 : T.length ≤ 16) (hI16 : I.length ≤ 16) :
    Calls Try.prog 29 #[.pointer (some ⟨k, 0, none⟩), .pointer (some ⟨g, 0, none⟩), .int .u64 (h : Int)] w fun e w' => ∃ v1 v2, e = .returned (.tuple #[v1, v2]) ∧ Wd B w0 w' g S k last (liveT S h T) (liveI S h I) Q ∧ FrT allT B w w' := by
  obtain ⟨F, vT, vI, hl, hm, hb, hq⟩ := hw
  refine (prune_any w B k g h last T I S F vT vI hl hb hm.size hT16 hI16).mono ?_
  rintro e w' ⟨v1, v2, vT', vI', rfl, _, _, hb', hf⟩
  exact ⟨v1, v2, rfl, wd_book hl hm hq hb' hf⟩
/-- What DropIndex makes of the tables, the indexes. -/
def diT (S : List Nat) (own xmax : Nat) (R : List Nat) (n : ByteArray) (T : List Tb) (I : List (Nat × Ix)) : List Tb := match findI 1 S own xmax R n I with
  | none => T
  | some i => if allFree S own xmax R T I [i.1] = true then T.map (Tb.st [i.1] own) else T
def diI (S : List Nat) (own xmax : Nat) (R : List Nat) (n : ByteArray) (T : List Tb) (I : List (Nat × Ix)) : List (Nat × Ix) := match findI 1 S own xmax R n I with
  | none => I
  | some i => if allFree S own xmax R T I [i.1] = true then I.map (Ix.st [i.1] own) else I
theorem wd_dridx (hw : Wd B w0 w g S k last T I Q) (own xmin xmax : Nat) (v : Value) (R : List Nat) (n : ByteArray) (hv : (v, R) ∈ Q) :
    Calls Try.prog 27 #[.pointer (some ⟨k, 0, none⟩), .pointer (some ⟨g, 0, none⟩), .agg #[.int .u64 (own : Int), .int .u64 (xmin : Int), .int .u64 (xmax : Int), v], .string n] w fun e w' => ∃ z, e = .returned z ∧ Wd B w0 w' g S k last (diT S own xmax R n T I) (diI S own xmax R n T I) Q ∧ FrT allT B w w' := by
  have hw0 := hw
  obtain ⟨F, vT, vI, hl, hm, hb, hq⟩ := hw
  refine (dridx_any w B k g own xmin xmax B last T I S R F v vT vI n hl (hq _ hv).1 (len_max (hq _ hv).1) hb hm.size).mono ?_
  intro e w' h1
  unfold DiR at h1
  unfold diT diI
  cases hf : findI 1 S own xmax R n I with
  | none =>
    rw [hf] at h1
    exact ⟨_, h1.1, hw0.next h1.2, FrT.of_below h1.2⟩
  | some i =>
    rw [hf] at h1
    change (if allFree S own xmax R T I [i.1] = true then _ else _) at h1
    show ∃ z, _ ∧ Wd B w0 w' g S k last (if allFree S own xmax R T I [i.1] = true then _ else _) (if allFree S own xmax R T I [i.1] = true then _ else _) Q ∧ _
    by_cases ha : allFree S own xmax R T I [i.1] = true
    · rw [if_pos ha] at h1
      rw [if_pos ha, if_pos ha]
      obtain ⟨h2, h3⟩ := wd_book hl hm hq h1.2.1 h1.2.2
      exact ⟨_, h1.1, h2, h3⟩
    · rw [if_neg ha] at h1
      rw [if_neg ha, if_neg ha]
      exact ⟨_, h1.1, hw0.next h1.2, FrT.of_below h1.2⟩
/-- What DropTable makes of them. -/
def dtD (S : List Nat) (own xmax : Nat) (R : List Nat) (n : ByteArray) (T : List Tb) (I : List (Nat × Ix)) : List Nat := match findTb S own xmax R n T with
  | none => []
  | some t => if allFree S own xmax R T I (goD S own xmax R t I) = true then goD S own xmax R t I else []
theorem wd_drtab (hw : Wd B w0 w g S k last T I Q) (own xmin xmax : Nat) (v : Value) (R : List Nat) (n : ByteArray) (hv : (v, R) ∈ Q) (hI : I.length ≤ 16) :
    Calls Try.prog 25 #[.pointer (some ⟨k, 0, none⟩), .pointer (some ⟨g, 0, none⟩), .agg #[.int .u64 (own : Int), .int .u64 (xmin : Int), .int .u64 (xmax : Int), v], .string n] w fun e w' => ∃ z, e = .returned z ∧ Wd B w0 w' g S k last (T.map (Tb.st (dtD S own xmax R n T I) own)) (I.map (Ix.st (dtD S own xmax R n T I) own)) Q ∧ FrT allT B w w' := by
  have hw0 := hw
  obtain ⟨F, vT, vI, hl, hm, hb, hq⟩ := hw
  refine (drtab_any w B k g own xmin xmax B last T I S R F v vT vI n hl (hq _ hv).1 (len_max (hq _ hv).1) hb hm.size hI).mono ?_
  intro e w' h1
  unfold DtR at h1
  unfold dtD
  cases hf : findTb S own xmax R n T with
  | none =>
    rw [hf] at h1
    show ∃ z, _ ∧ Wd B w0 w' g S k last (T.map (Tb.st [] own)) (I.map (Ix.st [] own)) Q ∧ _
    rw [Tb.st_nil, Ix.st_nil]
    exact ⟨_, h1.1, hw0.next h1.2, FrT.of_below h1.2⟩
  | some t =>
    rw [hf] at h1
    change (if allFree S own xmax R T I (goD S own xmax R t I) = true then _ else _) at h1
    show ∃ z, _ ∧ Wd B w0 w' g S k last (T.map (Tb.st (if allFree S own xmax R T I (goD S own xmax R t I) = true then _ else _) own)) (I.map (Ix.st (if allFree S own xmax R T I (goD S own xmax R t I) = true then _ else _) own)) Q ∧ _
    by_cases ha : allFree S own xmax R T I (goD S own xmax R t I) = true
    · rw [if_pos ha] at h1 ⊢
      obtain ⟨h2, h3⟩ := wd_book hl hm hq h1.2.1 h1.2.2
      exact ⟨_, h1.1, h2, h3⟩
    · rw [if_neg ha] at h1 ⊢
      rw [Tb.st_nil, Ix.st_nil]
      exact ⟨_, h1.1, hw0.next h1.2, FrT.of_below h1.2⟩
end
end Go.Proofs.Ytbmkhopmhmmibaa
