/- Contracts and laws: FmtI. -/
import Derived.Test.YtjklehlkgccmnaaDoorXFmtH
/- Contracts: radicandref05.Inf, NaN, Max, One, Nought. -/
set_option linter.unusedVariables false
set_option linter.unusedSimpArgs false
set_option maxRecDepth 8000
namespace Go.Proofs.YtjklehlkgccmnaaDoor
open Go.RowKit Plain

theorem bt_one : (⟨#[49]⟩ : ByteArray) = bt [true] := rfl
theorem bt_nil : (⟨#[48]⟩ : ByteArray) = bt [false] := rfl
theorem bt_nn : (⟨#[48, 48]⟩ : ByteArray) = bt [false, false] := rfl
theorem times_1 (n : Nat) (hn : n ≤ 200) (w : World) : Calls Tryd.prog 68 #[.string ⟨#[49]⟩, .int .i64 (n : Int)] w fun e w' => e = .returned (.string (bt (List.replicate n true))) ∧ w' = w := times_any true n hn _ rfl w
theorem times_0 (n : Nat) (hn : n ≤ 200) (w : World) : Calls Tryd.prog 68 #[.string ⟨#[48]⟩, .int .i64 (n : Int)] w fun e w' => e = .returned (.string (bt (List.replicate n false))) ∧ w' = w := times_any false n hn _ rfl w
/-- What a call that lays a word into its result leaves. -/
theorem word_out {w w1 : World} (hb1 : Below (w.alloc (.cells #[.int .u64 0, .int .u64 0] 35)).heap.size (w.alloc (.cells #[.int .u64 0, .int .u64 0] 35)) w1) :
    w1.cell? ⟨w.heap.size, 0, none⟩ = some (.int .u64 0) ∧ w1.cell? ⟨w.heap.size, 1, none⟩ = some (.int .u64 0) ∧ (∀ i, w1.frozen? ⟨w.heap.size, i, none⟩ = false) ∧ w.heap.size < w1.heap.size ∧ Below w.heap.size w w1 := by
  have hs := hb1.size
  have hc : ∀ i, i < 2 → w1.cell? ⟨w.heap.size, i, none⟩ = some (.int .u64 0) := fun i hi => (hb1.cell (p := ⟨w.heap.size, i, none⟩) (by simp)).trans (by match i, hi with | 0, _ | 1, _ => simp [go_sem])
  rw [World.size_alloc] at hs
  exact ⟨hc 0 (by decide), hc 1 (by decide), fun i => (hb1.frozen (p := ⟨w.heap.size, i, none⟩) (by simp)).trans (by simp [go_sem]), hs, below_trans (below_allocs _ _) hb1⟩

set_option maxHeartbeats 1000000 in
theorem rinf_1 (neg : Bool) (w : World) : Calls Tryd.prog 28 #[.int .i64 1, .bool neg] w fun e w' => e = .returned (.agg #[.int .u64 (dgl (bif neg then 64512 else 31744) 1 : Nat), .int .u64 (dgl (bif neg then 64512 else 31744) 0 : Nat)]) ∧ Below w.heap.size w w' := by
  have hW := fun w => refWord_any (([neg]) ++ (List.replicate 5 true) ++ (List.replicate 10 false)) (by simp) w
  rw [show valN (([neg]) ++ (List.replicate 5 true) ++ (List.replicate 10 false)) = (bif neg then 64512 else 31744) by cases neg <;> decide +kernel] at hW
  rw [← bt_app, ← bt_app] at hW
  have HW : Hid (∀ w, Calls Tryd.prog 66 #[.string (bt [neg] ++ bt (List.replicate 5 true) ++ bt (List.replicate 10 false))] w fun e w' => e = .returned (.agg #[.int .u64 (dgl (bif neg then 64512 else 31744) 1 : Nat), .int .u64 (dgl (bif neg then 64512 else 31744) 0 : Nat)]) ∧ Below w.heap.size w w') := hW
  clear hW
  have s0 : (bt [neg]).size = 1 := by rw [bt_size]; simp
  have s1 : (bt (List.replicate 5 true)).size = 5 := by rw [bt_size]; simp
  have s2 : (bt (List.replicate 10 false)).size = 10 := by rw [bt_size]; simp
  go_enter Tryd.func28, Tryd.ntmps28
  go_wp2_with fail
  refine (sign5_any neg _).mono ?_
  rintro e w1 ⟨rfl, hw⟩
  subst w1
  go_wp2_with fail
  refine (field_1 _).mono ?_
  rintro e w1 ⟨rfl, hw⟩
  subst w1
  go_wp2_with fail
  refine (times_1 5 (by decide) _).mono ?_
  rintro e w1 ⟨rfl, hw⟩
  subst w1
  go_wp2_with fail
  refine (prec_1 _).mono ?_
  rintro e w1 ⟨rfl, hw⟩
  subst w1
  go_wp2_with fail
  refine (times_0 10 (by decide) _).mono ?_
  rintro e w1 ⟨rfl, hw⟩
  subst w1
  go_wp2_with fail
  refine (HW.out _).mono ?_
  rintro e w1 ⟨rfl, hb1⟩
  obtain ⟨hr0, hr1, hrf, hlt, hB⟩ := word_out hb1
  have HB := hide hB
  clear hb1 hB HW
  go_wp2
  exact bodyPost_ret (v := .agg #[.int .u64 (dgl (bif neg then 64512 else 31744) 1 : Nat), .int .u64 (dgl (bif neg then 64512 else 31744) 0 : Nat)]) (by simp [results, Tryd.results28, go_sem, hr0, hr1, hlt]) rfl ⟨rfl, (HB.out.setCell (p := ⟨w.heap.size, 0, none⟩) (Nat.le_refl _) _).setCell (p := ⟨w.heap.size, 1, none⟩) (Nat.le_refl _) _⟩

set_option maxHeartbeats 1000000 in
theorem rnan_1  (w : World) : Calls Tryd.prog 29 #[.int .i64 1] w fun e w' => e = .returned (.agg #[.int .u64 (dgl (32256) 1 : Nat), .int .u64 (dgl (32256) 0 : Nat)]) ∧ Below w.heap.size w w' := by
  have hW := fun w => refWord_any (([false]) ++ (List.replicate 6 true) ++ (List.replicate 9 false)) (by simp) w
  rw [show valN (([false]) ++ (List.replicate 6 true) ++ (List.replicate 9 false)) = (32256) by decide +kernel] at hW
  rw [← bt_app, ← bt_app] at hW
  have HW : Hid (∀ w, Calls Tryd.prog 66 #[.string (⟨#[48]⟩ ++ bt (List.replicate 6 true) ++ bt (List.replicate 9 false))] w fun e w' => e = .returned (.agg #[.int .u64 (dgl (32256) 1 : Nat), .int .u64 (dgl (32256) 0 : Nat)]) ∧ Below w.heap.size w w') := hW
  clear hW
  have s1 : (bt (List.replicate 6 true)).size = 6 := by rw [bt_size]; simp
  have s2 : (bt (List.replicate 9 false)).size = 9 := by rw [bt_size]; simp
  go_enter Tryd.func29, Tryd.ntmps29
  go_wp2_with fail
  refine (field_1 _).mono ?_
  rintro e w1 ⟨rfl, hw⟩
  subst w1
  go_wp2_with fail
  refine (times_1 6 (by decide) _).mono ?_
  rintro e w1 ⟨rfl, hw⟩
  subst w1
  go_wp2_with fail
  refine (prec_1 _).mono ?_
  rintro e w1 ⟨rfl, hw⟩
  subst w1
  go_wp2_with fail
  refine (times_0 9 (by decide) _).mono ?_
  rintro e w1 ⟨rfl, hw⟩
  subst w1
  go_wp2_with fail
  refine (HW.out _).mono ?_
  rintro e w1 ⟨rfl, hb1⟩
  obtain ⟨hr0, hr1, hrf, hlt, hB⟩ := word_out hb1
  have HB := hide hB
  clear hb1 hB HW
  go_wp2
  exact bodyPost_ret (v := .agg #[.int .u64 (dgl (32256) 1 : Nat), .int .u64 (dgl (32256) 0 : Nat)]) (by simp [results, Tryd.results29, go_sem, hr0, hr1, hlt]) rfl ⟨rfl, (HB.out.setCell (p := ⟨w.heap.size, 0, none⟩) (Nat.le_refl _) _).setCell (p := ⟨w.heap.size, 1, none⟩) (Nat.le_refl _) _⟩

set_option maxHeartbeats 1000000 in
theorem rmax_1 (neg : Bool) (w : World) : Calls Tryd.prog 30 #[.int .i64 1, .bool neg] w fun e w' => e = .returned (.agg #[.int .u64 (dgl (bif neg then 64511 else 31743) 1 : Nat), .int .u64 (dgl (bif neg then 64511 else 31743) 0 : Nat)]) ∧ Below w.heap.size w w' := by
  have hW := fun w => refWord_any (([neg]) ++ (List.replicate 4 true) ++ ([false]) ++ (List.replicate 10 true)) (by simp) w
  rw [show valN (([neg]) ++ (List.replicate 4 true) ++ ([false]) ++ (List.replicate 10 true)) = (bif neg then 64511 else 31743) by cases neg <;> decide +kernel] at hW
  rw [← bt_app, ← bt_app, ← bt_app] at hW
  have HW : Hid (∀ w, Calls Tryd.prog 66 #[.string (bt [neg] ++ bt (List.replicate 4 true) ++ ⟨#[48]⟩ ++ bt (List.replicate 10 true))] w fun e w' => e = .returned (.agg #[.int .u64 (dgl (bif neg then 64511 else 31743) 1 : Nat), .int .u64 (dgl (bif neg then 64511 else 31743) 0 : Nat)]) ∧ Below w.heap.size w w') := hW
  clear hW
  have s0 : (bt [neg]).size = 1 := by rw [bt_size]; simp
  have s1 : (bt (List.replicate 4 true)).size = 4 := by rw [bt_size]; simp
  have s3 : (bt (List.replicate 10 true)).size = 10 := by rw [bt_size]; simp
  go_enter Tryd.func30, Tryd.ntmps30
  go_wp2_with fail
  refine (sign5_any neg _).mono ?_
  rintro e w1 ⟨rfl, hw⟩
  subst w1
  go_wp2_with fail
  refine (field_1 _).mono ?_
  rintro e w1 ⟨rfl, hw⟩
  subst w1
  go_wp2_with fail
  refine (times_1 4 (by decide) _).mono ?_
  rintro e w1 ⟨rfl, hw⟩
  subst w1
  go_wp2_with fail
  refine (prec_1 _).mono ?_
  rintro e w1 ⟨rfl, hw⟩
  subst w1
  go_wp2_with fail
  refine (times_1 10 (by decide) _).mono ?_
  rintro e w1 ⟨rfl, hw⟩
  subst w1
  go_wp2_with fail
  refine (HW.out _).mono ?_
  rintro e w1 ⟨rfl, hb1⟩
  obtain ⟨hr0, hr1, hrf, hlt, hB⟩ := word_out hb1
  have HB := hide hB
  clear hb1 hB HW
  go_wp2
  exact bodyPost_ret (v := .agg #[.int .u64 (dgl (bif neg then 64511 else 31743) 1 : Nat), .int .u64 (dgl (bif neg then 64511 else 31743) 0 : Nat)]) (by simp [results, Tryd.results30, go_sem, hr0, hr1, hlt]) rfl ⟨rfl, (HB.out.setCell (p := ⟨w.heap.size, 0, none⟩) (Nat.le_refl _) _).setCell (p := ⟨w.heap.size, 1, none⟩) (Nat.le_refl _) _⟩

set_option maxHeartbeats 1000000 in
theorem rone_1  (w : World) : Calls Tryd.prog 31 #[.int .i64 1] w fun e w' => e = .returned (.agg #[.int .u64 (dgl (15360) 1 : Nat), .int .u64 (dgl (15360) 0 : Nat)]) ∧ Below w.heap.size w w' := by
  have hW := fun w => refWord_any (([false, false]) ++ (List.replicate 4 true) ++ (List.replicate 10 false)) (by simp) w
  rw [show valN (([false, false]) ++ (List.replicate 4 true) ++ (List.replicate 10 false)) = (15360) by decide +kernel] at hW
  rw [← bt_app, ← bt_app] at hW
  have HW : Hid (∀ w, Calls Tryd.prog 66 #[.string (⟨#[48, 48]⟩ ++ bt (List.replicate 4 true) ++ bt (List.replicate 10 false))] w fun e w' => e = .returned (.agg #[.int .u64 (dgl (15360) 1 : Nat), .int .u64 (dgl (15360) 0 : Nat)]) ∧ Below w.heap.size w w') := hW
  clear hW
  have s1 : (bt (List.replicate 4 true)).size = 4 := by rw [bt_size]; simp
  have s2 : (bt (List.replicate 10 false)).size = 10 := by rw [bt_size]; simp
  go_enter Tryd.func31, Tryd.ntmps31
  go_wp2_with fail
  refine (field_1 _).mono ?_
  rintro e w1 ⟨rfl, hw⟩
  subst w1
  go_wp2_with fail
  refine (times_1 4 (by decide) _).mono ?_
  rintro e w1 ⟨rfl, hw⟩
  subst w1
  go_wp2_with fail
  refine (prec_1 _).mono ?_
  rintro e w1 ⟨rfl, hw⟩
  subst w1
  go_wp2_with fail
  refine (times_0 10 (by decide) _).mono ?_
  rintro e w1 ⟨rfl, hw⟩
  subst w1
  go_wp2_with fail
  refine (HW.out _).mono ?_
  rintro e w1 ⟨rfl, hb1⟩
  obtain ⟨hr0, hr1, hrf, hlt, hB⟩ := word_out hb1
  have HB := hide hB
  clear hb1 hB HW
  go_wp2
  exact bodyPost_ret (v := .agg #[.int .u64 (dgl (15360) 1 : Nat), .int .u64 (dgl (15360) 0 : Nat)]) (by simp [results, Tryd.results31, go_sem, hr0, hr1, hlt]) rfl ⟨rfl, (HB.out.setCell (p := ⟨w.heap.size, 0, none⟩) (Nat.le_refl _) _).setCell (p := ⟨w.heap.size, 1, none⟩) (Nat.le_refl _) _⟩

set_option maxHeartbeats 1000000 in
theorem rnought_1 (neg : Bool) (w : World) : Calls Tryd.prog 32 #[.int .i64 1, .bool neg] w fun e w' => e = .returned (.agg #[.int .u64 (dgl (bif neg then 32768 else 0) 1 : Nat), .int .u64 (dgl (bif neg then 32768 else 0) 0 : Nat)]) ∧ Below w.heap.size w w' := by
  have hW := fun w => refWord_any (([neg]) ++ (List.replicate 15 false)) (by simp) w
  rw [show valN (([neg]) ++ (List.replicate 15 false)) = (bif neg then 32768 else 0) by cases neg <;> decide +kernel] at hW
  rw [← bt_app] at hW
  have HW : Hid (∀ w, Calls Tryd.prog 66 #[.string (bt [neg] ++ bt (List.replicate 15 false))] w fun e w' => e = .returned (.agg #[.int .u64 (dgl (bif neg then 32768 else 0) 1 : Nat), .int .u64 (dgl (bif neg then 32768 else 0) 0 : Nat)]) ∧ Below w.heap.size w w') := hW
  clear hW
  have s0 : (bt [neg]).size = 1 := by rw [bt_size]; simp
  have s1 : (bt (List.replicate 15 false)).size = 15 := by rw [bt_size]; simp
  go_enter Tryd.func32, Tryd.ntmps32
  go_wp2_with fail
  refine (sign5_any neg _).mono ?_
  rintro e w1 ⟨rfl, hw⟩
  subst w1
  go_wp2_with fail
  refine (bits_1 _).mono ?_
  rintro e w1 ⟨rfl, hw⟩
  subst w1
  go_wp2_with fail
  refine (times_0 15 (by decide) _).mono ?_
  rintro e w1 ⟨rfl, hw⟩
  subst w1
  go_wp2_with fail
  refine (HW.out _).mono ?_
  rintro e w1 ⟨rfl, hb1⟩
  obtain ⟨hr0, hr1, hrf, hlt, hB⟩ := word_out hb1
  have HB := hide hB
  clear hb1 hB HW
  go_wp2
  exact bodyPost_ret (v := .agg #[.int .u64 (dgl (bif neg then 32768 else 0) 1 : Nat), .int .u64 (dgl (bif neg then 32768 else 0) 0 : Nat)]) (by simp [results, Tryd.results32, go_sem, hr0, hr1, hlt]) rfl ⟨rfl, (HB.out.setCell (p := ⟨w.heap.size, 0, none⟩) (Nat.le_refl _) _).setCell (p := ⟨w.heap.size, 1, none⟩) (Nat.le_refl _) _⟩

set_option maxHeartbeats 1000000 in
theorem rinf_2 (neg : Bool) (w : World) : Calls Tryd.prog 28 #[.int .i64 2, .bool neg] w fun e w' => e = .returned (.agg #[.int .u64 (dgl (bif neg then 4286578688 else 2139095040) 1 : Nat), .int .u64 (dgl (bif neg then 4286578688 else 2139095040) 0 : Nat)]) ∧ Below w.heap.size w w' := by
  have hW := fun w => refWord_any (([neg]) ++ (List.replicate 8 true) ++ (List.replicate 23 false)) (by simp) w
  rw [show valN (([neg]) ++ (List.replicate 8 true) ++ (List.replicate 23 false)) = (bif neg then 4286578688 else 2139095040) by cases neg <;> decide +kernel] at hW
  rw [← bt_app, ← bt_app] at hW
  have HW : Hid (∀ w, Calls Tryd.prog 66 #[.string (bt [neg] ++ bt (List.replicate 8 true) ++ bt (List.replicate 23 false))] w fun e w' => e = .returned (.agg #[.int .u64 (dgl (bif neg then 4286578688 else 2139095040) 1 : Nat), .int .u64 (dgl (bif neg then 4286578688 else 2139095040) 0 : Nat)]) ∧ Below w.heap.size w w') := hW
  clear hW
  have s0 : (bt [neg]).size = 1 := by rw [bt_size]; simp
  have s1 : (bt (List.replicate 8 true)).size = 8 := by rw [bt_size]; simp
  have s2 : (bt (List.replicate 23 false)).size = 23 := by rw [bt_size]; simp
  go_enter Tryd.func28, Tryd.ntmps28
  go_wp2_with fail
  refine (sign5_any neg _).mono ?_
  rintro e w1 ⟨rfl, hw⟩
  subst w1
  go_wp2_with fail
  refine (field_2 _).mono ?_
  rintro e w1 ⟨rfl, hw⟩
  subst w1
  go_wp2_with fail
  refine (times_1 8 (by decide) _).mono ?_
  rintro e w1 ⟨rfl, hw⟩
  subst w1
  go_wp2_with fail
  refine (prec_2 _).mono ?_
  rintro e w1 ⟨rfl, hw⟩
  subst w1
  go_wp2_with fail
  refine (times_0 23 (by decide) _).mono ?_
  rintro e w1 ⟨rfl, hw⟩
  subst w1
  go_wp2_with fail
  refine (HW.out _).mono ?_
  rintro e w1 ⟨rfl, hb1⟩
  obtain ⟨hr0, hr1, hrf, hlt, hB⟩ := word_out hb1
  have HB := hide hB
  clear hb1 hB HW
  go_wp2
  exact bodyPost_ret (v := .agg #[.int .u64 (dgl (bif neg then 4286578688 else 2139095040) 1 : Nat), .int .u64 (dgl (bif neg then 4286578688 else 2139095040) 0 : Nat)]) (by simp [results, Tryd.results28, go_sem, hr0, hr1, hlt]) rfl ⟨rfl, (HB.out.setCell (p := ⟨w.heap.size, 0, none⟩) (Nat.le_refl _) _).setCell (p := ⟨w.heap.size, 1, none⟩) (Nat.le_refl _) _⟩

set_option maxHeartbeats 1000000 in
theorem rnan_2  (w : World) : Calls Tryd.prog 29 #[.int .i64 2] w fun e w' => e = .returned (.agg #[.int .u64 (dgl (2143289344) 1 : Nat), .int .u64 (dgl (2143289344) 0 : Nat)]) ∧ Below w.heap.size w w' := by
  have hW := fun w => refWord_any (([false]) ++ (List.replicate 9 true) ++ (List.replicate 22 false)) (by simp) w
  rw [show valN (([false]) ++ (List.replicate 9 true) ++ (List.replicate 22 false)) = (2143289344) by decide +kernel] at hW
  rw [← bt_app, ← bt_app] at hW
  have HW : Hid (∀ w, Calls Tryd.prog 66 #[.string (⟨#[48]⟩ ++ bt (List.replicate 9 true) ++ bt (List.replicate 22 false))] w fun e w' => e = .returned (.agg #[.int .u64 (dgl (2143289344) 1 : Nat), .int .u64 (dgl (2143289344) 0 : Nat)]) ∧ Below w.heap.size w w') := hW
  clear hW
  have s1 : (bt (List.replicate 9 true)).size = 9 := by rw [bt_size]; simp
  have s2 : (bt (List.replicate 22 false)).size = 22 := by rw [bt_size]; simp
  go_enter Tryd.func29, Tryd.ntmps29
  go_wp2_with fail
  refine (field_2 _).mono ?_
  rintro e w1 ⟨rfl, hw⟩
  subst w1
  go_wp2_with fail
  refine (times_1 9 (by decide) _).mono ?_
  rintro e w1 ⟨rfl, hw⟩
  subst w1
  go_wp2_with fail
  refine (prec_2 _).mono ?_
  rintro e w1 ⟨rfl, hw⟩
  subst w1
  go_wp2_with fail
  refine (times_0 22 (by decide) _).mono ?_
  rintro e w1 ⟨rfl, hw⟩
  subst w1
  go_wp2_with fail
  refine (HW.out _).mono ?_
  rintro e w1 ⟨rfl, hb1⟩
  obtain ⟨hr0, hr1, hrf, hlt, hB⟩ := word_out hb1
  have HB := hide hB
  clear hb1 hB HW
  go_wp2
  exact bodyPost_ret (v := .agg #[.int .u64 (dgl (2143289344) 1 : Nat), .int .u64 (dgl (2143289344) 0 : Nat)]) (by simp [results, Tryd.results29, go_sem, hr0, hr1, hlt]) rfl ⟨rfl, (HB.out.setCell (p := ⟨w.heap.size, 0, none⟩) (Nat.le_refl _) _).setCell (p := ⟨w.heap.size, 1, none⟩) (Nat.le_refl _) _⟩

set_option maxHeartbeats 1000000 in
theorem rmax_2 (neg : Bool) (w : World) : Calls Tryd.prog 30 #[.int .i64 2, .bool neg] w fun e w' => e = .returned (.agg #[.int .u64 (dgl (bif neg then 4286578687 else 2139095039) 1 : Nat), .int .u64 (dgl (bif neg then 4286578687 else 2139095039) 0 : Nat)]) ∧ Below w.heap.size w w' := by
  have hW := fun w => refWord_any (([neg]) ++ (List.replicate 7 true) ++ ([false]) ++ (List.replicate 23 true)) (by simp) w
  rw [show valN (([neg]) ++ (List.replicate 7 true) ++ ([false]) ++ (List.replicate 23 true)) = (bif neg then 4286578687 else 2139095039) by cases neg <;> decide +kernel] at hW
  rw [← bt_app, ← bt_app, ← bt_app] at hW
  have HW : Hid (∀ w, Calls Tryd.prog 66 #[.string (bt [neg] ++ bt (List.replicate 7 true) ++ ⟨#[48]⟩ ++ bt (List.replicate 23 true))] w fun e w' => e = .returned (.agg #[.int .u64 (dgl (bif neg then 4286578687 else 2139095039) 1 : Nat), .int .u64 (dgl (bif neg then 4286578687 else 2139095039) 0 : Nat)]) ∧ Below w.heap.size w w') := hW
  clear hW
  have s0 : (bt [neg]).size = 1 := by rw [bt_size]; simp
  have s1 : (bt (List.replicate 7 true)).size = 7 := by rw [bt_size]; simp
  have s3 : (bt (List.replicate 23 true)).size = 23 := by rw [bt_size]; simp
  go_enter Tryd.func30, Tryd.ntmps30
  go_wp2_with fail
  refine (sign5_any neg _).mono ?_
  rintro e w1 ⟨rfl, hw⟩
  subst w1
  go_wp2_with fail
  refine (field_2 _).mono ?_
  rintro e w1 ⟨rfl, hw⟩
  subst w1
  go_wp2_with fail
  refine (times_1 7 (by decide) _).mono ?_
  rintro e w1 ⟨rfl, hw⟩
  subst w1
  go_wp2_with fail
  refine (prec_2 _).mono ?_
  rintro e w1 ⟨rfl, hw⟩
  subst w1
  go_wp2_with fail
  refine (times_1 23 (by decide) _).mono ?_
  rintro e w1 ⟨rfl, hw⟩
  subst w1
  go_wp2_with fail
  refine (HW.out _).mono ?_
  rintro e w1 ⟨rfl, hb1⟩
  obtain ⟨hr0, hr1, hrf, hlt, hB⟩ := word_out hb1
  have HB := hide hB
  clear hb1 hB HW
  go_wp2
  exact bodyPost_ret (v := .agg #[.int .u64 (dgl (bif neg then 4286578687 else 2139095039) 1 : Nat), .int .u64 (dgl (bif neg then 4286578687 else 2139095039) 0 : Nat)]) (by simp [results, Tryd.results30, go_sem, hr0, hr1, hlt]) rfl ⟨rfl, (HB.out.setCell (p := ⟨w.heap.size, 0, none⟩) (Nat.le_refl _) _).setCell (p := ⟨w.heap.size, 1, none⟩) (Nat.le_refl _) _⟩

set_option maxHeartbeats 1000000 in
theorem rone_2  (w : World) : Calls Tryd.prog 31 #[.int .i64 2] w fun e w' => e = .returned (.agg #[.int .u64 (dgl (1065353216) 1 : Nat), .int .u64 (dgl (1065353216) 0 : Nat)]) ∧ Below w.heap.size w w' := by
  have hW := fun w => refWord_any (([false, false]) ++ (List.replicate 7 true) ++ (List.replicate 23 false)) (by simp) w
  rw [show valN (([false, false]) ++ (List.replicate 7 true) ++ (List.replicate 23 false)) = (1065353216) by decide +kernel] at hW
  rw [← bt_app, ← bt_app] at hW
  have HW : Hid (∀ w, Calls Tryd.prog 66 #[.string (⟨#[48, 48]⟩ ++ bt (List.replicate 7 true) ++ bt (List.replicate 23 false))] w fun e w' => e = .returned (.agg #[.int .u64 (dgl (1065353216) 1 : Nat), .int .u64 (dgl (1065353216) 0 : Nat)]) ∧ Below w.heap.size w w') := hW
  clear hW
  have s1 : (bt (List.replicate 7 true)).size = 7 := by rw [bt_size]; simp
  have s2 : (bt (List.replicate 23 false)).size = 23 := by rw [bt_size]; simp
  go_enter Tryd.func31, Tryd.ntmps31
  go_wp2_with fail
  refine (field_2 _).mono ?_
  rintro e w1 ⟨rfl, hw⟩
  subst w1
  go_wp2_with fail
  refine (times_1 7 (by decide) _).mono ?_
  rintro e w1 ⟨rfl, hw⟩
  subst w1
  go_wp2_with fail
  refine (prec_2 _).mono ?_
  rintro e w1 ⟨rfl, hw⟩
  subst w1
  go_wp2_with fail
  refine (times_0 23 (by decide) _).mono ?_
  rintro e w1 ⟨rfl, hw⟩
  subst w1
  go_wp2_with fail
  refine (HW.out _).mono ?_
  rintro e w1 ⟨rfl, hb1⟩
  obtain ⟨hr0, hr1, hrf, hlt, hB⟩ := word_out hb1
  have HB := hide hB
  clear hb1 hB HW
  go_wp2
  exact bodyPost_ret (v := .agg #[.int .u64 (dgl (1065353216) 1 : Nat), .int .u64 (dgl (1065353216) 0 : Nat)]) (by simp [results, Tryd.results31, go_sem, hr0, hr1, hlt]) rfl ⟨rfl, (HB.out.setCell (p := ⟨w.heap.size, 0, none⟩) (Nat.le_refl _) _).setCell (p := ⟨w.heap.size, 1, none⟩) (Nat.le_refl _) _⟩

set_option maxHeartbeats 1000000 in
theorem rnought_2 (neg : Bool) (w : World) : Calls Tryd.prog 32 #[.int .i64 2, .bool neg] w fun e w' => e = .returned (.agg #[.int .u64 (dgl (bif neg then 2147483648 else 0) 1 : Nat), .int .u64 (dgl (bif neg then 2147483648 else 0) 0 : Nat)]) ∧ Below w.heap.size w w' := by
  have hW := fun w => refWord_any (([neg]) ++ (List.replicate 31 false)) (by simp) w
  rw [show valN (([neg]) ++ (List.replicate 31 false)) = (bif neg then 2147483648 else 0) by cases neg <;> decide +kernel] at hW
  rw [← bt_app] at hW
  have HW : Hid (∀ w, Calls Tryd.prog 66 #[.string (bt [neg] ++ bt (List.replicate 31 false))] w fun e w' => e = .returned (.agg #[.int .u64 (dgl (bif neg then 2147483648 else 0) 1 : Nat), .int .u64 (dgl (bif neg then 2147483648 else 0) 0 : Nat)]) ∧ Below w.heap.size w w') := hW
  clear hW
  have s0 : (bt [neg]).size = 1 := by rw [bt_size]; simp
  have s1 : (bt (List.replicate 31 false)).size = 31 := by rw [bt_size]; simp
  go_enter Tryd.func32, Tryd.ntmps32
  go_wp2_with fail
  refine (sign5_any neg _).mono ?_
  rintro e w1 ⟨rfl, hw⟩
  subst w1
  go_wp2_with fail
  refine (bits_2 _).mono ?_
  rintro e w1 ⟨rfl, hw⟩
  subst w1
  go_wp2_with fail
  refine (times_0 31 (by decide) _).mono ?_
  rintro e w1 ⟨rfl, hw⟩
  subst w1
  go_wp2_with fail
  refine (HW.out _).mono ?_
  rintro e w1 ⟨rfl, hb1⟩
  obtain ⟨hr0, hr1, hrf, hlt, hB⟩ := word_out hb1
  have HB := hide hB
  clear hb1 hB HW
  go_wp2
  exact bodyPost_ret (v := .agg #[.int .u64 (dgl (bif neg then 2147483648 else 0) 1 : Nat), .int .u64 (dgl (bif neg then 2147483648 else 0) 0 : Nat)]) (by simp [results, Tryd.results32, go_sem, hr0, hr1, hlt]) rfl ⟨rfl, (HB.out.setCell (p := ⟨w.heap.size, 0, none⟩) (Nat.le_refl _) _).setCell (p := ⟨w.heap.size, 1, none⟩) (Nat.le_refl _) _⟩

set_option maxHeartbeats 1000000 in
theorem rinf_3 (neg : Bool) (w : World) : Calls Tryd.prog 28 #[.int .i64 3, .bool neg] w fun e w' => e = .returned (.agg #[.int .u64 (dgl (bif neg then 18442240474082181120 else 9218868437227405312) 1 : Nat), .int .u64 (dgl (bif neg then 18442240474082181120 else 9218868437227405312) 0 : Nat)]) ∧ Below w.heap.size w w' := by
  have hW := fun w => refWord_any (([neg]) ++ (List.replicate 11 true) ++ (List.replicate 52 false)) (by simp) w
  rw [show valN (([neg]) ++ (List.replicate 11 true) ++ (List.replicate 52 false)) = (bif neg then 18442240474082181120 else 9218868437227405312) by cases neg <;> decide +kernel] at hW
  rw [← bt_app, ← bt_app] at hW
  have HW : Hid (∀ w, Calls Tryd.prog 66 #[.string (bt [neg] ++ bt (List.replicate 11 true) ++ bt (List.replicate 52 false))] w fun e w' => e = .returned (.agg #[.int .u64 (dgl (bif neg then 18442240474082181120 else 9218868437227405312) 1 : Nat), .int .u64 (dgl (bif neg then 18442240474082181120 else 9218868437227405312) 0 : Nat)]) ∧ Below w.heap.size w w') := hW
  clear hW
  have s0 : (bt [neg]).size = 1 := by rw [bt_size]; simp
  have s1 : (bt (List.replicate 11 true)).size = 11 := by rw [bt_size]; simp
  have s2 : (bt (List.replicate 52 false)).size = 52 := by rw [bt_size]; simp
  go_enter Tryd.func28, Tryd.ntmps28
  go_wp2_with fail
  refine (sign5_any neg _).mono ?_
  rintro e w1 ⟨rfl, hw⟩
  subst w1
  go_wp2_with fail
  refine (field_3 _).mono ?_
  rintro e w1 ⟨rfl, hw⟩
  subst w1
  go_wp2_with fail
  refine (times_1 11 (by decide) _).mono ?_
  rintro e w1 ⟨rfl, hw⟩
  subst w1
  go_wp2_with fail
  refine (prec_3 _).mono ?_
  rintro e w1 ⟨rfl, hw⟩
  subst w1
  go_wp2_with fail
  refine (times_0 52 (by decide) _).mono ?_
  rintro e w1 ⟨rfl, hw⟩
  subst w1
  go_wp2_with fail
  refine (HW.out _).mono ?_
  rintro e w1 ⟨rfl, hb1⟩
  obtain ⟨hr0, hr1, hrf, hlt, hB⟩ := word_out hb1
  have HB := hide hB
  clear hb1 hB HW
  go_wp2
  exact bodyPost_ret (v := .agg #[.int .u64 (dgl (bif neg then 18442240474082181120 else 9218868437227405312) 1 : Nat), .int .u64 (dgl (bif neg then 18442240474082181120 else 9218868437227405312) 0 : Nat)]) (by simp [results, Tryd.results28, go_sem, hr0, hr1, hlt]) rfl ⟨rfl, (HB.out.setCell (p := ⟨w.heap.size, 0, none⟩) (Nat.le_refl _) _).setCell (p := ⟨w.heap.size, 1, none⟩) (Nat.le_refl _) _⟩

set_option maxHeartbeats 1000000 in
theorem rnan_3  (w : World) : Calls Tryd.prog 29 #[.int .i64 3] w fun e w' => e = .returned (.agg #[.int .u64 (dgl (9221120237041090560) 1 : Nat), .int .u64 (dgl (9221120237041090560) 0 : Nat)]) ∧ Below w.heap.size w w' := by
  have hW := fun w => refWord_any (([false]) ++ (List.replicate 12 true) ++ (List.replicate 51 false)) (by simp) w
  rw [show valN (([false]) ++ (List.replicate 12 true) ++ (List.replicate 51 false)) = (9221120237041090560) by decide +kernel] at hW
  rw [← bt_app, ← bt_app] at hW
  have HW : Hid (∀ w, Calls Tryd.prog 66 #[.string (⟨#[48]⟩ ++ bt (List.replicate 12 true) ++ bt (List.replicate 51 false))] w fun e w' => e = .returned (.agg #[.int .u64 (dgl (9221120237041090560) 1 : Nat), .int .u64 (dgl (9221120237041090560) 0 : Nat)]) ∧ Below w.heap.size w w') := hW
  clear hW
  have s1 : (bt (List.replicate 12 true)).size = 12 := by rw [bt_size]; simp
  have s2 : (bt (List.replicate 51 false)).size = 51 := by rw [bt_size]; simp
  go_enter Tryd.func29, Tryd.ntmps29
  go_wp2_with fail
  refine (field_3 _).mono ?_
  rintro e w1 ⟨rfl, hw⟩
  subst w1
  go_wp2_with fail
  refine (times_1 12 (by decide) _).mono ?_
  rintro e w1 ⟨rfl, hw⟩
  subst w1
  go_wp2_with fail
  refine (prec_3 _).mono ?_
  rintro e w1 ⟨rfl, hw⟩
  subst w1
  go_wp2_with fail
  refine (times_0 51 (by decide) _).mono ?_
  rintro e w1 ⟨rfl, hw⟩
  subst w1
  go_wp2_with fail
  refine (HW.out _).mono ?_
  rintro e w1 ⟨rfl, hb1⟩
  obtain ⟨hr0, hr1, hrf, hlt, hB⟩ := word_out hb1
  have HB := hide hB
  clear hb1 hB HW
  go_wp2
  exact bodyPost_ret (v := .agg #[.int .u64 (dgl (9221120237041090560) 1 : Nat), .int .u64 (dgl (9221120237041090560) 0 : Nat)]) (by simp [results, Tryd.results29, go_sem, hr0, hr1, hlt]) rfl ⟨rfl, (HB.out.setCell (p := ⟨w.heap.size, 0, none⟩) (Nat.le_refl _) _).setCell (p := ⟨w.heap.size, 1, none⟩) (Nat.le_refl _) _⟩

set_option maxHeartbeats 1000000 in
theorem rmax_3 (neg : Bool) (w : World) : Calls Tryd.prog 30 #[.int .i64 3, .bool neg] w fun e w' => e = .returned (.agg #[.int .u64 (dgl (bif neg then 18442240474082181119 else 9218868437227405311) 1 : Nat), .int .u64 (dgl (bif neg then 18442240474082181119 else 9218868437227405311) 0 : Nat)]) ∧ Below w.heap.size w w' := by
  have hW := fun w => refWord_any (([neg]) ++ (List.replicate 10 true) ++ ([false]) ++ (List.replicate 52 true)) (by simp) w
  rw [show valN (([neg]) ++ (List.replicate 10 true) ++ ([false]) ++ (List.replicate 52 true)) = (bif neg then 18442240474082181119 else 9218868437227405311) by cases neg <;> decide +kernel] at hW
  rw [← bt_app, ← bt_app, ← bt_app] at hW
  have HW : Hid (∀ w, Calls Tryd.prog 66 #[.string (bt [neg] ++ bt (List.replicate 10 true) ++ ⟨#[48]⟩ ++ bt (List.replicate 52 true))] w fun e w' => e = .returned (.agg #[.int .u64 (dgl (bif neg then 18442240474082181119 else 9218868437227405311) 1 : Nat), .int .u64 (dgl (bif neg then 18442240474082181119 else 9218868437227405311) 0 : Nat)]) ∧ Below w.heap.size w w') := hW
  clear hW
  have s0 : (bt [neg]).size = 1 := by rw [bt_size]; simp
  have s1 : (bt (List.replicate 10 true)).size = 10 := by rw [bt_size]; simp
  have s3 : (bt (List.replicate 52 true)).size = 52 := by rw [bt_size]; simp
  go_enter Tryd.func30, Tryd.ntmps30
  go_wp2_with fail
  refine (sign5_any neg _).mono ?_
  rintro e w1 ⟨rfl, hw⟩
  subst w1
  go_wp2_with fail
  refine (field_3 _).mono ?_
  rintro e w1 ⟨rfl, hw⟩
  subst w1
  go_wp2_with fail
  refine (times_1 10 (by decide) _).mono ?_
  rintro e w1 ⟨rfl, hw⟩
  subst w1
  go_wp2_with fail
  refine (prec_3 _).mono ?_
  rintro e w1 ⟨rfl, hw⟩
  subst w1
  go_wp2_with fail
  refine (times_1 52 (by decide) _).mono ?_
  rintro e w1 ⟨rfl, hw⟩
  subst w1
  go_wp2_with fail
  refine (HW.out _).mono ?_
  rintro e w1 ⟨rfl, hb1⟩
  obtain ⟨hr0, hr1, hrf, hlt, hB⟩ := word_out hb1
  have HB := hide hB
  clear hb1 hB HW
  go_wp2
  exact bodyPost_ret (v := .agg #[.int .u64 (dgl (bif neg then 18442240474082181119 else 9218868437227405311) 1 : Nat), .int .u64 (dgl (bif neg then 18442240474082181119 else 9218868437227405311) 0 : Nat)]) (by simp [results, Tryd.results30, go_sem, hr0, hr1, hlt]) rfl ⟨rfl, (HB.out.setCell (p := ⟨w.heap.size, 0, none⟩) (Nat.le_refl _) _).setCell (p := ⟨w.heap.size, 1, none⟩) (Nat.le_refl _) _⟩

set_option maxHeartbeats 1000000 in
theorem rone_3  (w : World) : Calls Tryd.prog 31 #[.int .i64 3] w fun e w' => e = .returned (.agg #[.int .u64 (dgl (4607182418800017408) 1 : Nat), .int .u64 (dgl (4607182418800017408) 0 : Nat)]) ∧ Below w.heap.size w w' := by
  have hW := fun w => refWord_any (([false, false]) ++ (List.replicate 10 true) ++ (List.replicate 52 false)) (by simp) w
  rw [show valN (([false, false]) ++ (List.replicate 10 true) ++ (List.replicate 52 false)) = (4607182418800017408) by decide +kernel] at hW
  rw [← bt_app, ← bt_app] at hW
  have HW : Hid (∀ w, Calls Tryd.prog 66 #[.string (⟨#[48, 48]⟩ ++ bt (List.replicate 10 true) ++ bt (List.replicate 52 false))] w fun e w' => e = .returned (.agg #[.int .u64 (dgl (4607182418800017408) 1 : Nat), .int .u64 (dgl (4607182418800017408) 0 : Nat)]) ∧ Below w.heap.size w w') := hW
  clear hW
  have s1 : (bt (List.replicate 10 true)).size = 10 := by rw [bt_size]; simp
  have s2 : (bt (List.replicate 52 false)).size = 52 := by rw [bt_size]; simp
  go_enter Tryd.func31, Tryd.ntmps31
  go_wp2_with fail
  refine (field_3 _).mono ?_
  rintro e w1 ⟨rfl, hw⟩
  subst w1
  go_wp2_with fail
  refine (times_1 10 (by decide) _).mono ?_
  rintro e w1 ⟨rfl, hw⟩
  subst w1
  go_wp2_with fail
  refine (prec_3 _).mono ?_
  rintro e w1 ⟨rfl, hw⟩
  subst w1
  go_wp2_with fail
  refine (times_0 52 (by decide) _).mono ?_
  rintro e w1 ⟨rfl, hw⟩
  subst w1
  go_wp2_with fail
  refine (HW.out _).mono ?_
  rintro e w1 ⟨rfl, hb1⟩
  obtain ⟨hr0, hr1, hrf, hlt, hB⟩ := word_out hb1
  have HB := hide hB
  clear hb1 hB HW
  go_wp2
  exact bodyPost_ret (v := .agg #[.int .u64 (dgl (4607182418800017408) 1 : Nat), .int .u64 (dgl (4607182418800017408) 0 : Nat)]) (by simp [results, Tryd.results31, go_sem, hr0, hr1, hlt]) rfl ⟨rfl, (HB.out.setCell (p := ⟨w.heap.size, 0, none⟩) (Nat.le_refl _) _).setCell (p := ⟨w.heap.size, 1, none⟩) (Nat.le_refl _) _⟩

set_option maxHeartbeats 1000000 in
theorem rnought_3 (neg : Bool) (w : World) : Calls Tryd.prog 32 #[.int .i64 3, .bool neg] w fun e w' => e = .returned (.agg #[.int .u64 (dgl (bif neg then 9223372036854775808 else 0) 1 : Nat), .int .u64 (dgl (bif neg then 9223372036854775808 else 0) 0 : Nat)]) ∧ Below w.heap.size w w' := by
  have hW := fun w => refWord_any (([neg]) ++ (List.replicate 63 false)) (by simp) w
  rw [show valN (([neg]) ++ (List.replicate 63 false)) = (bif neg then 9223372036854775808 else 0) by cases neg <;> decide +kernel] at hW
  rw [← bt_app] at hW
  have HW : Hid (∀ w, Calls Tryd.prog 66 #[.string (bt [neg] ++ bt (List.replicate 63 false))] w fun e w' => e = .returned (.agg #[.int .u64 (dgl (bif neg then 9223372036854775808 else 0) 1 : Nat), .int .u64 (dgl (bif neg then 9223372036854775808 else 0) 0 : Nat)]) ∧ Below w.heap.size w w') := hW
  clear hW
  have s0 : (bt [neg]).size = 1 := by rw [bt_size]; simp
  have s1 : (bt (List.replicate 63 false)).size = 63 := by rw [bt_size]; simp
  go_enter Tryd.func32, Tryd.ntmps32
  go_wp2_with fail
  refine (sign5_any neg _).mono ?_
  rintro e w1 ⟨rfl, hw⟩
  subst w1
  go_wp2_with fail
  refine (bits_3 _).mono ?_
  rintro e w1 ⟨rfl, hw⟩
  subst w1
  go_wp2_with fail
  refine (times_0 63 (by decide) _).mono ?_
  rintro e w1 ⟨rfl, hw⟩
  subst w1
  go_wp2_with fail
  refine (HW.out _).mono ?_
  rintro e w1 ⟨rfl, hb1⟩
  obtain ⟨hr0, hr1, hrf, hlt, hB⟩ := word_out hb1
  have HB := hide hB
  clear hb1 hB HW
  go_wp2
  exact bodyPost_ret (v := .agg #[.int .u64 (dgl (bif neg then 9223372036854775808 else 0) 1 : Nat), .int .u64 (dgl (bif neg then 9223372036854775808 else 0) 0 : Nat)]) (by simp [results, Tryd.results32, go_sem, hr0, hr1, hlt]) rfl ⟨rfl, (HB.out.setCell (p := ⟨w.heap.size, 0, none⟩) (Nat.le_refl _) _).setCell (p := ⟨w.heap.size, 1, none⟩) (Nat.le_refl _) _⟩

set_option maxHeartbeats 1000000 in
theorem rinf_4 (neg : Bool) (w : World) : Calls Tryd.prog 28 #[.int .i64 4, .bool neg] w fun e w' => e = .returned (.agg #[.int .u64 (dgl (bif neg then 340277174624079928635746076935438991360 else 170135991163610696904058773219554885632) 1 : Nat), .int .u64 (dgl (bif neg then 340277174624079928635746076935438991360 else 170135991163610696904058773219554885632) 0 : Nat)]) ∧ Below w.heap.size w w' := by
  have hW := fun w => refWord_any (([neg]) ++ (List.replicate 15 true) ++ (List.replicate 112 false)) (by simp) w
  rw [show valN (([neg]) ++ (List.replicate 15 true) ++ (List.replicate 112 false)) = (bif neg then 340277174624079928635746076935438991360 else 170135991163610696904058773219554885632) by cases neg <;> decide +kernel] at hW
  rw [← bt_app, ← bt_app] at hW
  have HW : Hid (∀ w, Calls Tryd.prog 66 #[.string (bt [neg] ++ bt (List.replicate 15 true) ++ bt (List.replicate 112 false))] w fun e w' => e = .returned (.agg #[.int .u64 (dgl (bif neg then 340277174624079928635746076935438991360 else 170135991163610696904058773219554885632) 1 : Nat), .int .u64 (dgl (bif neg then 340277174624079928635746076935438991360 else 170135991163610696904058773219554885632) 0 : Nat)]) ∧ Below w.heap.size w w') := hW
  clear hW
  have s0 : (bt [neg]).size = 1 := by rw [bt_size]; simp
  have s1 : (bt (List.replicate 15 true)).size = 15 := by rw [bt_size]; simp
  have s2 : (bt (List.replicate 112 false)).size = 112 := by rw [bt_size]; simp
  go_enter Tryd.func28, Tryd.ntmps28
  go_wp2_with fail
  refine (sign5_any neg _).mono ?_
  rintro e w1 ⟨rfl, hw⟩
  subst w1
  go_wp2_with fail
  refine (field_4 _).mono ?_
  rintro e w1 ⟨rfl, hw⟩
  subst w1
  go_wp2_with fail
  refine (times_1 15 (by decide) _).mono ?_
  rintro e w1 ⟨rfl, hw⟩
  subst w1
  go_wp2_with fail
  refine (prec_4 _).mono ?_
  rintro e w1 ⟨rfl, hw⟩
  subst w1
  go_wp2_with fail
  refine (times_0 112 (by decide) _).mono ?_
  rintro e w1 ⟨rfl, hw⟩
  subst w1
  go_wp2_with fail
  refine (HW.out _).mono ?_
  rintro e w1 ⟨rfl, hb1⟩
  obtain ⟨hr0, hr1, hrf, hlt, hB⟩ := word_out hb1
  have HB := hide hB
  clear hb1 hB HW
  go_wp2
  exact bodyPost_ret (v := .agg #[.int .u64 (dgl (bif neg then 340277174624079928635746076935438991360 else 170135991163610696904058773219554885632) 1 : Nat), .int .u64 (dgl (bif neg then 340277174624079928635746076935438991360 else 170135991163610696904058773219554885632) 0 : Nat)]) (by simp [results, Tryd.results28, go_sem, hr0, hr1, hlt]) rfl ⟨rfl, (HB.out.setCell (p := ⟨w.heap.size, 0, none⟩) (Nat.le_refl _) _).setCell (p := ⟨w.heap.size, 1, none⟩) (Nat.le_refl _) _⟩

set_option maxHeartbeats 1000000 in
theorem rnan_4  (w : World) : Calls Tryd.prog 29 #[.int .i64 4] w fun e w' => e = .returned (.agg #[.int .u64 (dgl (170138587312039964317873038467719495680) 1 : Nat), .int .u64 (dgl (170138587312039964317873038467719495680) 0 : Nat)]) ∧ Below w.heap.size w w' := by
  have hW := fun w => refWord_any (([false]) ++ (List.replicate 16 true) ++ (List.replicate 111 false)) (by simp) w
  rw [show valN (([false]) ++ (List.replicate 16 true) ++ (List.replicate 111 false)) = (170138587312039964317873038467719495680) by decide +kernel] at hW
  rw [← bt_app, ← bt_app] at hW
  have HW : Hid (∀ w, Calls Tryd.prog 66 #[.string (⟨#[48]⟩ ++ bt (List.replicate 16 true) ++ bt (List.replicate 111 false))] w fun e w' => e = .returned (.agg #[.int .u64 (dgl (170138587312039964317873038467719495680) 1 : Nat), .int .u64 (dgl (170138587312039964317873038467719495680) 0 : Nat)]) ∧ Below w.heap.size w w') := hW
  clear hW
  have s1 : (bt (List.replicate 16 true)).size = 16 := by rw [bt_size]; simp
  have s2 : (bt (List.replicate 111 false)).size = 111 := by rw [bt_size]; simp
  go_enter Tryd.func29, Tryd.ntmps29
  go_wp2_with fail
  refine (field_4 _).mono ?_
  rintro e w1 ⟨rfl, hw⟩
  subst w1
  go_wp2_with fail
  refine (times_1 16 (by decide) _).mono ?_
  rintro e w1 ⟨rfl, hw⟩
  subst w1
  go_wp2_with fail
  refine (prec_4 _).mono ?_
  rintro e w1 ⟨rfl, hw⟩
  subst w1
  go_wp2_with fail
  refine (times_0 111 (by decide) _).mono ?_
  rintro e w1 ⟨rfl, hw⟩
  subst w1
  go_wp2_with fail
  refine (HW.out _).mono ?_
  rintro e w1 ⟨rfl, hb1⟩
  obtain ⟨hr0, hr1, hrf, hlt, hB⟩ := word_out hb1
  have HB := hide hB
  clear hb1 hB HW
  go_wp2
  exact bodyPost_ret (v := .agg #[.int .u64 (dgl (170138587312039964317873038467719495680) 1 : Nat), .int .u64 (dgl (170138587312039964317873038467719495680) 0 : Nat)]) (by simp [results, Tryd.results29, go_sem, hr0, hr1, hlt]) rfl ⟨rfl, (HB.out.setCell (p := ⟨w.heap.size, 0, none⟩) (Nat.le_refl _) _).setCell (p := ⟨w.heap.size, 1, none⟩) (Nat.le_refl _) _⟩

set_option maxHeartbeats 1000000 in
theorem rmax_4 (neg : Bool) (w : World) : Calls Tryd.prog 30 #[.int .i64 4, .bool neg] w fun e w' => e = .returned (.agg #[.int .u64 (dgl (bif neg then 340277174624079928635746076935438991359 else 170135991163610696904058773219554885631) 1 : Nat), .int .u64 (dgl (bif neg then 340277174624079928635746076935438991359 else 170135991163610696904058773219554885631) 0 : Nat)]) ∧ Below w.heap.size w w' := by
  have hW := fun w => refWord_any (([neg]) ++ (List.replicate 14 true) ++ ([false]) ++ (List.replicate 112 true)) (by simp) w
  rw [show valN (([neg]) ++ (List.replicate 14 true) ++ ([false]) ++ (List.replicate 112 true)) = (bif neg then 340277174624079928635746076935438991359 else 170135991163610696904058773219554885631) by cases neg <;> decide +kernel] at hW
  rw [← bt_app, ← bt_app, ← bt_app] at hW
  have HW : Hid (∀ w, Calls Tryd.prog 66 #[.string (bt [neg] ++ bt (List.replicate 14 true) ++ ⟨#[48]⟩ ++ bt (List.replicate 112 true))] w fun e w' => e = .returned (.agg #[.int .u64 (dgl (bif neg then 340277174624079928635746076935438991359 else 170135991163610696904058773219554885631) 1 : Nat), .int .u64 (dgl (bif neg then 340277174624079928635746076935438991359 else 170135991163610696904058773219554885631) 0 : Nat)]) ∧ Below w.heap.size w w') := hW
  clear hW
  have s0 : (bt [neg]).size = 1 := by rw [bt_size]; simp
  have s1 : (bt (List.replicate 14 true)).size = 14 := by rw [bt_size]; simp
  have s3 : (bt (List.replicate 112 true)).size = 112 := by rw [bt_size]; simp
  go_enter Tryd.func30, Tryd.ntmps30
  go_wp2_with fail
  refine (sign5_any neg _).mono ?_
  rintro e w1 ⟨rfl, hw⟩
  subst w1
  go_wp2_with fail
  refine (field_4 _).mono ?_
  rintro e w1 ⟨rfl, hw⟩
  subst w1
  go_wp2_with fail
  refine (times_1 14 (by decide) _).mono ?_
  rintro e w1 ⟨rfl, hw⟩
  subst w1
  go_wp2_with fail
  refine (prec_4 _).mono ?_
  rintro e w1 ⟨rfl, hw⟩
  subst w1
  go_wp2_with fail
  refine (times_1 112 (by decide) _).mono ?_
  rintro e w1 ⟨rfl, hw⟩
  subst w1
  go_wp2_with fail
  refine (HW.out _).mono ?_
  rintro e w1 ⟨rfl, hb1⟩
  obtain ⟨hr0, hr1, hrf, hlt, hB⟩ := word_out hb1
  have HB := hide hB
  clear hb1 hB HW
  go_wp2
  exact bodyPost_ret (v := .agg #[.int .u64 (dgl (bif neg then 340277174624079928635746076935438991359 else 170135991163610696904058773219554885631) 1 : Nat), .int .u64 (dgl (bif neg then 340277174624079928635746076935438991359 else 170135991163610696904058773219554885631) 0 : Nat)]) (by simp [results, Tryd.results30, go_sem, hr0, hr1, hlt]) rfl ⟨rfl, (HB.out.setCell (p := ⟨w.heap.size, 0, none⟩) (Nat.le_refl _) _).setCell (p := ⟨w.heap.size, 1, none⟩) (Nat.le_refl _) _⟩

set_option maxHeartbeats 1000000 in
theorem rone_4  (w : World) : Calls Tryd.prog 31 #[.int .i64 4] w fun e w' => e = .returned (.agg #[.int .u64 (dgl (85065399433376081038215121361612832768) 1 : Nat), .int .u64 (dgl (85065399433376081038215121361612832768) 0 : Nat)]) ∧ Below w.heap.size w w' := by
  have hW := fun w => refWord_any (([false, false]) ++ (List.replicate 14 true) ++ (List.replicate 112 false)) (by simp) w
  rw [show valN (([false, false]) ++ (List.replicate 14 true) ++ (List.replicate 112 false)) = (85065399433376081038215121361612832768) by decide +kernel] at hW
  rw [← bt_app, ← bt_app] at hW
  have HW : Hid (∀ w, Calls Tryd.prog 66 #[.string (⟨#[48, 48]⟩ ++ bt (List.replicate 14 true) ++ bt (List.replicate 112 false))] w fun e w' => e = .returned (.agg #[.int .u64 (dgl (85065399433376081038215121361612832768) 1 : Nat), .int .u64 (dgl (85065399433376081038215121361612832768) 0 : Nat)]) ∧ Below w.heap.size w w') := hW
  clear hW
  have s1 : (bt (List.replicate 14 true)).size = 14 := by rw [bt_size]; simp
  have s2 : (bt (List.replicate 112 false)).size = 112 := by rw [bt_size]; simp
  go_enter Tryd.func31, Tryd.ntmps31
  go_wp2_with fail
  refine (field_4 _).mono ?_
  rintro e w1 ⟨rfl, hw⟩
  subst w1
  go_wp2_with fail
  refine (times_1 14 (by decide) _).mono ?_
  rintro e w1 ⟨rfl, hw⟩
  subst w1
  go_wp2_with fail
  refine (prec_4 _).mono ?_
  rintro e w1 ⟨rfl, hw⟩
  subst w1
  go_wp2_with fail
  refine (times_0 112 (by decide) _).mono ?_
  rintro e w1 ⟨rfl, hw⟩
  subst w1
  go_wp2_with fail
  refine (HW.out _).mono ?_
  rintro e w1 ⟨rfl, hb1⟩
  obtain ⟨hr0, hr1, hrf, hlt, hB⟩ := word_out hb1
  have HB := hide hB
  clear hb1 hB HW
  go_wp2
  exact bodyPost_ret (v := .agg #[.int .u64 (dgl (85065399433376081038215121361612832768) 1 : Nat), .int .u64 (dgl (85065399433376081038215121361612832768) 0 : Nat)]) (by simp [results, Tryd.results31, go_sem, hr0, hr1, hlt]) rfl ⟨rfl, (HB.out.setCell (p := ⟨w.heap.size, 0, none⟩) (Nat.le_refl _) _).setCell (p := ⟨w.heap.size, 1, none⟩) (Nat.le_refl _) _⟩

set_option maxHeartbeats 1000000 in
theorem rnought_4 (neg : Bool) (w : World) : Calls Tryd.prog 32 #[.int .i64 4, .bool neg] w fun e w' => e = .returned (.agg #[.int .u64 (dgl (bif neg then 170141183460469231731687303715884105728 else 0) 1 : Nat), .int .u64 (dgl (bif neg then 170141183460469231731687303715884105728 else 0) 0 : Nat)]) ∧ Below w.heap.size w w' := by
  have hW := fun w => refWord_any (([neg]) ++ (List.replicate 127 false)) (by simp) w
  rw [show valN (([neg]) ++ (List.replicate 127 false)) = (bif neg then 170141183460469231731687303715884105728 else 0) by cases neg <;> decide +kernel] at hW
  rw [← bt_app] at hW
  have HW : Hid (∀ w, Calls Tryd.prog 66 #[.string (bt [neg] ++ bt (List.replicate 127 false))] w fun e w' => e = .returned (.agg #[.int .u64 (dgl (bif neg then 170141183460469231731687303715884105728 else 0) 1 : Nat), .int .u64 (dgl (bif neg then 170141183460469231731687303715884105728 else 0) 0 : Nat)]) ∧ Below w.heap.size w w') := hW
  clear hW
  have s0 : (bt [neg]).size = 1 := by rw [bt_size]; simp
  have s1 : (bt (List.replicate 127 false)).size = 127 := by rw [bt_size]; simp
  go_enter Tryd.func32, Tryd.ntmps32
  go_wp2_with fail
  refine (sign5_any neg _).mono ?_
  rintro e w1 ⟨rfl, hw⟩
  subst w1
  go_wp2_with fail
  refine (bits_4 _).mono ?_
  rintro e w1 ⟨rfl, hw⟩
  subst w1
  go_wp2_with fail
  refine (times_0 127 (by decide) _).mono ?_
  rintro e w1 ⟨rfl, hw⟩
  subst w1
  go_wp2_with fail
  refine (HW.out _).mono ?_
  rintro e w1 ⟨rfl, hb1⟩
  obtain ⟨hr0, hr1, hrf, hlt, hB⟩ := word_out hb1
  have HB := hide hB
  clear hb1 hB HW
  go_wp2
  exact bodyPost_ret (v := .agg #[.int .u64 (dgl (bif neg then 170141183460469231731687303715884105728 else 0) 1 : Nat), .int .u64 (dgl (bif neg then 170141183460469231731687303715884105728 else 0) 0 : Nat)]) (by simp [results, Tryd.results32, go_sem, hr0, hr1, hlt]) rfl ⟨rfl, (HB.out.setCell (p := ⟨w.heap.size, 0, none⟩) (Nat.le_refl _) _).setCell (p := ⟨w.heap.size, 1, none⟩) (Nat.le_refl _) _⟩

end Go.Proofs.YtjklehlkgccmnaaDoor

