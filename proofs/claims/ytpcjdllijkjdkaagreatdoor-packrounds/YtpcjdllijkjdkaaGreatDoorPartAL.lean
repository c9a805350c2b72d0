/- Contracts and laws: FmtA, FmtB. -/
import Derived.Test.YtpcjdllijkjdkaaGreatDoorPartAC
import Derived.Test.YtpcjdllijkjdkaaGreatDoorPartAK
/- Contracts: format.known, Of, Name. -/
set_option linter.unusedVariables false
set_option linter.unusedSimpArgs false
set_option maxRecDepth 8000
namespace Go.Proofs.YtpcjdllijkjdkaaGreatDoor
open Go.RowKit Plain

theorem known_yes (f : Int) (h1 : 1 ≤ f) (h2 : f ≤ 4) (w : World) : Calls Tryz.prog 42 #[.int .i64 f] w fun e w' => e = .returned (.bool true) ∧ w' = w := by
  go_enter Tryz.func42, Tryz.ntmps42
  go_wp2
  go_ret
  exact ⟨rfl, rfl⟩
theorem known_no (f : Int) (h : f < 1 ∨ 4 < f) (w : World) : Calls Tryz.prog 42 #[.int .i64 f] w fun e w' => e = .returned (.bool false) ∧ w' = w := by
  by_cases h1 : 1 ≤ f
  · have h2 : ¬ f ≤ 4 := by omega
    clear h
    go_enter Tryz.func42, Tryz.ntmps42
    go_wp2
    go_ret
    exact ⟨rfl, rfl⟩
  · clear h
    go_enter Tryz.func42, Tryz.ntmps42
    go_wp2
    go_ret
    exact ⟨rfl, rfl⟩

set_option maxHeartbeats 1000000 in
theorem of_none (f : Int) (h : f < 1 ∨ 4 < f) (w : World) : Calls Tryz.prog 15 #[.int .i64 f] w fun e w' => e = .returned (.tuple #[.agg #[.int .i64 0, .int .i64 0, .int .i64 0, .int .i64 0, .int .i64 0], .bool false]) ∧ Below w.heap.size w w' := by
  have HK := hide (fun w => known_no f h w)
  have HB := hide (below_allocs w (.cells #[.int .i64 0, .int .i64 0, .int .i64 0, .int .i64 0, .int .i64 0] 49))
  clear h
  go_enter Tryz.func15, Tryz.ntmps15
  go_wp2_with (go_at_call 42; refine (HK.out _).mono ?_; rintro e w' ⟨rfl, hw⟩; subst w')
  exact bodyPost_ret (v := .tuple #[.agg #[.int .i64 0, .int .i64 0, .int .i64 0, .int .i64 0, .int .i64 0], .bool false]) (by simp [results, Tryz.results15, go_sem]) rfl ⟨rfl, HB.out⟩
set_option maxHeartbeats 1000000 in
theorem of_1 (w : World) (hg : FmtG w) : Calls Tryz.prog 15 #[.int .i64 1] w fun e w' => e = .returned (.tuple #[.agg #[.int .i64 16, .int .i64 11, .int .i64 15, .int .i64 (-14), .int .i64 5], .bool true]) ∧ Below w.heap.size w w' := by
  have HK := hide (fun w => known_yes 1 (by decide) (by decide) w)
  have HB := hide (below_allocs w (.cells #[.int .i64 0, .int .i64 0, .int .i64 0, .int .i64 0, .int .i64 0] 49))
  have hg2 := hg.below HB.out
  have c0 : (w.alloc (.cells #[.int .i64 0, .int .i64 0, .int .i64 0, .int .i64 0, .int .i64 0] 49)).cell? ⟨0, 0, none⟩ = some (.int .i64 16) := hg2.c 0 (by decide)
  have c1 : (w.alloc (.cells #[.int .i64 0, .int .i64 0, .int .i64 0, .int .i64 0, .int .i64 0] 49)).cell? ⟨0, 1, none⟩ = some (.int .i64 11) := hg2.c 1 (by decide)
  have c2 : (w.alloc (.cells #[.int .i64 0, .int .i64 0, .int .i64 0, .int .i64 0, .int .i64 0] 49)).cell? ⟨0, 2, none⟩ = some (.int .i64 15) := hg2.c 2 (by decide)
  have c3 : (w.alloc (.cells #[.int .i64 0, .int .i64 0, .int .i64 0, .int .i64 0, .int .i64 0] 49)).cell? ⟨0, 3, none⟩ = some (.int .i64 (-14)) := hg2.c 3 (by decide)
  have c4 : (w.alloc (.cells #[.int .i64 0, .int .i64 0, .int .i64 0, .int .i64 0, .int .i64 0] 49)).cell? ⟨0, 4, none⟩ = some (.int .i64 5) := hg2.c 4 (by decide)
  have hlt := hg.lt
  have hne : (0 : Nat) ≠ w.heap.size := by omega
  clear hg hg2
  go_enter Tryz.func15, Tryz.ntmps15
  go_wp2_with (go_at_call 42; refine (HK.out _).mono ?_; rintro e w' ⟨rfl, hw⟩; subst w')
  exact bodyPost_ret (v := .tuple #[.agg #[.int .i64 16, .int .i64 11, .int .i64 15, .int .i64 (-14), .int .i64 5], .bool true]) (by simp [results, Tryz.results15, go_sem]) rfl ⟨rfl, below_allocs w _⟩
set_option maxHeartbeats 1000000 in
theorem of_2 (w : World) (hg : FmtG w) : Calls Tryz.prog 15 #[.int .i64 2] w fun e w' => e = .returned (.tuple #[.agg #[.int .i64 32, .int .i64 24, .int .i64 127, .int .i64 (-126), .int .i64 8], .bool true]) ∧ Below w.heap.size w w' := by
  have HK := hide (fun w => known_yes 2 (by decide) (by decide) w)
  have HB := hide (below_allocs w (.cells #[.int .i64 0, .int .i64 0, .int .i64 0, .int .i64 0, .int .i64 0] 49))
  have hg2 := hg.below HB.out
  have c0 : (w.alloc (.cells #[.int .i64 0, .int .i64 0, .int .i64 0, .int .i64 0, .int .i64 0] 49)).cell? ⟨0, 5, none⟩ = some (.int .i64 32) := hg2.c 5 (by decide)
  have c1 : (w.alloc (.cells #[.int .i64 0, .int .i64 0, .int .i64 0, .int .i64 0, .int .i64 0] 49)).cell? ⟨0, 6, none⟩ = some (.int .i64 24) := hg2.c 6 (by decide)
  have c2 : (w.alloc (.cells #[.int .i64 0, .int .i64 0, .int .i64 0, .int .i64 0, .int .i64 0] 49)).cell? ⟨0, 7, none⟩ = some (.int .i64 127) := hg2.c 7 (by decide)
  have c3 : (w.alloc (.cells #[.int .i64 0, .int .i64 0, .int .i64 0, .int .i64 0, .int .i64 0] 49)).cell? ⟨0, 8, none⟩ = some (.int .i64 (-126)) := hg2.c 8 (by decide)
  have c4 : (w.alloc (.cells #[.int .i64 0, .int .i64 0, .int .i64 0, .int .i64 0, .int .i64 0] 49)).cell? ⟨0, 9, none⟩ = some (.int .i64 8) := hg2.c 9 (by decide)
  have hlt := hg.lt
  have hne : (0 : Nat) ≠ w.heap.size := by omega
  clear hg hg2
  go_enter Tryz.func15, Tryz.ntmps15
  go_wp2_with (go_at_call 42; refine (HK.out _).mono ?_; rintro e w' ⟨rfl, hw⟩; subst w')
  exact bodyPost_ret (v := .tuple #[.agg #[.int .i64 32, .int .i64 24, .int .i64 127, .int .i64 (-126), .int .i64 8], .bool true]) (by simp [results, Tryz.results15, go_sem]) rfl ⟨rfl, below_allocs w _⟩
set_option maxHeartbeats 1000000 in
theorem of_3 (w : World) (hg : FmtG w) : Calls Tryz.prog 15 #[.int .i64 3] w fun e w' => e = .returned (.tuple #[.agg #[.int .i64 64, .int .i64 53, .int .i64 1023, .int .i64 (-1022), .int .i64 11], .bool true]) ∧ Below w.heap.size w w' := by
  have HK := hide (fun w => known_yes 3 (by decide) (by decide) w)
  have HB := hide (below_allocs w (.cells #[.int .i64 0, .int .i64 0, .int .i64 0, .int .i64 0, .int .i64 0] 49))
  have hg2 := hg.below HB.out
  have c0 : (w.alloc (.cells #[.int .i64 0, .int .i64 0, .int .i64 0, .int .i64 0, .int .i64 0] 49)).cell? ⟨0, 10, none⟩ = some (.int .i64 64) := hg2.c 10 (by decide)
  have c1 : (w.alloc (.cells #[.int .i64 0, .int .i64 0, .int .i64 0, .int .i64 0, .int .i64 0] 49)).cell? ⟨0, 11, none⟩ = some (.int .i64 53) := hg2.c 11 (by decide)
  have c2 : (w.alloc (.cells #[.int .i64 0, .int .i64 0, .int .i64 0, .int .i64 0, .int .i64 0] 49)).cell? ⟨0, 12, none⟩ = some (.int .i64 1023) := hg2.c 12 (by decide)
  have c3 : (w.alloc (.cells #[.int .i64 0, .int .i64 0, .int .i64 0, .int .i64 0, .int .i64 0] 49)).cell? ⟨0, 13, none⟩ = some (.int .i64 (-1022)) := hg2.c 13 (by decide)
  have c4 : (w.alloc (.cells #[.int .i64 0, .int .i64 0, .int .i64 0, .int .i64 0, .int .i64 0] 49)).cell? ⟨0, 14, none⟩ = some (.int .i64 11) := hg2.c 14 (by decide)
  have hlt := hg.lt
  have hne : (0 : Nat) ≠ w.heap.size := by omega
  clear hg hg2
  go_enter Tryz.func15, Tryz.ntmps15
  go_wp2_with (go_at_call 42; refine (HK.out _).mono ?_; rintro e w' ⟨rfl, hw⟩; subst w')
  exact bodyPost_ret (v := .tuple #[.agg #[.int .i64 64, .int .i64 53, .int .i64 1023, .int .i64 (-1022), .int .i64 11], .bool true]) (by simp [results, Tryz.results15, go_sem]) rfl ⟨rfl, below_allocs w _⟩
set_option maxHeartbeats 1000000 in
theorem of_4 (w : World) (hg : FmtG w) : Calls Tryz.prog 15 #[.int .i64 4] w fun e w' => e = .returned (.tuple #[.agg #[.int .i64 128, .int .i64 113, .int .i64 16383, .int .i64 (-16382), .int .i64 15], .bool true]) ∧ Below w.heap.size w w' := by
  have HK := hide (fun w => known_yes 4 (by decide) (by decide) w)
  have HB := hide (below_allocs w (.cells #[.int .i64 0, .int .i64 0, .int .i64 0, .int .i64 0, .int .i64 0] 49))
  have hg2 := hg.below HB.out
  have c0 : (w.alloc (.cells #[.int .i64 0, .int .i64 0, .int .i64 0, .int .i64 0, .int .i64 0] 49)).cell? ⟨0, 15, none⟩ = some (.int .i64 128) := hg2.c 15 (by decide)
  have c1 : (w.alloc (.cells #[.int .i64 0, .int .i64 0, .int .i64 0, .int .i64 0, .int .i64 0] 49)).cell? ⟨0, 16, none⟩ = some (.int .i64 113) := hg2.c 16 (by decide)
  have c2 : (w.alloc (.cells #[.int .i64 0, .int .i64 0, .int .i64 0, .int .i64 0, .int .i64 0] 49)).cell? ⟨0, 17, none⟩ = some (.int .i64 16383) := hg2.c 17 (by decide)
  have c3 : (w.alloc (.cells #[.int .i64 0, .int .i64 0, .int .i64 0, .int .i64 0, .int .i64 0] 49)).cell? ⟨0, 18, none⟩ = some (.int .i64 (-16382)) := hg2.c 18 (by decide)
  have c4 : (w.alloc (.cells #[.int .i64 0, .int .i64 0, .int .i64 0, .int .i64 0, .int .i64 0] 49)).cell? ⟨0, 19, none⟩ = some (.int .i64 15) := hg2.c 19 (by decide)
  have hlt := hg.lt
  have hne : (0 : Nat) ≠ w.heap.size := by omega
  clear hg hg2
  go_enter Tryz.func15, Tryz.ntmps15
  go_wp2_with (go_at_call 42; refine (HK.out _).mono ?_; rintro e w' ⟨rfl, hw⟩; subst w')
  exact bodyPost_ret (v := .tuple #[.agg #[.int .i64 128, .int .i64 113, .int .i64 16383, .int .i64 (-16382), .int .i64 15], .bool true]) (by simp [results, Tryz.results15, go_sem]) rfl ⟨rfl, below_allocs w _⟩
end Go.Proofs.YtpcjdllijkjdkaaGreatDoor

/- Contracts: radicandref05.Prec, Bits, Field, EMax, EMin, Is, at each of the four formats; Prec and Is at the other numbers. -/
set_option linter.unusedVariables false
set_option linter.unusedSimpArgs false
set_option maxRecDepth 8000
namespace Go.Proofs.YtpcjdllijkjdkaaGreatDoor
open Go.RowKit Plain

set_option maxHeartbeats 1000000 in
theorem prec_none (f : Int) (h : f < 1 ∨ 4 < f) (w : World) : Calls Tryz.prog 8 #[.int .i64 f] w fun e w' => e = .returned (.int .i64 0) ∧ w' = w := by
  have h1 : (f == 1) = false := by rw [beq_eq_false_iff_ne]; omega
  have h2 : (f == 2) = false := by rw [beq_eq_false_iff_ne]; omega
  have h3 : (f == 3) = false := by rw [beq_eq_false_iff_ne]; omega
  have h4 : (f == 4) = false := by rw [beq_eq_false_iff_ne]; omega
  clear h
  go_enter Tryz.func8, Tryz.ntmps8
  go_wp2
  go_ret
  exact ⟨rfl, rfl⟩
theorem is_none (f : Int) (h : f < 1 ∨ 4 < f) (w : World) : Calls Tryz.prog 5 #[.int .i64 f] w fun e w' => e = .returned (.bool false) ∧ w' = w := by
  have HP := hide (fun w => prec_none f h w)
  clear h
  go_enter Tryz.func5, Tryz.ntmps5
  go_wp2_with (go_at_call 8; refine (HP.out _).mono ?_; rintro e w' ⟨rfl, hw⟩; subst w')
  go_ret
  exact ⟨rfl, rfl⟩

theorem prec_1 (w : World) : Calls Tryz.prog 8 #[.int .i64 1] w fun e w' => e = .returned (.int .i64 11) ∧ w' = w := by
  go_enter Tryz.func8, Tryz.ntmps8
  go_wp2
  go_ret
  exact ⟨rfl, rfl⟩
theorem is_1 (w : World) : Calls Tryz.prog 5 #[.int .i64 1] w fun e w' => e = .returned (.bool true) ∧ w' = w := by
  have HP := hide (fun w => prec_1 w)
  go_enter Tryz.func5, Tryz.ntmps5
  go_wp2_with (go_at_call 8; refine (HP.out _).mono ?_; rintro e w' ⟨rfl, hw⟩; subst w')
  go_ret
  exact ⟨rfl, rfl⟩
set_option maxHeartbeats 1000000 in
theorem bits_1 (w : World) : Calls Tryz.prog 33 #[.int .i64 1] w fun e w' => e = .returned (.int .i64 16) ∧ w' = w := by
  go_enter Tryz.func33, Tryz.ntmps33
  go_wp2
  go_loop [3, 4] (fun n i => ∃ k : Nat, k ≤ 1 ∧ n = .int .i64 ((8 * 2 ^ k : Nat) : Int) ∧ i = .int .i64 k) (fun n i => 1 - (intOf i).toNat)
  case atStart => exact ⟨0, by decide, rfl, rfl⟩
  case round =>
    obtain ⟨k, hk, rfl, rfl⟩ := hrel
    have hk5 : k = 0 ∨ k = 1 := by omega
    rcases hk5 with rfl | rfl
    · go_wp2
      go_round
      case rel => exact ⟨1, by decide, rfl, rfl⟩
      case measure => decide
    · go_wp2
      go_ret
      exact ⟨rfl, rfl⟩
theorem field_1 (w : World) : Calls Tryz.prog 66 #[.int .i64 1] w fun e w' => e = .returned (.int .i64 5) ∧ w' = w := by
  have HP := hide (fun w => prec_1 w)
  have HB := hide (fun w => bits_1 w)
  go_enter Tryz.func66, Tryz.ntmps66
  go_wp2_with (first | (go_at_call 33; refine (HB.out _).mono ?_; rintro e w' ⟨rfl, hw⟩; subst w') | (go_at_call 8; refine (HP.out _).mono ?_; rintro e w' ⟨rfl, hw⟩; subst w'))
  go_ret
  exact ⟨rfl, rfl⟩
set_option maxHeartbeats 2000000 in
theorem emax_1 (w : World) : Calls Tryz.prog 36 #[.int .i64 1] w fun e w' => e = .returned (.int .i64 15) ∧ w' = w := by
  have HF := hide (fun w => field_1 w)
  go_enter Tryz.func36, Tryz.ntmps36
  go_wp2
  go_loop [3, 4] (fun n i => ∃ j : Nat, 1 ≤ j ∧ j ≤ 5 ∧ n = .int .i64 ((2 ^ (j - 1) : Nat) : Int) ∧ i = .int .i64 j) (fun n i => 5 - (intOf i).toNat)
  case atStart => exact ⟨1, by decide, by decide, rfl, rfl⟩
  case round =>
    obtain ⟨j, hj1, hj, rfl, rfl⟩ := hrel
    by_cases hlt : j < 5
    · have hlt' : (j : Int) < 5 := by omega
      have hp : 2 ^ (j - 1) ≤ 16384 := Nat.le_trans (Nat.pow_le_pow_right (by decide) (show j - 1 ≤ 14 by omega)) (by decide)
      have HN : Hid (2 * 2 ^ (j - 1) = 2 ^ (j + 1 - 1)) := by unfold Hid; rw [show j + 1 - 1 = (j - 1) + 1 by omega, Nat.pow_succ]; omega
      generalize 2 ^ (j - 1) = n at *
      have hn : (n : Int) ≤ 16384 := by omega
      go_wp2_with (go_at_call 66; refine (HF.out _).mono ?_; rintro e w' ⟨rfl, hw⟩; subst w')
      go_round
      case rel => exact ⟨j + 1, by omega, by omega, by rw [← HN.out]; go_num, by go_num⟩
      case measure => simp [intOf]; omega
    · have hje : j = 5 := by omega
      subst hje
      go_wp2_with (go_at_call 66; refine (HF.out _).mono ?_; rintro e w' ⟨rfl, hw⟩; subst w')
      go_ret
      exact ⟨rfl, rfl⟩
theorem emin_1 (w : World) : Calls Tryz.prog 39 #[.int .i64 1] w fun e w' => e = .returned (.int .i64 (-14)) ∧ w' = w := by
  have HE := hide (fun w => emax_1 w)
  go_enter Tryz.func39, Tryz.ntmps39
  go_wp2_with (go_at_call 36; refine (HE.out _).mono ?_; rintro e w' ⟨rfl, hw⟩; subst w')
  go_ret
  exact ⟨rfl, rfl⟩

theorem prec_2 (w : World) : Calls Tryz.prog 8 #[.int .i64 2] w fun e w' => e = .returned (.int .i64 24) ∧ w' = w := by
  go_enter Tryz.func8, Tryz.ntmps8
  go_wp2
  go_ret
  exact ⟨rfl, rfl⟩
theorem is_2 (w : World) : Calls Tryz.prog 5 #[.int .i64 2] w fun e w' => e = .returned (.bool true) ∧ w' = w := by
  have HP := hide (fun w => prec_2 w)
  go_enter Tryz.func5, Tryz.ntmps5
  go_wp2_with (go_at_call 8; refine (HP.out _).mono ?_; rintro e w' ⟨rfl, hw⟩; subst w')
  go_ret
  exact ⟨rfl, rfl⟩
set_option maxHeartbeats 1000000 in
theorem bits_2 (w : World) : Calls Tryz.prog 33 #[.int .i64 2] w fun e w' => e = .returned (.int .i64 32) ∧ w' = w := by
  go_enter Tryz.func33, Tryz.ntmps33
  go_wp2
  go_loop [3, 4] (fun n i => ∃ k : Nat, k ≤ 2 ∧ n = .int .i64 ((8 * 2 ^ k : Nat) : Int) ∧ i = .int .i64 k) (fun n i => 2 - (intOf i).toNat)
  case atStart => exact ⟨0, by decide, rfl, rfl⟩
  case round =>
    obtain ⟨k, hk, rfl, rfl⟩ := hrel
    have hk5 : k = 0 ∨ k = 1 ∨ k = 2 := by omega
    rcases hk5 with rfl | rfl | rfl
    · go_wp2
      go_round
      case rel => exact ⟨1, by decide, rfl, rfl⟩
      case measure => decide
    · go_wp2
      go_round
      case rel => exact ⟨2, by decide, rfl, rfl⟩
      case measure => decide
    · go_wp2
      go_ret
      exact ⟨rfl, rfl⟩
theorem field_2 (w : World) : Calls Tryz.prog 66 #[.int .i64 2] w fun e w' => e = .returned (.int .i64 8) ∧ w' = w := by
  have HP := hide (fun w => prec_2 w)
  have HB := hide (fun w => bits_2 w)
  go_enter Tryz.func66, Tryz.ntmps66
  go_wp2_with (first | (go_at_call 33; refine (HB.out _).mono ?_; rintro e w' ⟨rfl, hw⟩; subst w') | (go_at_call 8; refine (HP.out _).mono ?_; rintro e w' ⟨rfl, hw⟩; subst w'))
  go_ret
  exact ⟨rfl, rfl⟩
set_option maxHeartbeats 2000000 in
theorem emax_2 (w : World) : Calls Tryz.prog 36 #[.int .i64 2] w fun e w' => e = .returned (.int .i64 127) ∧ w' = w := by
  have HF := hide (fun w => field_2 w)
  go_enter Tryz.func36, Tryz.ntmps36
  go_wp2
  go_loop [3, 4] (fun n i => ∃ j : Nat, 1 ≤ j ∧ j ≤ 8 ∧ n = .int .i64 ((2 ^ (j - 1) : Nat) : Int) ∧ i = .int .i64 j) (fun n i => 8 - (intOf i).toNat)
  case atStart => exact ⟨1, by decide, by decide, rfl, rfl⟩
  case round =>
    obtain ⟨j, hj1, hj, rfl, rfl⟩ := hrel
    by_cases hlt : j < 8
    · have hlt' : (j : Int) < 8 := by omega
      have hp : 2 ^ (j - 1) ≤ 16384 := Nat.le_trans (Nat.pow_le_pow_right (by decide) (show j - 1 ≤ 14 by omega)) (by decide)
      have HN : Hid (2 * 2 ^ (j - 1) = 2 ^ (j + 1 - 1)) := by unfold Hid; rw [show j + 1 - 1 = (j - 1) + 1 by omega, Nat.pow_succ]; omega
      generalize 2 ^ (j - 1) = n at *
      have hn : (n : Int) ≤ 16384 := by omega
      go_wp2_with (go_at_call 66; refine (HF.out _).mono ?_; rintro e w' ⟨rfl, hw⟩; subst w')
      go_round
      case rel => exact ⟨j + 1, by omega, by omega, by rw [← HN.out]; go_num, by go_num⟩
      case measure => simp [intOf]; omega
    · have hje : j = 8 := by omega
      subst hje
      go_wp2_with (go_at_call 66; refine (HF.out _).mono ?_; rintro e w' ⟨rfl, hw⟩; subst w')
      go_ret
      exact ⟨rfl, rfl⟩
theorem emin_2 (w : World) : Calls Tryz.prog 39 #[.int .i64 2] w fun e w' => e = .returned (.int .i64 (-126)) ∧ w' = w := by
  have HE := hide (fun w => emax_2 w)
  go_enter Tryz.func39, Tryz.ntmps39
  go_wp2_with (go_at_call 36; refine (HE.out _).mono ?_; rintro e w' ⟨rfl, hw⟩; subst w')
  go_ret
  exact ⟨rfl, rfl⟩

theorem prec_3 (w : World) : Calls Tryz.prog 8 #[.int .i64 3] w fun e w' => e = .returned (.int .i64 53) ∧ w' = w := by
  go_enter Tryz.func8, Tryz.ntmps8
  go_wp2
  go_ret
  exact ⟨rfl, rfl⟩
theorem is_3 (w : World) : Calls Tryz.prog 5 #[.int .i64 3] w fun e w' => e = .returned (.bool true) ∧ w' = w := by
  have HP := hide (fun w => prec_3 w)
  go_enter Tryz.func5, Tryz.ntmps5
  go_wp2_with (go_at_call 8; refine (HP.out _).mono ?_; rintro e w' ⟨rfl, hw⟩; subst w')
  go_ret
  exact ⟨rfl, rfl⟩
set_option maxHeartbeats 1000000 in
theorem bits_3 (w : World) : Calls Tryz.prog 33 #[.int .i64 3] w fun e w' => e = .returned (.int .i64 64) ∧ w' = w := by
  go_enter Tryz.func33, Tryz.ntmps33
  go_wp2
  go_loop [3, 4] (fun n i => ∃ k : Nat, k ≤ 3 ∧ n = .int .i64 ((8 * 2 ^ k : Nat) : Int) ∧ i = .int .i64 k) (fun n i => 3 - (intOf i).toNat)
  case atStart => exact ⟨0, by decide, rfl, rfl⟩
  case round =>
    obtain ⟨k, hk, rfl, rfl⟩ := hrel
    have hk5 : k = 0 ∨ k = 1 ∨ k = 2 ∨ k = 3 := by omega
    rcases hk5 with rfl | rfl | rfl | rfl
    · go_wp2
      go_round
      case rel => exact ⟨1, by decide, rfl, rfl⟩
      case measure => decide
    · go_wp2
      go_round
      case rel => exact ⟨2, by decide, rfl, rfl⟩
      case measure => decide
    · go_wp2
      go_round
      case rel => exact ⟨3, by decide, rfl, rfl⟩
      case measure => decide
    · go_wp2
      go_ret
      exact ⟨rfl, rfl⟩
theorem field_3 (w : World) : Calls Tryz.prog 66 #[.int .i64 3] w fun e w' => e = .returned (.int .i64 11) ∧ w' = w := by
  have HP := hide (fun w => prec_3 w)
  have HB := hide (fun w => bits_3 w)
  go_enter Tryz.func66, Tryz.ntmps66
  go_wp2_with (first | (go_at_call 33; refine (HB.out _).mono ?_; rintro e w' ⟨rfl, hw⟩; subst w') | (go_at_call 8; refine (HP.out _).mono ?_; rintro e w' ⟨rfl, hw⟩; subst w'))
  go_ret
  exact ⟨rfl, rfl⟩
set_option maxHeartbeats 2000000 in
theorem emax_3 (w : World) : Calls Tryz.prog 36 #[.int .i64 3] w fun e w' => e = .returned (.int .i64 1023) ∧ w' = w := by
  have HF := hide (fun w => field_3 w)
  go_enter Tryz.func36, Tryz.ntmps36
  go_wp2
  go_loop [3, 4] (fun n i => ∃ j : Nat, 1 ≤ j ∧ j ≤ 11 ∧ n = .int .i64 ((2 ^ (j - 1) : Nat) : Int) ∧ i = .int .i64 j) (fun n i => 11 - (intOf i).toNat)
  case atStart => exact ⟨1, by decide, by decide, rfl, rfl⟩
  case round =>
    obtain ⟨j, hj1, hj, rfl, rfl⟩ := hrel
    by_cases hlt : j < 11
    · have hlt' : (j : Int) < 11 := by omega
      have hp : 2 ^ (j - 1) ≤ 16384 := Nat.le_trans (Nat.pow_le_pow_right (by decide) (show j - 1 ≤ 14 by omega)) (by decide)
      have HN : Hid (2 * 2 ^ (j - 1) = 2 ^ (j + 1 - 1)) := by unfold Hid; rw [show j + 1 - 1 = (j - 1) + 1 by omega, Nat.pow_succ]; omega
      generalize 2 ^ (j - 1) = n at *
      have hn : (n : Int) ≤ 16384 := by omega
      go_wp2_with (go_at_call 66; refine (HF.out _).mono ?_; rintro e w' ⟨rfl, hw⟩; subst w')
      go_round
      case rel => exact ⟨j + 1, by omega, by omega, by rw [← HN.out]; go_num, by go_num⟩
      case measure => simp [intOf]; omega
    · have hje : j = 11 := by omega
      subst hje
      go_wp2_with (go_at_call 66; refine (HF.out _).mono ?_; rintro e w' ⟨rfl, hw⟩; subst w')
      go_ret
      exact ⟨rfl, rfl⟩
theorem emin_3 (w : World) : Calls Tryz.prog 39 #[.int .i64 3] w fun e w' => e = .returned (.int .i64 (-1022)) ∧ w' = w := by
  have HE := hide (fun w => emax_3 w)
  go_enter Tryz.func39, Tryz.ntmps39
  go_wp2_with (go_at_call 36; refine (HE.out _).mono ?_; rintro e w' ⟨rfl, hw⟩; subst w')
  go_ret
  exact ⟨rfl, rfl⟩

theorem prec_4 (w : World) : Calls Tryz.prog 8 #[.int .i64 4] w fun e w' => e = .returned (.int .i64 113) ∧ w' = w := by
  go_enter Tryz.func8, Tryz.ntmps8
  go_wp2
  go_ret
  exact ⟨rfl, rfl⟩
theorem is_4 (w : World) : Calls Tryz.prog 5 #[.int .i64 4] w fun e w' => e = .returned (.bool true) ∧ w' = w := by
  have HP := hide (fun w => prec_4 w)
  go_enter Tryz.func5, Tryz.ntmps5
  go_wp2_with (go_at_call 8; refine (HP.out _).mono ?_; rintro e w' ⟨rfl, hw⟩; subst w')
  go_ret
  exact ⟨rfl, rfl⟩
set_option maxHeartbeats 1000000 in
theorem bits_4 (w : World) : Calls Tryz.prog 33 #[.int .i64 4] w fun e w' => e = .returned (.int .i64 128) ∧ w' = w := by
  go_enter Tryz.func33, Tryz.ntmps33
  go_wp2
  go_loop [3, 4] (fun n i => ∃ k : Nat, k ≤ 4 ∧ n = .int .i64 ((8 * 2 ^ k : Nat) : Int) ∧ i = .int .i64 k) (fun n i => 4 - (intOf i).toNat)
  case atStart => exact ⟨0, by decide, rfl, rfl⟩
  case round =>
    obtain ⟨k, hk, rfl, rfl⟩ := hrel
    have hk5 : k = 0 ∨ k = 1 ∨ k = 2 ∨ k = 3 ∨ k = 4 := by omega
    rcases hk5 with rfl | rfl | rfl | rfl | rfl
    · go_wp2
      go_round
      case rel => exact ⟨1, by decide, rfl, rfl⟩
      case measure => decide
    · go_wp2
      go_round
      case rel => exact ⟨2, by decide, rfl, rfl⟩
      case measure => decide
    · go_wp2
      go_round
      case rel => exact ⟨3, by decide, rfl, rfl⟩
      case measure => decide
    · go_wp2
      go_round
      case rel => exact ⟨4, by decide, rfl, rfl⟩
      case measure => decide
    · go_wp2
      go_ret
      exact ⟨rfl, rfl⟩
theorem field_4 (w : World) : Calls Tryz.prog 66 #[.int .i64 4] w fun e w' => e = .returned (.int .i64 15) ∧ w' = w := by
  have HP := hide (fun w => prec_4 w)
  have HB := hide (fun w => bits_4 w)
  go_enter Tryz.func66, Tryz.ntmps66
  go_wp2_with (first | (go_at_call 33; refine (HB.out _).mono ?_; rintro e w' ⟨rfl, hw⟩; subst w') | (go_at_call 8; refine (HP.out _).mono ?_; rintro e w' ⟨rfl, hw⟩; subst w'))
  go_ret
  exact ⟨rfl, rfl⟩
set_option maxHeartbeats 2000000 in
theorem emax_4 (w : World) : Calls Tryz.prog 36 #[.int .i64 4] w fun e w' => e = .returned (.int .i64 16383) ∧ w' = w := by
  have HF := hide (fun w => field_4 w)
  go_enter Tryz.func36, Tryz.ntmps36
  go_wp2
  go_loop [3, 4] (fun n i => ∃ j : Nat, 1 ≤ j ∧ j ≤ 15 ∧ n = .int .i64 ((2 ^ (j - 1) : Nat) : Int) ∧ i = .int .i64 j) (fun n i => 15 - (intOf i).toNat)
  case atStart => exact ⟨1, by decide, by decide, rfl, rfl⟩
  case round =>
    obtain ⟨j, hj1, hj, rfl, rfl⟩ := hrel
    by_cases hlt : j < 15
    · have hlt' : (j : Int) < 15 := by omega
      have hp : 2 ^ (j - 1) ≤ 16384 := Nat.le_trans (Nat.pow_le_pow_right (by decide) (show j - 1 ≤ 14 by omega)) (by decide)
      have HN : Hid (2 * 2 ^ (j - 1) = 2 ^ (j + 1 - 1)) := by unfold Hid; rw [show j + 1 - 1 = (j - 1) + 1 by omega, Nat.pow_succ]; omega
      generalize 2 ^ (j - 1) = n at *
      have hn : (n : Int) ≤ 16384 := by omega
      go_wp2_with (go_at_call 66; refine (HF.out _).mono ?_; rintro e w' ⟨rfl, hw⟩; subst w')
      go_round
      case rel => exact ⟨j + 1, by omega, by omega, by rw [← HN.out]; go_num, by go_num⟩
      case measure => simp [intOf]; omega
    · have hje : j = 15 := by omega
      subst hje
      go_wp2_with (go_at_call 66; refine (HF.out _).mono ?_; rintro e w' ⟨rfl, hw⟩; subst w')
      go_ret
      exact ⟨rfl, rfl⟩
theorem emin_4 (w : World) : Calls Tryz.prog 39 #[.int .i64 4] w fun e w' => e = .returned (.int .i64 (-16382)) ∧ w' = w := by
  have HE := hide (fun w => emax_4 w)
  go_enter Tryz.func39, Tryz.ntmps39
  go_wp2_with (go_at_call 36; refine (HE.out _).mono ?_; rintro e w' ⟨rfl, hw⟩; subst w')
  go_ret
  exact ⟨rfl, rfl⟩

end Go.Proofs.YtpcjdllijkjdkaaGreatDoor

