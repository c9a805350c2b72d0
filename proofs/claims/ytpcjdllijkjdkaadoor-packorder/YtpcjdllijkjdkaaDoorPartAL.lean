/- Contracts and laws: FmtA, FmtB. -/
import Derived.Test.YtpcjdllijkjdkaaDoorPartAC
import Derived.Test.YtpcjdllijkjdkaaDoorPartAK
/- Contracts: format.known, Of, Name. -/
set_option linter.unusedVariables false
set_option linter.unusedSimpArgs false
set_option maxRecDepth 8000
namespace Go.Proofs.YtpcjdllijkjdkaaDoor
open Go.RowKit Plain

theorem known_yes (f : Int) (h1 : 1 ≤ f) (h2 : f ≤ 4) (w : World) : Calls Tryd.prog 103 #[.int .i64 f] w fun e w' => e = .returned (.bool true) ∧ w' = w := by
  go_enter Tryd.func103, Tryd.ntmps103
  go_wp2
  go_ret
  exact ⟨rfl, rfl⟩
set_option maxHeartbeats 1000000 in
theorem of_1 (w : World) (hg : FmtG w) : Calls Tryd.prog 47 #[.int .i64 1] w fun e w' => e = .returned (.tuple #[.agg #[.int .i64 16, .int .i64 11, .int .i64 15, .int .i64 (-14), .int .i64 5], .bool true]) ∧ Below w.heap.size w w' := by
  have HK := hide (fun w => known_yes 1 (by decide) (by decide) w)
  have HB := hide (below_allocs w (.cells #[.int .i64 0, .int .i64 0, .int .i64 0, .int .i64 0, .int .i64 0] 85))
  have hg2 := hg.below HB.out
  have c0 : (w.alloc (.cells #[.int .i64 0, .int .i64 0, .int .i64 0, .int .i64 0, .int .i64 0] 85)).cell? ⟨1, 0, none⟩ = some (.int .i64 16) := hg2.c 0 (by decide)
  have c1 : (w.alloc (.cells #[.int .i64 0, .int .i64 0, .int .i64 0, .int .i64 0, .int .i64 0] 85)).cell? ⟨1, 1, none⟩ = some (.int .i64 11) := hg2.c 1 (by decide)
  have c2 : (w.alloc (.cells #[.int .i64 0, .int .i64 0, .int .i64 0, .int .i64 0, .int .i64 0] 85)).cell? ⟨1, 2, none⟩ = some (.int .i64 15) := hg2.c 2 (by decide)
  have c3 : (w.alloc (.cells #[.int .i64 0, .int .i64 0, .int .i64 0, .int .i64 0, .int .i64 0] 85)).cell? ⟨1, 3, none⟩ = some (.int .i64 (-14)) := hg2.c 3 (by decide)
  have c4 : (w.alloc (.cells #[.int .i64 0, .int .i64 0, .int .i64 0, .int .i64 0, .int .i64 0] 85)).cell? ⟨1, 4, none⟩ = some (.int .i64 5) := hg2.c 4 (by decide)
  have hlt := hg.lt
  have hne : (0 : Nat) ≠ w.heap.size := by omega
  clear hg hg2
  go_enter Tryd.func47, Tryd.ntmps47
  go_wp2_with (go_at_call 103; refine (HK.out _).mono ?_; rintro e w' ⟨rfl, hw⟩; subst w')
  exact bodyPost_ret (v := .tuple #[.agg #[.int .i64 16, .int .i64 11, .int .i64 15, .int .i64 (-14), .int .i64 5], .bool true]) (by simp [results, Tryd.results47, go_sem]) rfl ⟨rfl, below_allocs w _⟩
set_option maxHeartbeats 1000000 in
theorem of_2 (w : World) (hg : FmtG w) : Calls Tryd.prog 47 #[.int .i64 2] w fun e w' => e = .returned (.tuple #[.agg #[.int .i64 32, .int .i64 24, .int .i64 127, .int .i64 (-126), .int .i64 8], .bool true]) ∧ Below w.heap.size w w' := by
  have HK := hide (fun w => known_yes 2 (by decide) (by decide) w)
  have HB := hide (below_allocs w (.cells #[.int .i64 0, .int .i64 0, .int .i64 0, .int .i64 0, .int .i64 0] 85))
  have hg2 := hg.below HB.out
  have c0 : (w.alloc (.cells #[.int .i64 0, .int .i64 0, .int .i64 0, .int .i64 0, .int .i64 0] 85)).cell? ⟨1, 5, none⟩ = some (.int .i64 32) := hg2.c 5 (by decide)
  have c1 : (w.alloc (.cells #[.int .i64 0, .int .i64 0, .int .i64 0, .int .i64 0, .int .i64 0] 85)).cell? ⟨1, 6, none⟩ = some (.int .i64 24) := hg2.c 6 (by decide)
  have c2 : (w.alloc (.cells #[.int .i64 0, .int .i64 0, .int .i64 0, .int .i64 0, .int .i64 0] 85)).cell? ⟨1, 7, none⟩ = some (.int .i64 127) := hg2.c 7 (by decide)
  have c3 : (w.alloc (.cells #[.int .i64 0, .int .i64 0, .int .i64 0, .int .i64 0, .int .i64 0] 85)).cell? ⟨1, 8, none⟩ = some (.int .i64 (-126)) := hg2.c 8 (by decide)
  have c4 : (w.alloc (.cells #[.int .i64 0, .int .i64 0, .int .i64 0, .int .i64 0, .int .i64 0] 85)).cell? ⟨1, 9, none⟩ = some (.int .i64 8) := hg2.c 9 (by decide)
  have hlt := hg.lt
  have hne : (0 : Nat) ≠ w.heap.size := by omega
  clear hg hg2
  go_enter Tryd.func47, Tryd.ntmps47
  go_wp2_with (go_at_call 103; refine (HK.out _).mono ?_; rintro e w' ⟨rfl, hw⟩; subst w')
  exact bodyPost_ret (v := .tuple #[.agg #[.int .i64 32, .int .i64 24, .int .i64 127, .int .i64 (-126), .int .i64 8], .bool true]) (by simp [results, Tryd.results47, go_sem]) rfl ⟨rfl, below_allocs w _⟩
set_option maxHeartbeats 1000000 in
theorem of_3 (w : World) (hg : FmtG w) : Calls Tryd.prog 47 #[.int .i64 3] w fun e w' => e = .returned (.tuple #[.agg #[.int .i64 64, .int .i64 53, .int .i64 1023, .int .i64 (-1022), .int .i64 11], .bool true]) ∧ Below w.heap.size w w' := by
  have HK := hide (fun w => known_yes 3 (by decide) (by decide) w)
  have HB := hide (below_allocs w (.cells #[.int .i64 0, .int .i64 0, .int .i64 0, .int .i64 0, .int .i64 0] 85))
  have hg2 := hg.below HB.out
  have c0 : (w.alloc (.cells #[.int .i64 0, .int .i64 0, .int .i64 0, .int .i64 0, .int .i64 0] 85)).cell? ⟨1, 10, none⟩ = some (.int .i64 64) := hg2.c 10 (by decide)
  have c1 : (w.alloc (.cells #[.int .i64 0, .int .i64 0, .int .i64 0, .int .i64 0, .int .i64 0] 85)).cell? ⟨1, 11, none⟩ = some (.int .i64 53) := hg2.c 11 (by decide)
  have c2 : (w.alloc (.cells #[.int .i64 0, .int .i64 0, .int .i64 0, .int .i64 0, .int .i64 0] 85)).cell? ⟨1, 12, none⟩ = some (.int .i64 1023) := hg2.c 12 (by decide)
  have c3 : (w.alloc (.cells #[.int .i64 0, .int .i64 0, .int .i64 0, .int .i64 0, .int .i64 0] 85)).cell? ⟨1, 13, none⟩ = some (.int .i64 (-1022)) := hg2.c 13 (by decide)
  have c4 : (w.alloc (.cells #[.int .i64 0, .int .i64 0, .int .i64 0, .int .i64 0, .int .i64 0] 85)).cell? ⟨1, 14, none⟩ = some (.int .i64 11) := hg2.c 14 (by decide)
  have hlt := hg.lt
  have hne : (0 : Nat) ≠ w.heap.size := by omega
  clear hg hg2
  go_enter Tryd.func47, Tryd.ntmps47
  go_wp2_with (go_at_call 103; refine (HK.out _).mono ?_; rintro e w' ⟨rfl, hw⟩; subst w')
  exact bodyPost_ret (v := .tuple #[.agg #[.int .i64 64, .int .i64 53, .int .i64 1023, .int .i64 (-1022), .int .i64 11], .bool true]) (by simp [results, Tryd.results47, go_sem]) rfl ⟨rfl, below_allocs w _⟩
set_option maxHeartbeats 1000000 in
theorem of_4 (w : World) (hg : FmtG w) : Calls Tryd.prog 47 #[.int .i64 4] w fun e w' => e = .returned (.tuple #[.agg #[.int .i64 128, .int .i64 113, .int .i64 16383, .int .i64 (-16382), .int .i64 15], .bool true]) ∧ Below w.heap.size w w' := by
  have HK := hide (fun w => known_yes 4 (by decide) (by decide) w)
  have HB := hide (below_allocs w (.cells #[.int .i64 0, .int .i64 0, .int .i64 0, .int .i64 0, .int .i64 0] 85))
  have hg2 := hg.below HB.out
  have c0 : (w.alloc (.cells #[.int .i64 0, .int .i64 0, .int .i64 0, .int .i64 0, .int .i64 0] 85)).cell? ⟨1, 15, none⟩ = some (.int .i64 128) := hg2.c 15 (by decide)
  have c1 : (w.alloc (.cells #[.int .i64 0, .int .i64 0, .int .i64 0, .int .i64 0, .int .i64 0] 85)).cell? ⟨1, 16, none⟩ = some (.int .i64 113) := hg2.c 16 (by decide)
  have c2 : (w.alloc (.cells #[.int .i64 0, .int .i64 0, .int .i64 0, .int .i64 0, .int .i64 0] 85)).cell? ⟨1, 17, none⟩ = some (.int .i64 16383) := hg2.c 17 (by decide)
  have c3 : (w.alloc (.cells #[.int .i64 0, .int .i64 0, .int .i64 0, .int .i64 0, .int .i64 0] 85)).cell? ⟨1, 18, none⟩ = some (.int .i64 (-16382)) := hg2.c 18 (by decide)
  have c4 : (w.alloc (.cells #[.int .i64 0, .int .i64 0, .int .i64 0, .int .i64 0, .int .i64 0] 85)).cell? ⟨1, 19, none⟩ = some (.int .i64 15) := hg2.c 19 (by decide)
  have hlt := hg.lt
  have hne : (0 : Nat) ≠ w.heap.size := by omega
  clear hg hg2
  go_enter Tryd.func47, Tryd.ntmps47
  go_wp2_with (go_at_call 103; refine (HK.out _).mono ?_; rintro e w' ⟨rfl, hw⟩; subst w')
  exact bodyPost_ret (v := .tuple #[.agg #[.int .i64 128, .int .i64 113, .int .i64 16383, .int .i64 (-16382), .int .i64 15], .bool true]) (by simp [results, Tryd.results47, go_sem]) rfl ⟨rfl, below_allocs w _⟩
end Go.Proofs.YtpcjdllijkjdkaaDoor

/- Contracts: radicandref05.Prec, Bits, Field, EMax, EMin, Is, at each of the four formats; Prec and Is at the other numbers. -/
set_option linter.unusedVariables false
set_option linter.unusedSimpArgs false
set_option maxRecDepth 8000
namespace Go.Proofs.YtpcjdllijkjdkaaDoor
open Go.RowKit Plain

set_option maxHeartbeats 1000000 in
theorem prec_none (f : Int) (h : f < 1 ∨ 4 < f) (w : World) : Calls Tryd.prog 34 #[.int .i64 f] w fun e w' => e = .returned (.int .i64 0) ∧ w' = w := by
  have h1 : (f == 1) = false := by rw [beq_eq_false_iff_ne]; omega
  have h2 : (f == 2) = false := by rw [beq_eq_false_iff_ne]; omega
  have h3 : (f == 3) = false := by rw [beq_eq_false_iff_ne]; omega
  have h4 : (f == 4) = false := by rw [beq_eq_false_iff_ne]; omega
  clear h
  go_enter Tryd.func34, Tryd.ntmps34
  go_wp2
  go_ret
  exact ⟨rfl, rfl⟩
theorem is_none (f : Int) (h : f < 1 ∨ 4 < f) (w : World) : Calls Tryd.prog 12 #[.int .i64 f] w fun e w' => e = .returned (.bool false) ∧ w' = w := by
  have HP := hide (fun w => prec_none f h w)
  clear h
  go_enter Tryd.func12, Tryd.ntmps12
  go_wp2_with (go_at_call 34; refine (HP.out _).mono ?_; rintro e w' ⟨rfl, hw⟩; subst w')
  go_ret
  exact ⟨rfl, rfl⟩

theorem prec_1 (w : World) : Calls Tryd.prog 34 #[.int .i64 1] w fun e w' => e = .returned (.int .i64 11) ∧ w' = w := by
  go_enter Tryd.func34, Tryd.ntmps34
  go_wp2
  go_ret
  exact ⟨rfl, rfl⟩
theorem is_1 (w : World) : Calls Tryd.prog 12 #[.int .i64 1] w fun e w' => e = .returned (.bool true) ∧ w' = w := by
  have HP := hide (fun w => prec_1 w)
  go_enter Tryd.func12, Tryd.ntmps12
  go_wp2_with (go_at_call 34; refine (HP.out _).mono ?_; rintro e w' ⟨rfl, hw⟩; subst w')
  go_ret
  exact ⟨rfl, rfl⟩
set_option maxHeartbeats 1000000 in
theorem bits_1 (w : World) : Calls Tryd.prog 102 #[.int .i64 1] w fun e w' => e = .returned (.int .i64 16) ∧ w' = w := by
  go_enter Tryd.func102, Tryd.ntmps102
  go_wp2
  go_loop [3, 4] (fun n i => ∃ k : Nat, k ≤ 1 ∧ n = .int .i64 ((8 * 2 ^ k : Nat) : Int) ∧ i = .int .i64 k) (fun n i => 1 - (intOf i).toNat)
  case atStart => exact ⟨0, by decide, rfl, rfl⟩
  case round =>
    obtain ⟨k, hk, rfl, rfl⟩ := hrel
    have hk5 : k = 0 ∨ k = 1 := by omega
    rcases hk5 with rfl | rfl
    · go_wp2
      go_round
      case rel => exact ⟨1, by decide, rfl, rfl⟩
      case measure => decide
    · go_wp2
      go_ret
      exact ⟨rfl, rfl⟩
theorem prec_2 (w : World) : Calls Tryd.prog 34 #[.int .i64 2] w fun e w' => e = .returned (.int .i64 24) ∧ w' = w := by
  go_enter Tryd.func34, Tryd.ntmps34
  go_wp2
  go_ret
  exact ⟨rfl, rfl⟩
theorem is_2 (w : World) : Calls Tryd.prog 12 #[.int .i64 2] w fun e w' => e = .returned (.bool true) ∧ w' = w := by
  have HP := hide (fun w => prec_2 w)
  go_enter Tryd.func12, Tryd.ntmps12
  go_wp2_with (go_at_call 34; refine (HP.out _).mono ?_; rintro e w' ⟨rfl, hw⟩; subst w')
  go_ret
  exact ⟨rfl, rfl⟩
set_option maxHeartbeats 1000000 in
theorem bits_2 (w : World) : Calls Tryd.prog 102 #[.int .i64 2] w fun e w' => e = .returned (.int .i64 32) ∧ w' = w := by
  go_enter Tryd.func102, Tryd.ntmps102
  go_wp2
  go_loop [3, 4] (fun n i => ∃ k : Nat, k ≤ 2 ∧ n = .int .i64 ((8 * 2 ^ k : Nat) : Int) ∧ i = .int .i64 k) (fun n i => 2 - (intOf i).toNat)
  case atStart => exact ⟨0, by decide, rfl, rfl⟩
  case round =>
    obtain ⟨k, hk, rfl, rfl⟩ := hrel
    have hk5 : k = 0 ∨ k = 1 ∨ k = 2 := by omega
    rcases hk5 with rfl | rfl | rfl
    · go_wp2
      go_round
      case rel => exact ⟨1, by decide, rfl, rfl⟩
      case measure => decide
    · go_wp2
      go_round
      case rel => exact ⟨2, by decide, rfl, rfl⟩
      case measure => decide
    · go_wp2
      go_ret
      exact ⟨rfl, rfl⟩
theorem prec_3 (w : World) : Calls Tryd.prog 34 #[.int .i64 3] w fun e w' => e = .returned (.int .i64 53) ∧ w' = w := by
  go_enter Tryd.func34, Tryd.ntmps34
  go_wp2
  go_ret
  exact ⟨rfl, rfl⟩
theorem is_3 (w : World) : Calls Tryd.prog 12 #[.int .i64 3] w fun e w' => e = .returned (.bool true) ∧ w' = w := by
  have HP := hide (fun w => prec_3 w)
  go_enter Tryd.func12, Tryd.ntmps12
  go_wp2_with (go_at_call 34; refine (HP.out _).mono ?_; rintro e w' ⟨rfl, hw⟩; subst w')
  go_ret
  exact ⟨rfl, rfl⟩
set_option maxHeartbeats 1000000 in
theorem bits_3 (w : World) : Calls Tryd.prog 102 #[.int .i64 3] w fun e w' => e = .returned (.int .i64 64) ∧ w' = w := by
  go_enter Tryd.func102, Tryd.ntmps102
  go_wp2
  go_loop [3, 4] (fun n i => ∃ k : Nat, k ≤ 3 ∧ n = .int .i64 ((8 * 2 ^ k : Nat) : Int) ∧ i = .int .i64 k) (fun n i => 3 - (intOf i).toNat)
  case atStart => exact ⟨0, by decide, rfl, rfl⟩
  case round =>
    obtain ⟨k, hk, rfl, rfl⟩ := hrel
    have hk5 : k = 0 ∨ k = 1 ∨ k = 2 ∨ k = 3 := by omega
    rcases hk5 with rfl | rfl | rfl | rfl
    · go_wp2
      go_round
      case rel => exact ⟨1, by decide, rfl, rfl⟩
      case measure => decide
    · go_wp2
      go_round
      case rel => exact ⟨2, by decide, rfl, rfl⟩
      case measure => decide
    · go_wp2
      go_round
      case rel => exact ⟨3, by decide, rfl, rfl⟩
      case measure => decide
    · go_wp2
      go_ret
      exact ⟨rfl, rfl⟩
theorem prec_4 (w : World) : Calls Tryd.prog 34 #[.int .i64 4] w fun e w' => e = .returned (.int .i64 113) ∧ w' = w := by
  go_enter Tryd.func34, Tryd.ntmps34
  go_wp2
  go_ret
  exact ⟨rfl, rfl⟩
theorem is_4 (w : World) : Calls Tryd.prog 12 #[.int .i64 4] w fun e w' => e = .returned (.bool true) ∧ w' = w := by
  have HP := hide (fun w => prec_4 w)
  go_enter Tryd.func12, Tryd.ntmps12
  go_wp2_with (go_at_call 34; refine (HP.out _).mono ?_; rintro e w' ⟨rfl, hw⟩; subst w')
  go_ret
  exact ⟨rfl, rfl⟩
set_option maxHeartbeats 1000000 in
theorem bits_4 (w : World) : Calls Tryd.prog 102 #[.int .i64 4] w fun e w' => e = .returned (.int .i64 128) ∧ w' = w := by
  go_enter Tryd.func102, Tryd.ntmps102
  go_wp2
  go_loop [3, 4] (fun n i => ∃ k : Nat, k ≤ 4 ∧ n = .int .i64 ((8 * 2 ^ k : Nat) : Int) ∧ i = .int .i64 k) (fun n i => 4 - (intOf i).toNat)
  case atStart => exact ⟨0, by decide, rfl, rfl⟩
  case round =>
    obtain ⟨k, hk, rfl, rfl⟩ := hrel
    have hk5 : k = 0 ∨ k = 1 ∨ k = 2 ∨ k = 3 ∨ k = 4 := by omega
    rcases hk5 with rfl | rfl | rfl | rfl | rfl
    · go_wp2
      go_round
      case rel => exact ⟨1, by decide, rfl, rfl⟩
      case measure => decide
    · go_wp2
      go_round
      case rel => exact ⟨2, by decide, rfl, rfl⟩
      case measure => decide
    · go_wp2
      go_round
      case rel => exact ⟨3, by decide, rfl, rfl⟩
      case measure => decide
    · go_wp2
      go_round
      case rel => exact ⟨4, by decide, rfl, rfl⟩
      case measure => decide
    · go_wp2
      go_ret
      exact ⟨rfl, rfl⟩
end Go.Proofs.YtpcjdllijkjdkaaDoor

