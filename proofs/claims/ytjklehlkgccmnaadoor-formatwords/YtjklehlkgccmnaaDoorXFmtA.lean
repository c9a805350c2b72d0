/- Contracts and laws: FmtA. -/
import Derived.Test.YtjklehlkgccmnaaDoorXFmtG
import Derived.Test.YtjklehlkgccmnaaDoorBaseH
/- Contracts: format.known, Of, Name. -/
set_option linter.unusedVariables false
set_option linter.unusedSimpArgs false
set_option maxRecDepth 8000
namespace Go.Proofs.YtjklehlkgccmnaaDoor
open Go.RowKit Plain

theorem known_yes (f : Int) (h1 : 1 ≤ f) (h2 : f ≤ 4) (w : World) : Calls Tryd.prog 51 #[.int .i64 f] w fun e w' => e = .returned (.bool true) ∧ w' = w := by
  go_enter Tryd.func51, Tryd.ntmps51
  go_wp2
  go_ret
  exact ⟨rfl, rfl⟩
theorem known_no (f : Int) (h : f < 1 ∨ 4 < f) (w : World) : Calls Tryd.prog 51 #[.int .i64 f] w fun e w' => e = .returned (.bool false) ∧ w' = w := by
  by_cases h1 : 1 ≤ f
  · have h2 : ¬ f ≤ 4 := by omega
    clear h
    go_enter Tryd.func51, Tryd.ntmps51
    go_wp2
    go_ret
    exact ⟨rfl, rfl⟩
  · clear h
    go_enter Tryd.func51, Tryd.ntmps51
    go_wp2
    go_ret
    exact ⟨rfl, rfl⟩

set_option maxHeartbeats 1000000 in
theorem of_none (f : Int) (h : f < 1 ∨ 4 < f) (w : World) : Calls Tryd.prog 10 #[.int .i64 f] w fun e w' => e = .returned (.tuple #[.agg #[.int .i64 0, .int .i64 0, .int .i64 0, .int .i64 0, .int .i64 0], .bool false]) ∧ Below w.heap.size w w' := by
  have HK := hide (fun w => known_no f h w)
  have HB := hide (below_allocs w (.cells #[.int .i64 0, .int .i64 0, .int .i64 0, .int .i64 0, .int .i64 0] 23))
  clear h
  go_enter Tryd.func10, Tryd.ntmps10
  go_wp2_with (go_at_call 51; refine (HK.out _).mono ?_; rintro e w' ⟨rfl, hw⟩; subst w')
  exact bodyPost_ret (v := .tuple #[.agg #[.int .i64 0, .int .i64 0, .int .i64 0, .int .i64 0, .int .i64 0], .bool false]) (by simp [results, Tryd.results10, go_sem]) rfl ⟨rfl, HB.out⟩
theorem name_none (f : Int) (h : f < 1 ∨ 4 < f) (w : World) : Calls Tryd.prog 12 #[.int .i64 f] w fun e w' => e = .returned (.string ⟨#[]⟩) ∧ w' = w := by
  have HK := hide (fun w => known_no f h w)
  clear h
  go_enter Tryd.func12, Tryd.ntmps12
  go_wp2_with (go_at_call 51; refine (HK.out _).mono ?_; rintro e w' ⟨rfl, hw⟩; subst w')
  go_ret
  exact ⟨rfl, rfl⟩

set_option maxHeartbeats 1000000 in
theorem of_1 (w : World) (hg : FmtG w) : Calls Tryd.prog 10 #[.int .i64 1] w fun e w' => e = .returned (.tuple #[.agg #[.int .i64 16, .int .i64 11, .int .i64 15, .int .i64 (-14), .int .i64 5], .bool true]) ∧ Below w.heap.size w w' := by
  have HK := hide (fun w => known_yes 1 (by decide) (by decide) w)
  have HB := hide (below_allocs w (.cells #[.int .i64 0, .int .i64 0, .int .i64 0, .int .i64 0, .int .i64 0] 23))
  have hg2 := hg.below HB.out
  have c0 : (w.alloc (.cells #[.int .i64 0, .int .i64 0, .int .i64 0, .int .i64 0, .int .i64 0] 23)).cell? ⟨0, 0, none⟩ = some (.int .i64 16) := hg2.c 0 (by decide)
  have c1 : (w.alloc (.cells #[.int .i64 0, .int .i64 0, .int .i64 0, .int .i64 0, .int .i64 0] 23)).cell? ⟨0, 1, none⟩ = some (.int .i64 11) := hg2.c 1 (by decide)
  have c2 : (w.alloc (.cells #[.int .i64 0, .int .i64 0, .int .i64 0, .int .i64 0, .int .i64 0] 23)).cell? ⟨0, 2, none⟩ = some (.int .i64 15) := hg2.c 2 (by decide)
  have c3 : (w.alloc (.cells #[.int .i64 0, .int .i64 0, .int .i64 0, .int .i64 0, .int .i64 0] 23)).cell? ⟨0, 3, none⟩ = some (.int .i64 (-14)) := hg2.c 3 (by decide)
  have c4 : (w.alloc (.cells #[.int .i64 0, .int .i64 0, .int .i64 0, .int .i64 0, .int .i64 0] 23)).cell? ⟨0, 4, none⟩ = some (.int .i64 5) := hg2.c 4 (by decide)
  have hlt := hg.lt
  have hne : (0 : Nat) ≠ w.heap.size := by omega
  clear hg hg2
  go_enter Tryd.func10, Tryd.ntmps10
  go_wp2_with (go_at_call 51; refine (HK.out _).mono ?_; rintro e w' ⟨rfl, hw⟩; subst w')
  exact bodyPost_ret (v := .tuple #[.agg #[.int .i64 16, .int .i64 11, .int .i64 15, .int .i64 (-14), .int .i64 5], .bool true]) (by simp [results, Tryd.results10, go_sem]) rfl ⟨rfl, below_allocs w _⟩
theorem name_1 (w : World) (hg : NamG w) : Calls Tryd.prog 12 #[.int .i64 1] w fun e w' => e = .returned (.string ⟨#[98, 105, 110, 97, 114, 121, 49, 54]⟩) ∧ w' = w := by
  have HK := hide (fun w => known_yes 1 (by decide) (by decide) w)
  have c : w.cell? ⟨1, 0, none⟩ = some (.string ⟨#[98, 105, 110, 97, 114, 121, 49, 54]⟩) := hg.c 0 (by decide)
  have hlt := hg.lt
  clear hg
  go_enter Tryd.func12, Tryd.ntmps12
  go_wp2_with (go_at_call 51; refine (HK.out _).mono ?_; rintro e w' ⟨rfl, hw⟩; subst w')
  go_ret
  exact ⟨rfl, rfl⟩

set_option maxHeartbeats 1000000 in
theorem of_2 (w : World) (hg : FmtG w) : Calls Tryd.prog 10 #[.int .i64 2] w fun e w' => e = .returned (.tuple #[.agg #[.int .i64 32, .int .i64 24, .int .i64 127, .int .i64 (-126), .int .i64 8], .bool true]) ∧ Below w.heap.size w w' := by
  have HK := hide (fun w => known_yes 2 (by decide) (by decide) w)
  have HB := hide (below_allocs w (.cells #[.int .i64 0, .int .i64 0, .int .i64 0, .int .i64 0, .int .i64 0] 23))
  have hg2 := hg.below HB.out
  have c0 : (w.alloc (.cells #[.int .i64 0, .int .i64 0, .int .i64 0, .int .i64 0, .int .i64 0] 23)).cell? ⟨0, 5, none⟩ = some (.int .i64 32) := hg2.c 5 (by decide)
  have c1 : (w.alloc (.cells #[.int .i64 0, .int .i64 0, .int .i64 0, .int .i64 0, .int .i64 0] 23)).cell? ⟨0, 6, none⟩ = some (.int .i64 24) := hg2.c 6 (by decide)
  have c2 : (w.alloc (.cells #[.int .i64 0, .int .i64 0, .int .i64 0, .int .i64 0, .int .i64 0] 23)).cell? ⟨0, 7, none⟩ = some (.int .i64 127) := hg2.c 7 (by decide)
  have c3 : (w.alloc (.cells #[.int .i64 0, .int .i64 0, .int .i64 0, .int .i64 0, .int .i64 0] 23)).cell? ⟨0, 8, none⟩ = some (.int .i64 (-126)) := hg2.c 8 (by decide)
  have c4 : (w.alloc (.cells #[.int .i64 0, .int .i64 0, .int .i64 0, .int .i64 0, .int .i64 0] 23)).cell? ⟨0, 9, none⟩ = some (.int .i64 8) := hg2.c 9 (by decide)
  have hlt := hg.lt
  have hne : (0 : Nat) ≠ w.heap.size := by omega
  clear hg hg2
  go_enter Tryd.func10, Tryd.ntmps10
  go_wp2_with (go_at_call 51; refine (HK.out _).mono ?_; rintro e w' ⟨rfl, hw⟩; subst w')
  exact bodyPost_ret (v := .tuple #[.agg #[.int .i64 32, .int .i64 24, .int .i64 127, .int .i64 (-126), .int .i64 8], .bool true]) (by simp [results, Tryd.results10, go_sem]) rfl ⟨rfl, below_allocs w _⟩
theorem name_2 (w : World) (hg : NamG w) : Calls Tryd.prog 12 #[.int .i64 2] w fun e w' => e = .returned (.string ⟨#[98, 105, 110, 97, 114, 121, 51, 50]⟩) ∧ w' = w := by
  have HK := hide (fun w => known_yes 2 (by decide) (by decide) w)
  have c : w.cell? ⟨1, 1, none⟩ = some (.string ⟨#[98, 105, 110, 97, 114, 121, 51, 50]⟩) := hg.c 1 (by decide)
  have hlt := hg.lt
  clear hg
  go_enter Tryd.func12, Tryd.ntmps12
  go_wp2_with (go_at_call 51; refine (HK.out _).mono ?_; rintro e w' ⟨rfl, hw⟩; subst w')
  go_ret
  exact ⟨rfl, rfl⟩

set_option maxHeartbeats 1000000 in
theorem of_3 (w : World) (hg : FmtG w) : Calls Tryd.prog 10 #[.int .i64 3] w fun e w' => e = .returned (.tuple #[.agg #[.int .i64 64, .int .i64 53, .int .i64 1023, .int .i64 (-1022), .int .i64 11], .bool true]) ∧ Below w.heap.size w w' := by
  have HK := hide (fun w => known_yes 3 (by decide) (by decide) w)
  have HB := hide (below_allocs w (.cells #[.int .i64 0, .int .i64 0, .int .i64 0, .int .i64 0, .int .i64 0] 23))
  have hg2 := hg.below HB.out
  have c0 : (w.alloc (.cells #[.int .i64 0, .int .i64 0, .int .i64 0, .int .i64 0, .int .i64 0] 23)).cell? ⟨0, 10, none⟩ = some (.int .i64 64) := hg2.c 10 (by decide)
  have c1 : (w.alloc (.cells #[.int .i64 0, .int .i64 0, .int .i64 0, .int .i64 0, .int .i64 0] 23)).cell? ⟨0, 11, none⟩ = some (.int .i64 53) := hg2.c 11 (by decide)
  have c2 : (w.alloc (.cells #[.int .i64 0, .int .i64 0, .int .i64 0, .int .i64 0, .int .i64 0] 23)).cell? ⟨0, 12, none⟩ = some (.int .i64 1023) := hg2.c 12 (by decide)
  have c3 : (w.alloc (.cells #[.int .i64 0, .int .i64 0, .int .i64 0, .int .i64 0, .int .i64 0] 23)).cell? ⟨0, 13, none⟩ = some (.int .i64 (-1022)) := hg2.c 13 (by decide)
  have c4 : (w.alloc (.cells #[.int .i64 0, .int .i64 0, .int .i64 0, .int .i64 0, .int .i64 0] 23)).cell? ⟨0, 14, none⟩ = some (.int .i64 11) := hg2.c 14 (by decide)
  have hlt := hg.lt
  have hne : (0 : Nat) ≠ w.heap.size := by omega
  clear hg hg2
  go_enter Tryd.func10, Tryd.ntmps10
  go_wp2_with (go_at_call 51; refine (HK.out _).mono ?_; rintro e w' ⟨rfl, hw⟩; subst w')
  exact bodyPost_ret (v := .tuple #[.agg #[.int .i64 64, .int .i64 53, .int .i64 1023, .int .i64 (-1022), .int .i64 11], .bool true]) (by simp [results, Tryd.results10, go_sem]) rfl ⟨rfl, below_allocs w _⟩
theorem name_3 (w : World) (hg : NamG w) : Calls Tryd.prog 12 #[.int .i64 3] w fun e w' => e = .returned (.string ⟨#[98, 105, 110, 97, 114, 121, 54, 52]⟩) ∧ w' = w := by
  have HK := hide (fun w => known_yes 3 (by decide) (by decide) w)
  have c : w.cell? ⟨1, 2, none⟩ = some (.string ⟨#[98, 105, 110, 97, 114, 121, 54, 52]⟩) := hg.c 2 (by decide)
  have hlt := hg.lt
  clear hg
  go_enter Tryd.func12, Tryd.ntmps12
  go_wp2_with (go_at_call 51; refine (HK.out _).mono ?_; rintro e w' ⟨rfl, hw⟩; subst w')
  go_ret
  exact ⟨rfl, rfl⟩

set_option maxHeartbeats 1000000 in
theorem of_4 (w : World) (hg : FmtG w) : Calls Tryd.prog 10 #[.int .i64 4] w fun e w' => e = .returned (.tuple #[.agg #[.int .i64 128, .int .i64 113, .int .i64 16383, .int .i64 (-16382), .int .i64 15], .bool true]) ∧ Below w.heap.size w w' := by
  have HK := hide (fun w => known_yes 4 (by decide) (by decide) w)
  have HB := hide (below_allocs w (.cells #[.int .i64 0, .int .i64 0, .int .i64 0, .int .i64 0, .int .i64 0] 23))
  have hg2 := hg.below HB.out
  have c0 : (w.alloc (.cells #[.int .i64 0, .int .i64 0, .int .i64 0, .int .i64 0, .int .i64 0] 23)).cell? ⟨0, 15, none⟩ = some (.int .i64 128) := hg2.c 15 (by decide)
  have c1 : (w.alloc (.cells #[.int .i64 0, .int .i64 0, .int .i64 0, .int .i64 0, .int .i64 0] 23)).cell? ⟨0, 16, none⟩ = some (.int .i64 113) := hg2.c 16 (by decide)
  have c2 : (w.alloc (.cells #[.int .i64 0, .int .i64 0, .int .i64 0, .int .i64 0, .int .i64 0] 23)).cell? ⟨0, 17, none⟩ = some (.int .i64 16383) := hg2.c 17 (by decide)
  have c3 : (w.alloc (.cells #[.int .i64 0, .int .i64 0, .int .i64 0, .int .i64 0, .int .i64 0] 23)).cell? ⟨0, 18, none⟩ = some (.int .i64 (-16382)) := hg2.c 18 (by decide)
  have c4 : (w.alloc (.cells #[.int .i64 0, .int .i64 0, .int .i64 0, .int .i64 0, .int .i64 0] 23)).cell? ⟨0, 19, none⟩ = some (.int .i64 15) := hg2.c 19 (by decide)
  have hlt := hg.lt
  have hne : (0 : Nat) ≠ w.heap.size := by omega
  clear hg hg2
  go_enter Tryd.func10, Tryd.ntmps10
  go_wp2_with (go_at_call 51; refine (HK.out _).mono ?_; rintro e w' ⟨rfl, hw⟩; subst w')
  exact bodyPost_ret (v := .tuple #[.agg #[.int .i64 128, .int .i64 113, .int .i64 16383, .int .i64 (-16382), .int .i64 15], .bool true]) (by simp [results, Tryd.results10, go_sem]) rfl ⟨rfl, below_allocs w _⟩
theorem name_4 (w : World) (hg : NamG w) : Calls Tryd.prog 12 #[.int .i64 4] w fun e w' => e = .returned (.string ⟨#[98, 105, 110, 97, 114, 121, 49, 50, 56]⟩) ∧ w' = w := by
  have HK := hide (fun w => known_yes 4 (by decide) (by decide) w)
  have c : w.cell? ⟨1, 3, none⟩ = some (.string ⟨#[98, 105, 110, 97, 114, 121, 49, 50, 56]⟩) := hg.c 3 (by decide)
  have hlt := hg.lt
  clear hg
  go_enter Tryd.func12, Tryd.ntmps12
  go_wp2_with (go_at_call 51; refine (HK.out _).mono ?_; rintro e w' ⟨rfl, hw⟩; subst w')
  go_ret
  exact ⟨rfl, rfl⟩
theorem nameAt_1 (w : World) : (Instr.index 61 (.agg #[.string ⟨#[98, 105, 110, 97, 114, 121, 49, 54]⟩, .string ⟨#[98, 105, 110, 97, 114, 121, 51, 50]⟩, .string ⟨#[98, 105, 110, 97, 114, 121, 54, 52]⟩, .string ⟨#[98, 105, 110, 97, 114, 121, 49, 50, 56]⟩]) (.int .i64 0)).run Tryd.prog w = .ok (.string ⟨#[98, 105, 110, 97, 114, 121, 49, 54]⟩) w := by kernel_rfl
theorem nameAt_2 (w : World) : (Instr.index 61 (.agg #[.string ⟨#[98, 105, 110, 97, 114, 121, 49, 54]⟩, .string ⟨#[98, 105, 110, 97, 114, 121, 51, 50]⟩, .string ⟨#[98, 105, 110, 97, 114, 121, 54, 52]⟩, .string ⟨#[98, 105, 110, 97, 114, 121, 49, 50, 56]⟩]) (.int .i64 1)).run Tryd.prog w = .ok (.string ⟨#[98, 105, 110, 97, 114, 121, 51, 50]⟩) w := by kernel_rfl
theorem nameAt_3 (w : World) : (Instr.index 61 (.agg #[.string ⟨#[98, 105, 110, 97, 114, 121, 49, 54]⟩, .string ⟨#[98, 105, 110, 97, 114, 121, 51, 50]⟩, .string ⟨#[98, 105, 110, 97, 114, 121, 54, 52]⟩, .string ⟨#[98, 105, 110, 97, 114, 121, 49, 50, 56]⟩]) (.int .i64 2)).run Tryd.prog w = .ok (.string ⟨#[98, 105, 110, 97, 114, 121, 54, 52]⟩) w := by kernel_rfl
theorem nameAt_4 (w : World) : (Instr.index 61 (.agg #[.string ⟨#[98, 105, 110, 97, 114, 121, 49, 54]⟩, .string ⟨#[98, 105, 110, 97, 114, 121, 51, 50]⟩, .string ⟨#[98, 105, 110, 97, 114, 121, 54, 52]⟩, .string ⟨#[98, 105, 110, 97, 114, 121, 49, 50, 56]⟩]) (.int .i64 3)).run Tryd.prog w = .ok (.string ⟨#[98, 105, 110, 97, 114, 121, 49, 50, 56]⟩) w := by kernel_rfl

set_option maxHeartbeats 1000000 in
theorem byName_1 (s : ByteArray) (e1 : ([98, 105, 110, 97, 114, 121, 49, 54] == s.toList) = true) (w : World) (hg : NamG w) : Calls Tryd.prog 14 #[.string s] w fun e w' => e = .returned (.tuple #[.int .i64 1, .bool true]) ∧ w' = w := by
  have c0 : w.cell? ⟨1, 0, none⟩ = some (.string ⟨#[98, 105, 110, 97, 114, 121, 49, 54]⟩) := hg.c 0 (by decide)
  have c1 : w.cell? ⟨1, 1, none⟩ = some (.string ⟨#[98, 105, 110, 97, 114, 121, 51, 50]⟩) := hg.c 1 (by decide)
  have c2 : w.cell? ⟨1, 2, none⟩ = some (.string ⟨#[98, 105, 110, 97, 114, 121, 54, 52]⟩) := hg.c 2 (by decide)
  have c3 : w.cell? ⟨1, 3, none⟩ = some (.string ⟨#[98, 105, 110, 97, 114, 121, 49, 50, 56]⟩) := hg.c 3 (by decide)
  have hlt := hg.lt
  have x0 := fun w => nameAt_1 w
  have x1 := fun w => nameAt_2 w
  have x2 := fun w => nameAt_3 w
  have x3 := fun w => nameAt_4 w
  clear hg
  go_enter Tryd.func14, Tryd.ntmps14
  go_wp2
  go_loop [7] (fun i => ∃ k : Nat, k ≤ 0 ∧ i = .int .i64 k) (fun i => 0 - (intOf i).toNat)
  case atStart => exact ⟨0, by decide, rfl⟩
  case round =>
    obtain ⟨k, hk, rfl⟩ := hrel
    have hk5 : k = 0 := by omega
    clear c0 c1 c2 c3 hlt
    subst hk5
    · go_wp2
      exact bodyPost_ret (v := .tuple #[.int .i64 1, .bool true]) (by simp [results, Tryd.results14, go_sem]) rfl ⟨rfl, rfl⟩

set_option maxHeartbeats 1000000 in
theorem byName_2 (s : ByteArray) (e1 : ([98, 105, 110, 97, 114, 121, 49, 54] == s.toList) = false) (e2 : ([98, 105, 110, 97, 114, 121, 51, 50] == s.toList) = true) (w : World) (hg : NamG w) : Calls Tryd.prog 14 #[.string s] w fun e w' => e = .returned (.tuple #[.int .i64 2, .bool true]) ∧ w' = w := by
  have c0 : w.cell? ⟨1, 0, none⟩ = some (.string ⟨#[98, 105, 110, 97, 114, 121, 49, 54]⟩) := hg.c 0 (by decide)
  have c1 : w.cell? ⟨1, 1, none⟩ = some (.string ⟨#[98, 105, 110, 97, 114, 121, 51, 50]⟩) := hg.c 1 (by decide)
  have c2 : w.cell? ⟨1, 2, none⟩ = some (.string ⟨#[98, 105, 110, 97, 114, 121, 54, 52]⟩) := hg.c 2 (by decide)
  have c3 : w.cell? ⟨1, 3, none⟩ = some (.string ⟨#[98, 105, 110, 97, 114, 121, 49, 50, 56]⟩) := hg.c 3 (by decide)
  have hlt := hg.lt
  have x0 := fun w => nameAt_1 w
  have x1 := fun w => nameAt_2 w
  have x2 := fun w => nameAt_3 w
  have x3 := fun w => nameAt_4 w
  clear hg
  go_enter Tryd.func14, Tryd.ntmps14
  go_wp2
  go_loop [7] (fun i => ∃ k : Nat, k ≤ 1 ∧ i = .int .i64 k) (fun i => 1 - (intOf i).toNat)
  case atStart => exact ⟨0, by decide, rfl⟩
  case round =>
    obtain ⟨k, hk, rfl⟩ := hrel
    have hk5 : k = 0 ∨ k = 1 := by omega
    clear c0 c1 c2 c3 hlt
    rcases hk5 with rfl | rfl
    · go_wp2
      go_round
      case rel => exact ⟨1, by decide, rfl⟩
      case measure => decide
    · go_wp2
      exact bodyPost_ret (v := .tuple #[.int .i64 2, .bool true]) (by simp [results, Tryd.results14, go_sem]) rfl ⟨rfl, rfl⟩

set_option maxHeartbeats 1000000 in
theorem byName_3 (s : ByteArray) (e1 : ([98, 105, 110, 97, 114, 121, 49, 54] == s.toList) = false) (e2 : ([98, 105, 110, 97, 114, 121, 51, 50] == s.toList) = false) (e3 : ([98, 105, 110, 97, 114, 121, 54, 52] == s.toList) = true) (w : World) (hg : NamG w) : Calls Tryd.prog 14 #[.string s] w fun e w' => e = .returned (.tuple #[.int .i64 3, .bool true]) ∧ w' = w := by
  have c0 : w.cell? ⟨1, 0, none⟩ = some (.string ⟨#[98, 105, 110, 97, 114, 121, 49, 54]⟩) := hg.c 0 (by decide)
  have c1 : w.cell? ⟨1, 1, none⟩ = some (.string ⟨#[98, 105, 110, 97, 114, 121, 51, 50]⟩) := hg.c 1 (by decide)
  have c2 : w.cell? ⟨1, 2, none⟩ = some (.string ⟨#[98, 105, 110, 97, 114, 121, 54, 52]⟩) := hg.c 2 (by decide)
  have c3 : w.cell? ⟨1, 3, none⟩ = some (.string ⟨#[98, 105, 110, 97, 114, 121, 49, 50, 56]⟩) := hg.c 3 (by decide)
  have hlt := hg.lt
  have x0 := fun w => nameAt_1 w
  have x1 := fun w => nameAt_2 w
  have x2 := fun w => nameAt_3 w
  have x3 := fun w => nameAt_4 w
  clear hg
  go_enter Tryd.func14, Tryd.ntmps14
  go_wp2
  go_loop [7] (fun i => ∃ k : Nat, k ≤ 2 ∧ i = .int .i64 k) (fun i => 2 - (intOf i).toNat)
  case atStart => exact ⟨0, by decide, rfl⟩
  case round =>
    obtain ⟨k, hk, rfl⟩ := hrel
    have hk5 : k = 0 ∨ k = 1 ∨ k = 2 := by omega
    clear c0 c1 c2 c3 hlt
    rcases hk5 with rfl | rfl | rfl
    · go_wp2
      go_round
      case rel => exact ⟨1, by decide, rfl⟩
      case measure => decide
    · go_wp2
      go_round
      case rel => exact ⟨2, by decide, rfl⟩
      case measure => decide
    · go_wp2
      exact bodyPost_ret (v := .tuple #[.int .i64 3, .bool true]) (by simp [results, Tryd.results14, go_sem]) rfl ⟨rfl, rfl⟩

set_option maxHeartbeats 1000000 in
theorem byName_4 (s : ByteArray) (e1 : ([98, 105, 110, 97, 114, 121, 49, 54] == s.toList) = false) (e2 : ([98, 105, 110, 97, 114, 121, 51, 50] == s.toList) = false) (e3 : ([98, 105, 110, 97, 114, 121, 54, 52] == s.toList) = false) (e4 : ([98, 105, 110, 97, 114, 121, 49, 50, 56] == s.toList) = true) (w : World) (hg : NamG w) : Calls Tryd.prog 14 #[.string s] w fun e w' => e = .returned (.tuple #[.int .i64 4, .bool true]) ∧ w' = w := by
  have c0 : w.cell? ⟨1, 0, none⟩ = some (.string ⟨#[98, 105, 110, 97, 114, 121, 49, 54]⟩) := hg.c 0 (by decide)
  have c1 : w.cell? ⟨1, 1, none⟩ = some (.string ⟨#[98, 105, 110, 97, 114, 121, 51, 50]⟩) := hg.c 1 (by decide)
  have c2 : w.cell? ⟨1, 2, none⟩ = some (.string ⟨#[98, 105, 110, 97, 114, 121, 54, 52]⟩) := hg.c 2 (by decide)
  have c3 : w.cell? ⟨1, 3, none⟩ = some (.string ⟨#[98, 105, 110, 97, 114, 121, 49, 50, 56]⟩) := hg.c 3 (by decide)
  have hlt := hg.lt
  have x0 := fun w => nameAt_1 w
  have x1 := fun w => nameAt_2 w
  have x2 := fun w => nameAt_3 w
  have x3 := fun w => nameAt_4 w
  clear hg
  go_enter Tryd.func14, Tryd.ntmps14
  go_wp2
  go_loop [7] (fun i => ∃ k : Nat, k ≤ 3 ∧ i = .int .i64 k) (fun i => 3 - (intOf i).toNat)
  case atStart => exact ⟨0, by decide, rfl⟩
  case round =>
    obtain ⟨k, hk, rfl⟩ := hrel
    have hk5 : k = 0 ∨ k = 1 ∨ k = 2 ∨ k = 3 := by omega
    clear c0 c1 c2 c3 hlt
    rcases hk5 with rfl | rfl | rfl | rfl
    · go_wp2
      go_round
      case rel => exact ⟨1, by decide, rfl⟩
      case measure => decide
    · go_wp2
      go_round
      case rel => exact ⟨2, by decide, rfl⟩
      case measure => decide
    · go_wp2
      go_round
      case rel => exact ⟨3, by decide, rfl⟩
      case measure => decide
    · go_wp2
      exact bodyPost_ret (v := .tuple #[.int .i64 4, .bool true]) (by simp [results, Tryd.results14, go_sem]) rfl ⟨rfl, rfl⟩

set_option maxHeartbeats 1000000 in
theorem byName_5 (s : ByteArray) (e1 : ([98, 105, 110, 97, 114, 121, 49, 54] == s.toList) = false) (e2 : ([98, 105, 110, 97, 114, 121, 51, 50] == s.toList) = false) (e3 : ([98, 105, 110, 97, 114, 121, 54, 52] == s.toList) = false) (e4 : ([98, 105, 110, 97, 114, 121, 49, 50, 56] == s.toList) = false) (w : World) (hg : NamG w) : Calls Tryd.prog 14 #[.string s] w fun e w' => e = .returned (.tuple #[.int .i64 0, .bool false]) ∧ w' = w := by
  have c0 : w.cell? ⟨1, 0, none⟩ = some (.string ⟨#[98, 105, 110, 97, 114, 121, 49, 54]⟩) := hg.c 0 (by decide)
  have c1 : w.cell? ⟨1, 1, none⟩ = some (.string ⟨#[98, 105, 110, 97, 114, 121, 51, 50]⟩) := hg.c 1 (by decide)
  have c2 : w.cell? ⟨1, 2, none⟩ = some (.string ⟨#[98, 105, 110, 97, 114, 121, 54, 52]⟩) := hg.c 2 (by decide)
  have c3 : w.cell? ⟨1, 3, none⟩ = some (.string ⟨#[98, 105, 110, 97, 114, 121, 49, 50, 56]⟩) := hg.c 3 (by decide)
  have hlt := hg.lt
  have x0 := fun w => nameAt_1 w
  have x1 := fun w => nameAt_2 w
  have x2 := fun w => nameAt_3 w
  have x3 := fun w => nameAt_4 w
  clear hg
  go_enter Tryd.func14, Tryd.ntmps14
  go_wp2
  go_loop [7] (fun i => ∃ k : Nat, k ≤ 4 ∧ i = .int .i64 k) (fun i => 4 - (intOf i).toNat)
  case atStart => exact ⟨0, by decide, rfl⟩
  case round =>
    obtain ⟨k, hk, rfl⟩ := hrel
    have hk5 : k = 0 ∨ k = 1 ∨ k = 2 ∨ k = 3 ∨ k = 4 := by omega
    clear c0 c1 c2 c3 hlt
    rcases hk5 with rfl | rfl | rfl | rfl | rfl
    · go_wp2
      go_round
      case rel => exact ⟨1, by decide, rfl⟩
      case measure => decide
    · go_wp2
      go_round
      case rel => exact ⟨2, by decide, rfl⟩
      case measure => decide
    · go_wp2
      go_round
      case rel => exact ⟨3, by decide, rfl⟩
      case measure => decide
    · go_wp2
      go_round
      case rel => exact ⟨4, by decide, rfl⟩
      case measure => decide
    · go_wp2
      exact bodyPost_ret (v := .tuple #[.int .i64 0, .bool false]) (by simp [results, Tryd.results14, go_sem]) rfl ⟨rfl, rfl⟩

end Go.Proofs.YtjklehlkgccmnaaDoor

