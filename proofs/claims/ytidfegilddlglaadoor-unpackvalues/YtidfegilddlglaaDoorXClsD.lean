/- Contracts and laws: ClsD. -/
import Derived.Test.YtidfegilddlglaaDoorXClsC
/- Contracts: class.Of with its numbers, Neg, Field; law06.awake. -/
set_option linter.unusedVariables false
set_option linter.unusedSimpArgs false
set_option maxRecDepth 8000
namespace Go.Proofs.YtidfegilddlglaaDoor
open Go.RowKit Plain

/-- The class of a field and a fraction. -/
def clsP (P F fd r : Nat) : Nat := if fd = 2 ^ F - 1 then (if r = 0 then 3 else if r / 2 ^ (P - 2) % 2 = 1 then 2 else 1) else if fd = 0 then (if r = 0 then 6 else 5) else 4
/-- The class of a word's number. -/
def clsN (B P F a : Nat) : Nat := if a < 2 ^ B then clsP P F (a / 2 ^ (P - 1) % 2 ^ F) (a % 2 ^ (P - 1)) else 0
def fldN (B P F a : Nat) : Nat := if a < 2 ^ B then a / 2 ^ (P - 1) % 2 ^ F else 0
def negN (B a : Nat) : Bool := decide (a < 2 ^ B) && (a / 2 ^ (B - 1) % 2 == 1)

theorem ofC1_any (P F : Nat) (k : Nat → Int) (ng : Bool) (fd r : Nat) (hr : r < QQ) (hP : 2 ≤ P ∧ P ≤ 200) (hk : k 1 = (P : Int)) (hF : F ≤ 20) (hfd : fd < 2 ^ F)
    (HON : Hid (∀ w, Calls Tryd.prog 52 #[.agg #[.int .i64 (k 0), .int .i64 (k 1), .int .i64 (k 2), .int .i64 (k 3), .int .i64 (k 4)]] w fun e w' => e = .returned (.int .i64 ((2 ^ F - 1 : Nat) : Int)) ∧ Below w.heap.size w w')) (w : World) :
    Calls Tryd.prog 51 #[.agg #[.int .i64 (k 0), .int .i64 (k 1), .int .i64 (k 2), .int .i64 (k 3), .int .i64 (k 4)], .agg #[.bool ng, .int .i64 ((fd : Nat)), .int .u64 (dgl r 0 : Nat), .int .u64 (dgl r 1 : Nat), .int .u64 (dgl r 2 : Nat), .int .u64 (dgl r 3 : Nat), .int .u64 (dgl r 4 : Nat), .int .u64 (dgl r 5 : Nat), .int .u64 (dgl r 6 : Nat), .int .u64 (dgl r 7 : Nat)]] w fun e w' => e = .returned (.int .i64 ((clsP P F fd r : Nat) : Int)) ∧ Below w.heap.size w w' := by
  have hp2 := Nat.two_pow_pos F
  have hw1 : IntKind.i64.wrap (k 1 - 2) = k 1 - 2 := by rw [hk, IntKind.wrap_i64]; omega
  by_cases h1 : fd = 2 ^ F - 1
  · have HEQ : Hid (((fd : Int) == ((2 ^ F - 1 : Nat) : Int)) = true) := by unfold Hid; rw [beq_iff_eq, h1]
    by_cases h0 : r = 0
    · rw [show clsP P F fd r = 3 by unfold clsP; rw [if_pos h1, if_pos h0]]
      exact of1_inf k ng fd r _ hr h0 HEQ HON w
    · have hb := fun w => wideBit_any r (k 1 - 2) hr (by omega) (by omega) w
      rw [show (k 1 - 2).toNat = P - 2 by omega] at hb
      by_cases h2 : r / 2 ^ (P - 2) % 2 = 1
      · rw [show clsP P F fd r = 2 by unfold clsP; rw [if_pos h1, if_neg h0, if_pos h2]]
        rw [show (r / 2 ^ (P - 2) % 2 == 1) = true by rw [beq_iff_eq]; exact h2] at hb
        exact of1_quiet k ng fd r _ hr h0 HEQ hw1 hb HON w
      · rw [show clsP P F fd r = 1 by unfold clsP; rw [if_pos h1, if_neg h0, if_neg h2]]
        rw [show (r / 2 ^ (P - 2) % 2 == 1) = false by rw [beq_eq_false_iff_ne]; exact h2] at hb
        exact of1_sig k ng fd r _ hr h0 HEQ hw1 hb HON w
  · have HEQ : Hid (((fd : Int) == ((2 ^ F - 1 : Nat) : Int)) = false) := by unfold Hid; rw [beq_eq_false_iff_ne]; omega
    by_cases hf : fd = 0
    · have HF : Hid (((fd : Int) != 0) = false) := by unfold Hid; rw [bne_eq_false_iff_eq]; omega
      by_cases h0 : r = 0
      · rw [show clsP P F fd r = 6 by unfold clsP; rw [if_neg h1, if_pos hf, if_pos h0]]
        exact of1_zero k ng fd r _ hr h0 HF HEQ HON w
      · rw [show clsP P F fd r = 5 by unfold clsP; rw [if_neg h1, if_pos hf, if_neg h0]]
        exact of1_sub k ng fd r _ hr h0 HF HEQ HON w
    · have HF : Hid (((fd : Int) != 0) = true) := by unfold Hid; rw [bne_iff_ne]; omega
      rw [show clsP P F fd r = 4 by unfold clsP; rw [if_neg h1, if_neg hf]]
      by_cases h0 : r = 0
      · exact of1_norm0 k ng fd r _ hr h0 HF HEQ HON w
      · exact of1_norm k ng fd r _ hr h0 HF HEQ HON w

theorem negC1_any (k : Nat → Int) (ng : Bool) (fd r : Nat) (w : World) : Calls Tryd.prog 55 #[.agg #[.int .i64 (k 0), .int .i64 (k 1), .int .i64 (k 2), .int .i64 (k 3), .int .i64 (k 4)], .agg #[.bool ng, .int .i64 ((fd : Nat)), .int .u64 (dgl r 0 : Nat), .int .u64 (dgl r 1 : Nat), .int .u64 (dgl r 2 : Nat), .int .u64 (dgl r 3 : Nat), .int .u64 (dgl r 4 : Nat), .int .u64 (dgl r 5 : Nat), .int .u64 (dgl r 6 : Nat), .int .u64 (dgl r 7 : Nat)]] w fun e w' => e = .returned (.bool ng) ∧ Below w.heap.size w w' := by
  go_enter Tryd.func55, Tryd.ntmps55
  go_wp2
  go_ret
  exact ⟨rfl, below_trans (below_allocs _ _) (below_allocs _ _)⟩

theorem fieldC1_any (k : Nat → Int) (ng : Bool) (fd r : Nat) (w : World) : Calls Tryd.prog 57 #[.agg #[.int .i64 (k 0), .int .i64 (k 1), .int .i64 (k 2), .int .i64 (k 3), .int .i64 (k 4)], .agg #[.bool ng, .int .i64 ((fd : Nat)), .int .u64 (dgl r 0 : Nat), .int .u64 (dgl r 1 : Nat), .int .u64 (dgl r 2 : Nat), .int .u64 (dgl r 3 : Nat), .int .u64 (dgl r 4 : Nat), .int .u64 (dgl r 5 : Nat), .int .u64 (dgl r 6 : Nat), .int .u64 (dgl r 7 : Nat)]] w fun e w' => e = .returned (.int .i64 ((fd : Nat) : Int)) ∧ Below w.heap.size w w' := by
  go_enter Tryd.func57, Tryd.ntmps57
  go_wp2
  go_ret
  exact ⟨rfl, below_trans (below_allocs _ _) (below_allocs _ _)⟩

theorem cof_pass (f : Int) (hi lo : Nat) (x : Int) (HM : Hid (∀ w, FmtG w → Calls Tryd.prog 50 #[.int .i64 f, .agg #[.int .u64 (hi : Nat), .int .u64 (lo : Nat)], .func (.func 51) #[] #[]] w fun e w' => e = .returned (.int .i64 x) ∧ Below w.heap.size w w')) (w : World) (hg : FmtG w) :
    Calls Tryd.prog 13 #[.int .i64 f, .agg #[.int .u64 (hi : Nat), .int .u64 (lo : Nat)]] w fun e w' => e = .returned (.int .i64 x) ∧ Below w.heap.size w w' := by
  have HB0 := hide (below_allocs w (.cells #[.int .u64 (hi : Nat), .int .u64 (lo : Nat)] 24))
  have HG := hide (hg.below HB0.out)
  clear hg
  go_enter Tryd.func13, Tryd.ntmps13
  go_wp2_with fail
  refine (HM.out _ HG.out).mono ?_
  rintro e w1 ⟨rfl, hb1⟩
  have HB := hide (below_trans HB0.out hb1)
  clear hb1 HG HB0
  go_wp2
  go_ret
  exact ⟨rfl, HB.out⟩
theorem cof_none (f : Int) (h : f < 1 ∨ 4 < f) (hi lo : Nat) (w : World) (hg : FmtG w) : Calls Tryd.prog 13 #[.int .i64 f, .agg #[.int .u64 (hi : Nat), .int .u64 (lo : Nat)]] w fun e w' => e = .returned (.int .i64 0) ∧ Below w.heap.size w w' :=
  cof_pass f hi lo 0 (fun w hg => asked_int_no f hi lo _ (fun w hg => fits_none f h hi lo w) w hg) w hg
theorem cof_1 (hi lo : Nat) (hh : hi < 18446744073709551616) (hl : lo < 18446744073709551616) (w : World) (hg : FmtG w) : Calls Tryd.prog 13 #[.int .i64 1, .agg #[.int .u64 (hi : Nat), .int .u64 (lo : Nat)]] w fun e w' => e = .returned (.int .i64 ((clsN 16 11 5 (lo + 18446744073709551616 * hi) : Nat) : Int)) ∧ Below w.heap.size w w' := by
  refine cof_pass 1 hi lo _ (fun w hg => ?_) w hg
  have hQ := q200
  have hq : (lo + 18446744073709551616 * hi) < QQ := by omega
  by_cases h : (lo + 18446744073709551616 * hi) < 2 ^ 16
  · rw [show clsN 16 11 5 (lo + 18446744073709551616 * hi) = clsP 11 5 ((lo + 18446744073709551616 * hi) / 2 ^ 10 % 2 ^ 5) ((lo + 18446744073709551616 * hi) % 2 ^ 10) from by unfold clsN; rw [if_pos h]]
    exact asked_int 1 hi lo (lo + 18446744073709551616 * hi) _ _ _ (fun i => [16, 11, 15, -14, 5].getD i 0) 51 _ (enters_of Tryd.func51 (by kernel_rfl) rfl) (fun w hg => by have h1 := fits_1 hi lo hh hl w hg; rw [decide_eq_true h] at h1; exact h1) (fun w hg => of_1 w hg) (fun w => wideFrom_any hi lo hh hl w) (fun w => taken_1 _ h w) (fun w => ofC1_any 11 5 (fun i => [16, 11, 15, -14, 5].getD i 0) _ _ _ (Nat.lt_of_le_of_lt (Nat.mod_le _ _) hq) (by decide) rfl (by decide) (Nat.mod_lt _ (Nat.two_pow_pos _)) (fun w => ones_1 w) w) w hg
  · rw [show clsN 16 11 5 (lo + 18446744073709551616 * hi) = 0 from by unfold clsN; rw [if_neg h]]
    exact asked_int_no 1 hi lo _ (fun w hg => by have h1 := fits_1 hi lo hh hl w hg; rw [decide_eq_false h] at h1; exact h1) w hg
theorem cof_2 (hi lo : Nat) (hh : hi < 18446744073709551616) (hl : lo < 18446744073709551616) (w : World) (hg : FmtG w) : Calls Tryd.prog 13 #[.int .i64 2, .agg #[.int .u64 (hi : Nat), .int .u64 (lo : Nat)]] w fun e w' => e = .returned (.int .i64 ((clsN 32 24 8 (lo + 18446744073709551616 * hi) : Nat) : Int)) ∧ Below w.heap.size w w' := by
  refine cof_pass 2 hi lo _ (fun w hg => ?_) w hg
  have hQ := q200
  have hq : (lo + 18446744073709551616 * hi) < QQ := by omega
  by_cases h : (lo + 18446744073709551616 * hi) < 2 ^ 32
  · rw [show clsN 32 24 8 (lo + 18446744073709551616 * hi) = clsP 24 8 ((lo + 18446744073709551616 * hi) / 2 ^ 23 % 2 ^ 8) ((lo + 18446744073709551616 * hi) % 2 ^ 23) from by unfold clsN; rw [if_pos h]]
    exact asked_int 2 hi lo (lo + 18446744073709551616 * hi) _ _ _ (fun i => [32, 24, 127, -126, 8].getD i 0) 51 _ (enters_of Tryd.func51 (by kernel_rfl) rfl) (fun w hg => by have h1 := fits_2 hi lo hh hl w hg; rw [decide_eq_true h] at h1; exact h1) (fun w hg => of_2 w hg) (fun w => wideFrom_any hi lo hh hl w) (fun w => taken_2 _ h w) (fun w => ofC1_any 24 8 (fun i => [32, 24, 127, -126, 8].getD i 0) _ _ _ (Nat.lt_of_le_of_lt (Nat.mod_le _ _) hq) (by decide) rfl (by decide) (Nat.mod_lt _ (Nat.two_pow_pos _)) (fun w => ones_2 w) w) w hg
  · rw [show clsN 32 24 8 (lo + 18446744073709551616 * hi) = 0 from by unfold clsN; rw [if_neg h]]
    exact asked_int_no 2 hi lo _ (fun w hg => by have h1 := fits_2 hi lo hh hl w hg; rw [decide_eq_false h] at h1; exact h1) w hg
theorem cof_3 (hi lo : Nat) (hh : hi < 18446744073709551616) (hl : lo < 18446744073709551616) (w : World) (hg : FmtG w) : Calls Tryd.prog 13 #[.int .i64 3, .agg #[.int .u64 (hi : Nat), .int .u64 (lo : Nat)]] w fun e w' => e = .returned (.int .i64 ((clsN 64 53 11 (lo + 18446744073709551616 * hi) : Nat) : Int)) ∧ Below w.heap.size w w' := by
  refine cof_pass 3 hi lo _ (fun w hg => ?_) w hg
  have hQ := q200
  have hq : (lo + 18446744073709551616 * hi) < QQ := by omega
  by_cases h : (lo + 18446744073709551616 * hi) < 2 ^ 64
  · rw [show clsN 64 53 11 (lo + 18446744073709551616 * hi) = clsP 53 11 ((lo + 18446744073709551616 * hi) / 2 ^ 52 % 2 ^ 11) ((lo + 18446744073709551616 * hi) % 2 ^ 52) from by unfold clsN; rw [if_pos h]]
    exact asked_int 3 hi lo (lo + 18446744073709551616 * hi) _ _ _ (fun i => [64, 53, 1023, -1022, 11].getD i 0) 51 _ (enters_of Tryd.func51 (by kernel_rfl) rfl) (fun w hg => by have h1 := fits_3 hi lo hh hl w hg; rw [decide_eq_true h] at h1; exact h1) (fun w hg => of_3 w hg) (fun w => wideFrom_any hi lo hh hl w) (fun w => taken_3 _ h w) (fun w => ofC1_any 53 11 (fun i => [64, 53, 1023, -1022, 11].getD i 0) _ _ _ (Nat.lt_of_le_of_lt (Nat.mod_le _ _) hq) (by decide) rfl (by decide) (Nat.mod_lt _ (Nat.two_pow_pos _)) (fun w => ones_3 w) w) w hg
  · rw [show clsN 64 53 11 (lo + 18446744073709551616 * hi) = 0 from by unfold clsN; rw [if_neg h]]
    exact asked_int_no 3 hi lo _ (fun w hg => by have h1 := fits_3 hi lo hh hl w hg; rw [decide_eq_false h] at h1; exact h1) w hg
theorem cof_4 (hi lo : Nat) (hh : hi < 18446744073709551616) (hl : lo < 18446744073709551616) (w : World) (hg : FmtG w) : Calls Tryd.prog 13 #[.int .i64 4, .agg #[.int .u64 (hi : Nat), .int .u64 (lo : Nat)]] w fun e w' => e = .returned (.int .i64 ((clsN 128 113 15 (lo + 18446744073709551616 * hi) : Nat) : Int)) ∧ Below w.heap.size w w' := by
  refine cof_pass 4 hi lo _ (fun w hg => ?_) w hg
  have hQ := q200
  have hq : (lo + 18446744073709551616 * hi) < QQ := by omega
  by_cases h : (lo + 18446744073709551616 * hi) < 2 ^ 128
  · rw [show clsN 128 113 15 (lo + 18446744073709551616 * hi) = clsP 113 15 ((lo + 18446744073709551616 * hi) / 2 ^ 112 % 2 ^ 15) ((lo + 18446744073709551616 * hi) % 2 ^ 112) from by unfold clsN; rw [if_pos h]]
    exact asked_int 4 hi lo (lo + 18446744073709551616 * hi) _ _ _ (fun i => [128, 113, 16383, -16382, 15].getD i 0) 51 _ (enters_of Tryd.func51 (by kernel_rfl) rfl) (fun w hg => by have h1 := fits_4 hi lo hh hl w hg; rw [decide_eq_true h] at h1; exact h1) (fun w hg => of_4 w hg) (fun w => wideFrom_any hi lo hh hl w) (fun w => taken_4 _ h w) (fun w => ofC1_any 113 15 (fun i => [128, 113, 16383, -16382, 15].getD i 0) _ _ _ (Nat.lt_of_le_of_lt (Nat.mod_le _ _) hq) (by decide) rfl (by decide) (Nat.mod_lt _ (Nat.two_pow_pos _)) (fun w => ones_4 w) w) w hg
  · rw [show clsN 128 113 15 (lo + 18446744073709551616 * hi) = 0 from by unfold clsN; rw [if_neg h]]
    exact asked_int_no 4 hi lo _ (fun w hg => by have h1 := fits_4 hi lo hh hl w hg; rw [decide_eq_false h] at h1; exact h1) w hg

theorem cneg_pass (f : Int) (hi lo : Nat) (x : Bool) (HM : Hid (∀ w, FmtG w → Calls Tryd.prog 54 #[.int .i64 f, .agg #[.int .u64 (hi : Nat), .int .u64 (lo : Nat)], .func (.func 55) #[] #[]] w fun e w' => e = .returned (.bool x) ∧ Below w.heap.size w w')) (w : World) (hg : FmtG w) :
    Calls Tryd.prog 16 #[.int .i64 f, .agg #[.int .u64 (hi : Nat), .int .u64 (lo : Nat)]] w fun e w' => e = .returned (.bool x) ∧ Below w.heap.size w w' := by
  have HB0 := hide (below_allocs w (.cells #[.int .u64 (hi : Nat), .int .u64 (lo : Nat)] 24))
  have HG := hide (hg.below HB0.out)
  clear hg
  go_enter Tryd.func16, Tryd.ntmps16
  go_wp2_with fail
  refine (HM.out _ HG.out).mono ?_
  rintro e w1 ⟨rfl, hb1⟩
  have HB := hide (below_trans HB0.out hb1)
  clear hb1 HG HB0
  go_wp2
  go_ret
  exact ⟨rfl, HB.out⟩
theorem cneg_none (f : Int) (h : f < 1 ∨ 4 < f) (hi lo : Nat) (w : World) (hg : FmtG w) : Calls Tryd.prog 16 #[.int .i64 f, .agg #[.int .u64 (hi : Nat), .int .u64 (lo : Nat)]] w fun e w' => e = .returned (.bool false) ∧ Below w.heap.size w w' :=
  cneg_pass f hi lo false (fun w hg => asked_bool_no f hi lo _ (fun w hg => fits_none f h hi lo w) w hg) w hg
theorem cneg_1 (hi lo : Nat) (hh : hi < 18446744073709551616) (hl : lo < 18446744073709551616) (w : World) (hg : FmtG w) : Calls Tryd.prog 16 #[.int .i64 1, .agg #[.int .u64 (hi : Nat), .int .u64 (lo : Nat)]] w fun e w' => e = .returned (.bool (negN 16 (lo + 18446744073709551616 * hi))) ∧ Below w.heap.size w w' := by
  refine cneg_pass 1 hi lo _ (fun w hg => ?_) w hg
  have hQ := q200
  have hq : (lo + 18446744073709551616 * hi) < QQ := by omega
  by_cases h : (lo + 18446744073709551616 * hi) < 2 ^ 16
  · rw [show negN 16 (lo + 18446744073709551616 * hi) = ((lo + 18446744073709551616 * hi) / 2 ^ 15 % 2 == 1) from by unfold negN; rw [decide_eq_true h, Bool.true_and]]
    exact asked_bool 1 hi lo (lo + 18446744073709551616 * hi) _ _ _ (fun i => [16, 11, 15, -14, 5].getD i 0) 55 _ (enters_of Tryd.func55 (by kernel_rfl) rfl) (fun w hg => by have h1 := fits_1 hi lo hh hl w hg; rw [decide_eq_true h] at h1; exact h1) (fun w hg => of_1 w hg) (fun w => wideFrom_any hi lo hh hl w) (fun w => taken_1 _ h w) (fun w => negC1_any (fun i => [16, 11, 15, -14, 5].getD i 0) _ _ _ w) w hg
  · rw [show negN 16 (lo + 18446744073709551616 * hi) = false from by unfold negN; rw [decide_eq_false h, Bool.false_and]]
    exact asked_bool_no 1 hi lo _ (fun w hg => by have h1 := fits_1 hi lo hh hl w hg; rw [decide_eq_false h] at h1; exact h1) w hg
theorem cneg_2 (hi lo : Nat) (hh : hi < 18446744073709551616) (hl : lo < 18446744073709551616) (w : World) (hg : FmtG w) : Calls Tryd.prog 16 #[.int .i64 2, .agg #[.int .u64 (hi : Nat), .int .u64 (lo : Nat)]] w fun e w' => e = .returned (.bool (negN 32 (lo + 18446744073709551616 * hi))) ∧ Below w.heap.size w w' := by
  refine cneg_pass 2 hi lo _ (fun w hg => ?_) w hg
  have hQ := q200
  have hq : (lo + 18446744073709551616 * hi) < QQ := by omega
  by_cases h : (lo + 18446744073709551616 * hi) < 2 ^ 32
  · rw [show negN 32 (lo + 18446744073709551616 * hi) = ((lo + 18446744073709551616 * hi) / 2 ^ 31 % 2 == 1) from by unfold negN; rw [decide_eq_true h, Bool.true_and]]
    exact asked_bool 2 hi lo (lo + 18446744073709551616 * hi) _ _ _ (fun i => [32, 24, 127, -126, 8].getD i 0) 55 _ (enters_of Tryd.func55 (by kernel_rfl) rfl) (fun w hg => by have h1 := fits_2 hi lo hh hl w hg; rw [decide_eq_true h] at h1; exact h1) (fun w hg => of_2 w hg) (fun w => wideFrom_any hi lo hh hl w) (fun w => taken_2 _ h w) (fun w => negC1_any (fun i => [32, 24, 127, -126, 8].getD i 0) _ _ _ w) w hg
  · rw [show negN 32 (lo + 18446744073709551616 * hi) = false from by unfold negN; rw [decide_eq_false h, Bool.false_and]]
    exact asked_bool_no 2 hi lo _ (fun w hg => by have h1 := fits_2 hi lo hh hl w hg; rw [decide_eq_false h] at h1; exact h1) w hg
theorem cneg_3 (hi lo : Nat) (hh : hi < 18446744073709551616) (hl : lo < 18446744073709551616) (w : World) (hg : FmtG w) : Calls Tryd.prog 16 #[.int .i64 3, .agg #[.int .u64 (hi : Nat), .int .u64 (lo : Nat)]] w fun e w' => e = .returned (.bool (negN 64 (lo + 18446744073709551616 * hi))) ∧ Below w.heap.size w w' := by
  refine cneg_pass 3 hi lo _ (fun w hg => ?_) w hg
  have hQ := q200
  have hq : (lo + 18446744073709551616 * hi) < QQ := by omega
  by_cases h : (lo + 18446744073709551616 * hi) < 2 ^ 64
  · rw [show negN 64 (lo + 18446744073709551616 * hi) = ((lo + 18446744073709551616 * hi) / 2 ^ 63 % 2 == 1) from by unfold negN; rw [decide_eq_true h, Bool.true_and]]
    exact asked_bool 3 hi lo (lo + 18446744073709551616 * hi) _ _ _ (fun i => [64, 53, 1023, -1022, 11].getD i 0) 55 _ (enters_of Tryd.func55 (by kernel_rfl) rfl) (fun w hg => by have h1 := fits_3 hi lo hh hl w hg; rw [decide_eq_true h] at h1; exact h1) (fun w hg => of_3 w hg) (fun w => wideFrom_any hi lo hh hl w) (fun w => taken_3 _ h w) (fun w => negC1_any (fun i => [64, 53, 1023, -1022, 11].getD i 0) _ _ _ w) w hg
  · rw [show negN 64 (lo + 18446744073709551616 * hi) = false from by unfold negN; rw [decide_eq_false h, Bool.false_and]]
    exact asked_bool_no 3 hi lo _ (fun w hg => by have h1 := fits_3 hi lo hh hl w hg; rw [decide_eq_false h] at h1; exact h1) w hg
theorem cneg_4 (hi lo : Nat) (hh : hi < 18446744073709551616) (hl : lo < 18446744073709551616) (w : World) (hg : FmtG w) : Calls Tryd.prog 16 #[.int .i64 4, .agg #[.int .u64 (hi : Nat), .int .u64 (lo : Nat)]] w fun e w' => e = .returned (.bool (negN 128 (lo + 18446744073709551616 * hi))) ∧ Below w.heap.size w w' := by
  refine cneg_pass 4 hi lo _ (fun w hg => ?_) w hg
  have hQ := q200
  have hq : (lo + 18446744073709551616 * hi) < QQ := by omega
  by_cases h : (lo + 18446744073709551616 * hi) < 2 ^ 128
  · rw [show negN 128 (lo + 18446744073709551616 * hi) = ((lo + 18446744073709551616 * hi) / 2 ^ 127 % 2 == 1) from by unfold negN; rw [decide_eq_true h, Bool.true_and]]
    exact asked_bool 4 hi lo (lo + 18446744073709551616 * hi) _ _ _ (fun i => [128, 113, 16383, -16382, 15].getD i 0) 55 _ (enters_of Tryd.func55 (by kernel_rfl) rfl) (fun w hg => by have h1 := fits_4 hi lo hh hl w hg; rw [decide_eq_true h] at h1; exact h1) (fun w hg => of_4 w hg) (fun w => wideFrom_any hi lo hh hl w) (fun w => taken_4 _ h w) (fun w => negC1_any (fun i => [128, 113, 16383, -16382, 15].getD i 0) _ _ _ w) w hg
  · rw [show negN 128 (lo + 18446744073709551616 * hi) = false from by unfold negN; rw [decide_eq_false h, Bool.false_and]]
    exact asked_bool_no 4 hi lo _ (fun w hg => by have h1 := fits_4 hi lo hh hl w hg; rw [decide_eq_false h] at h1; exact h1) w hg

theorem cfld_pass (f : Int) (hi lo : Nat) (x : Int) (HM : Hid (∀ w, FmtG w → Calls Tryd.prog 50 #[.int .i64 f, .agg #[.int .u64 (hi : Nat), .int .u64 (lo : Nat)], .func (.func 57) #[] #[]] w fun e w' => e = .returned (.int .i64 x) ∧ Below w.heap.size w w')) (w : World) (hg : FmtG w) :
    Calls Tryd.prog 18 #[.int .i64 f, .agg #[.int .u64 (hi : Nat), .int .u64 (lo : Nat)]] w fun e w' => e = .returned (.int .i64 x) ∧ Below w.heap.size w w' := by
  have HB0 := hide (below_allocs w (.cells #[.int .u64 (hi : Nat), .int .u64 (lo : Nat)] 24))
  have HG := hide (hg.below HB0.out)
  clear hg
  go_enter Tryd.func18, Tryd.ntmps18
  go_wp2_with fail
  refine (HM.out _ HG.out).mono ?_
  rintro e w1 ⟨rfl, hb1⟩
  have HB := hide (below_trans HB0.out hb1)
  clear hb1 HG HB0
  go_wp2
  go_ret
  exact ⟨rfl, HB.out⟩
theorem cfld_none (f : Int) (h : f < 1 ∨ 4 < f) (hi lo : Nat) (w : World) (hg : FmtG w) : Calls Tryd.prog 18 #[.int .i64 f, .agg #[.int .u64 (hi : Nat), .int .u64 (lo : Nat)]] w fun e w' => e = .returned (.int .i64 0) ∧ Below w.heap.size w w' :=
  cfld_pass f hi lo 0 (fun w hg => asked_int_no f hi lo _ (fun w hg => fits_none f h hi lo w) w hg) w hg
theorem cfld_1 (hi lo : Nat) (hh : hi < 18446744073709551616) (hl : lo < 18446744073709551616) (w : World) (hg : FmtG w) : Calls Tryd.prog 18 #[.int .i64 1, .agg #[.int .u64 (hi : Nat), .int .u64 (lo : Nat)]] w fun e w' => e = .returned (.int .i64 ((fldN 16 11 5 (lo + 18446744073709551616 * hi) : Nat) : Int)) ∧ Below w.heap.size w w' := by
  refine cfld_pass 1 hi lo _ (fun w hg => ?_) w hg
  have hQ := q200
  have hq : (lo + 18446744073709551616 * hi) < QQ := by omega
  by_cases h : (lo + 18446744073709551616 * hi) < 2 ^ 16
  · rw [show fldN 16 11 5 (lo + 18446744073709551616 * hi) = (lo + 18446744073709551616 * hi) / 2 ^ 10 % 2 ^ 5 from by unfold fldN; rw [if_pos h]]
    exact asked_int 1 hi lo (lo + 18446744073709551616 * hi) _ _ _ (fun i => [16, 11, 15, -14, 5].getD i 0) 57 _ (enters_of Tryd.func57 (by kernel_rfl) rfl) (fun w hg => by have h1 := fits_1 hi lo hh hl w hg; rw [decide_eq_true h] at h1; exact h1) (fun w hg => of_1 w hg) (fun w => wideFrom_any hi lo hh hl w) (fun w => taken_1 _ h w) (fun w => fieldC1_any (fun i => [16, 11, 15, -14, 5].getD i 0) _ _ _ w) w hg
  · rw [show fldN 16 11 5 (lo + 18446744073709551616 * hi) = 0 from by unfold fldN; rw [if_neg h]]
    exact asked_int_no 1 hi lo _ (fun w hg => by have h1 := fits_1 hi lo hh hl w hg; rw [decide_eq_false h] at h1; exact h1) w hg
theorem cfld_2 (hi lo : Nat) (hh : hi < 18446744073709551616) (hl : lo < 18446744073709551616) (w : World) (hg : FmtG w) : Calls Tryd.prog 18 #[.int .i64 2, .agg #[.int .u64 (hi : Nat), .int .u64 (lo : Nat)]] w fun e w' => e = .returned (.int .i64 ((fldN 32 24 8 (lo + 18446744073709551616 * hi) : Nat) : Int)) ∧ Below w.heap.size w w' := by
  refine cfld_pass 2 hi lo _ (fun w hg => ?_) w hg
  have hQ := q200
  have hq : (lo + 18446744073709551616 * hi) < QQ := by omega
  by_cases h : (lo + 18446744073709551616 * hi) < 2 ^ 32
  · rw [show fldN 32 24 8 (lo + 18446744073709551616 * hi) = (lo + 18446744073709551616 * hi) / 2 ^ 23 % 2 ^ 8 from by unfold fldN; rw [if_pos h]]
    exact asked_int 2 hi lo (lo + 18446744073709551616 * hi) _ _ _ (fun i => [32, 24, 127, -126, 8].getD i 0) 57 _ (enters_of Tryd.func57 (by kernel_rfl) rfl) (fun w hg => by have h1 := fits_2 hi lo hh hl w hg; rw [decide_eq_true h] at h1; exact h1) (fun w hg => of_2 w hg) (fun w => wideFrom_any hi lo hh hl w) (fun w => taken_2 _ h w) (fun w => fieldC1_any (fun i => [32, 24, 127, -126, 8].getD i 0) _ _ _ w) w hg
  · rw [show fldN 32 24 8 (lo + 18446744073709551616 * hi) = 0 from by unfold fldN; rw [if_neg h]]
    exact asked_int_no 2 hi lo _ (fun w hg => by have h1 := fits_2 hi lo hh hl w hg; rw [decide_eq_false h] at h1; exact h1) w hg
theorem cfld_3 (hi lo : Nat) (hh : hi < 18446744073709551616) (hl : lo < 18446744073709551616) (w : World) (hg : FmtG w) : Calls Tryd.prog 18 #[.int .i64 3, .agg #[.int .u64 (hi : Nat), .int .u64 (lo : Nat)]] w fun e w' => e = .returned (.int .i64 ((fldN 64 53 11 (lo + 18446744073709551616 * hi) : Nat) : Int)) ∧ Below w.heap.size w w' := by
  refine cfld_pass 3 hi lo _ (fun w hg => ?_) w hg
  have hQ := q200
  have hq : (lo + 18446744073709551616 * hi) < QQ := by omega
  by_cases h : (lo + 18446744073709551616 * hi) < 2 ^ 64
  · rw [show fldN 64 53 11 (lo + 18446744073709551616 * hi) = (lo + 18446744073709551616 * hi) / 2 ^ 52 % 2 ^ 11 from by unfold fldN; rw [if_pos h]]
    exact asked_int 3 hi lo (lo + 18446744073709551616 * hi) _ _ _ (fun i => [64, 53, 1023, -1022, 11].getD i 0) 57 _ (enters_of Tryd.func57 (by kernel_rfl) rfl) (fun w hg => by have h1 := fits_3 hi lo hh hl w hg; rw [decide_eq_true h] at h1; exact h1) (fun w hg => of_3 w hg) (fun w => wideFrom_any hi lo hh hl w) (fun w => taken_3 _ h w) (fun w => fieldC1_any (fun i => [64, 53, 1023, -1022, 11].getD i 0) _ _ _ w) w hg
  · rw [show fldN 64 53 11 (lo + 18446744073709551616 * hi) = 0 from by unfold fldN; rw [if_neg h]]
    exact asked_int_no 3 hi lo _ (fun w hg => by have h1 := fits_3 hi lo hh hl w hg; rw [decide_eq_false h] at h1; exact h1) w hg
theorem cfld_4 (hi lo : Nat) (hh : hi < 18446744073709551616) (hl : lo < 18446744073709551616) (w : World) (hg : FmtG w) : Calls Tryd.prog 18 #[.int .i64 4, .agg #[.int .u64 (hi : Nat), .int .u64 (lo : Nat)]] w fun e w' => e = .returned (.int .i64 ((fldN 128 113 15 (lo + 18446744073709551616 * hi) : Nat) : Int)) ∧ Below w.heap.size w w' := by
  refine cfld_pass 4 hi lo _ (fun w hg => ?_) w hg
  have hQ := q200
  have hq : (lo + 18446744073709551616 * hi) < QQ := by omega
  by_cases h : (lo + 18446744073709551616 * hi) < 2 ^ 128
  · rw [show fldN 128 113 15 (lo + 18446744073709551616 * hi) = (lo + 18446744073709551616 * hi) / 2 ^ 112 % 2 ^ 15 from by unfold fldN; rw [if_pos h]]
    exact asked_int 4 hi lo (lo + 18446744073709551616 * hi) _ _ _ (fun i => [128, 113, 16383, -16382, 15].getD i 0) 57 _ (enters_of Tryd.func57 (by kernel_rfl) rfl) (fun w hg => by have h1 := fits_4 hi lo hh hl w hg; rw [decide_eq_true h] at h1; exact h1) (fun w hg => of_4 w hg) (fun w => wideFrom_any hi lo hh hl w) (fun w => taken_4 _ h w) (fun w => fieldC1_any (fun i => [128, 113, 16383, -16382, 15].getD i 0) _ _ _ w) w hg
  · rw [show fldN 128 113 15 (lo + 18446744073709551616 * hi) = 0 from by unfold fldN; rw [if_neg h]]
    exact asked_int_no 4 hi lo _ (fun w hg => by have h1 := fits_4 hi lo hh hl w hg; rw [decide_eq_false h] at h1; exact h1) w hg

set_option maxHeartbeats 1000000 in
theorem awake6_any (w : World) (hg : FmtG w) : Calls Tryd.prog 22 #[] w fun e w' => e = .returned (.bool true) ∧ Below w.heap.size w w' := by
  have h1 := fun w hg => cof_1 0 31745 (by decide) (by decide) w hg
  rw [show clsN 16 11 5 (31745 + 18446744073709551616 * 0) = 1 by decide +kernel] at h1
  have h2 := fun w hg => cof_1 0 32256 (by decide) (by decide) w hg
  rw [show clsN 16 11 5 (32256 + 18446744073709551616 * 0) = 2 by decide +kernel] at h2
  have h3 := fun w hg => cof_1 0 1 (by decide) (by decide) w hg
  rw [show clsN 16 11 5 (1 + 18446744073709551616 * 0) = 5 by decide +kernel] at h3
  have H1 := hide h1
  have H2 := hide h2
  have H3 := hide h3
  have HG := hide hg
  clear h1 h2 h3 hg
  go_enter Tryd.func22, Tryd.ntmps22
  go_wp2_with fail
  refine (H1.out _ HG.out).mono ?_
  rintro e w1 ⟨rfl, hb1⟩
  have HG1 := hide (HG.out.below hb1)
  go_wp2_with fail
  refine (H2.out _ HG1.out).mono ?_
  rintro e w2 ⟨rfl, hb2⟩
  have HG2 := hide (HG1.out.below hb2)
  go_wp2_with fail
  refine (H3.out _ HG2.out).mono ?_
  rintro e w3 ⟨rfl, hb3⟩
  have HB := hide (below_trans hb1 (below_trans hb2 hb3))
  clear HG HG1 HG2 hb1 hb2 hb3
  go_wp2
  go_ret
  exact ⟨rfl, HB.out⟩

end Go.Proofs.YtidfegilddlglaaDoor

