/- Contracts and laws: ClsK. -/
import Derived.Test.YtidfegilddlglaaDoorXClsJ
/- Contracts: class.Make with its numbers. -/
set_option linter.unusedVariables false
set_option linter.unusedSimpArgs false
set_option maxRecDepth 8000
namespace Go.Proofs.YtidfegilddlglaaDoor
open Go.RowKit Plain

theorem word_back (N : Nat) (h : N < 2 ^ 128) : dgl N 0 + 18446744073709551616 * dgl N 1 = N := by
  rw [dgl0, dgl1]
  omega
theorem makeNone_any (f : Int) (h : f < 1 ∨ 4 < f) (neg : Bool) (z : Int) (b : Nat) (w : World) (hg : FmtG w) :
    Calls Tryd.prog 26 #[.int .i64 f, .bool neg, .int .i64 z, .agg #[.int .u64 (dgl (b) 0 : Nat), .int .u64 (dgl (b) 1 : Nat), .int .u64 (dgl (b) 2 : Nat), .int .u64 (dgl (b) 3 : Nat), .int .u64 (dgl (b) 4 : Nat), .int .u64 (dgl (b) 5 : Nat), .int .u64 (dgl (b) 6 : Nat), .int .u64 (dgl (b) 7 : Nat)]] w fun e w' => e = .returned (.tuple #[.agg #[.int .u64 0, .int .u64 0], .bool false]) ∧ Below w.heap.size w w' :=
  make_none f neg z b (fun _ => 0) (fun w _ => of_none f h w) w hg

theorem makeYes_1 (neg : Bool) (x b : Nat) (hx : x < 2 ^ 5) (hb : b < 2 ^ 10) (z : Int) (hz : z = (x : Int)) (w : World) (hg : FmtG w) :
    Calls Tryd.prog 26 #[.int .i64 1, .bool neg, .int .i64 z, .agg #[.int .u64 (dgl (b) 0 : Nat), .int .u64 (dgl (b) 1 : Nat), .int .u64 (dgl (b) 2 : Nat), .int .u64 (dgl (b) 3 : Nat), .int .u64 (dgl (b) 4 : Nat), .int .u64 (dgl (b) 5 : Nat), .int .u64 (dgl (b) 6 : Nat), .int .u64 (dgl (b) 7 : Nat)]] w fun e w' => e = .returned (.tuple #[.agg #[.int .u64 (dgl (x * 2 ^ 10 + b + (bif neg then 32768 else 0)) 1 : Nat), .int .u64 (dgl (x * 2 ^ 10 + b + (bif neg then 32768 else 0)) 0 : Nat)], .bool true]) ∧ Below w.heap.size w w' := by
  subst hz
  have hQ := q200
  have h1 := fun w => wideShl_any x 10 (by omega) w
  rw [show roomI 10 = ((10 : Nat) : Int) by decide, sh_up] at h1
  have h2 := fun w => wideAdd_any (x * 2 ^ 10) b (by omega) (by omega) w
  have h3 := fun w hg => nought_1 neg w hg
  obtain ⟨o, ho⟩ : ∃ o, (bif neg then 32768 else 0) = o := ⟨_, rfl⟩
  have ho2 : o < 2 ^ 128 := by rw [← ho]; cases neg <;> decide
  rw [ho] at h3 ⊢
  have h4 := fun w => wideFrom_any (dgl o 1) (dgl o 0) (dgl_lt _ _) (dgl_lt _ _) w
  rw [word_back o ho2] at h4
  have h5 := fun w => wideAdd_any (x * 2 ^ 10 + b) o (by omega) (by omega) w
  exact make_walk 1 neg x b (fun i => [16, 11, 15, -14, 5].getD i 0) 31 x (x * 2 ^ 10) (x * 2 ^ 10 + b) (dgl o 1) (dgl o 0) o (x * 2 ^ 10 + b + o) _ _ (by decide +kernel) (decide_eq_false (by omega)) (decide_eq_false (by omega))
    (decide_eq_false (by have := (len_le b 10).2 hb; show ¬ ((11 : Int) - 1 < _); omega)) (by unfold Hid; rw [IntKind.wrap_u64]; omega) (fun i hi => (dig_one (β := 18446744073709551616) (by omega)).2 i) (fun w hg => of_1 w hg) (fun w => ones_1 w) (fun w => wideLen_any b (by omega) w) h1 h2 h3 h4 h5 w hg
theorem makeNo_1 (neg : Bool) (z : Int) (b : Nat) (hb : b < QQ) (h : ¬ (0 ≤ z ∧ z < 2 ^ 5 ∧ b < 2 ^ 10)) (w : World) (hg : FmtG w) :
    Calls Tryd.prog 26 #[.int .i64 1, .bool neg, .int .i64 z, .agg #[.int .u64 (dgl (b) 0 : Nat), .int .u64 (dgl (b) 1 : Nat), .int .u64 (dgl (b) 2 : Nat), .int .u64 (dgl (b) 3 : Nat), .int .u64 (dgl (b) 4 : Nat), .int .u64 (dgl (b) 5 : Nat), .int .u64 (dgl (b) 6 : Nat), .int .u64 (dgl (b) 7 : Nat)]] w fun e w' => e = .returned (.tuple #[.agg #[.int .u64 0, .int .u64 0], .bool false]) ∧ Below w.heap.size w w' := by
  by_cases h1 : z < 0
  · exact make_neg 1 neg z b (fun i => [16, 11, 15, -14, 5].getD i 0) h1 (fun w hg => of_1 w hg) w hg
  · by_cases h2 : ((31 : Nat) : Int) < z
    · exact make_big 1 neg z b (fun i => [16, 11, 15, -14, 5].getD i 0) 31 (decide_eq_false h1) h2 (fun w hg => of_1 w hg) (fun w => ones_1 w) w hg
    · have h3 : ¬ b < 2 ^ 10 := fun h3 => h ⟨by omega, by omega, h3⟩
      have h4 : (11 : Int) - 1 < (Go.bitLen b : Int) := by
        have := mt (len_le b 10).1 h3
        omega
      exact make_long 1 neg z b (fun i => [16, 11, 15, -14, 5].getD i 0) 31 (by decide +kernel) (decide_eq_false h1) (decide_eq_false h2) h4 (fun w hg => of_1 w hg) (fun w => ones_1 w) (fun w => wideLen_any b hb w) w hg

theorem makeYes_2 (neg : Bool) (x b : Nat) (hx : x < 2 ^ 8) (hb : b < 2 ^ 23) (z : Int) (hz : z = (x : Int)) (w : World) (hg : FmtG w) :
    Calls Tryd.prog 26 #[.int .i64 2, .bool neg, .int .i64 z, .agg #[.int .u64 (dgl (b) 0 : Nat), .int .u64 (dgl (b) 1 : Nat), .int .u64 (dgl (b) 2 : Nat), .int .u64 (dgl (b) 3 : Nat), .int .u64 (dgl (b) 4 : Nat), .int .u64 (dgl (b) 5 : Nat), .int .u64 (dgl (b) 6 : Nat), .int .u64 (dgl (b) 7 : Nat)]] w fun e w' => e = .returned (.tuple #[.agg #[.int .u64 (dgl (x * 2 ^ 23 + b + (bif neg then 2147483648 else 0)) 1 : Nat), .int .u64 (dgl (x * 2 ^ 23 + b + (bif neg then 2147483648 else 0)) 0 : Nat)], .bool true]) ∧ Below w.heap.size w w' := by
  subst hz
  have hQ := q200
  have h1 := fun w => wideShl_any x 23 (by omega) w
  rw [show roomI 23 = ((23 : Nat) : Int) by decide, sh_up] at h1
  have h2 := fun w => wideAdd_any (x * 2 ^ 23) b (by omega) (by omega) w
  have h3 := fun w hg => nought_2 neg w hg
  obtain ⟨o, ho⟩ : ∃ o, (bif neg then 2147483648 else 0) = o := ⟨_, rfl⟩
  have ho2 : o < 2 ^ 128 := by rw [← ho]; cases neg <;> decide
  rw [ho] at h3 ⊢
  have h4 := fun w => wideFrom_any (dgl o 1) (dgl o 0) (dgl_lt _ _) (dgl_lt _ _) w
  rw [word_back o ho2] at h4
  have h5 := fun w => wideAdd_any (x * 2 ^ 23 + b) o (by omega) (by omega) w
  exact make_walk 2 neg x b (fun i => [32, 24, 127, -126, 8].getD i 0) 255 x (x * 2 ^ 23) (x * 2 ^ 23 + b) (dgl o 1) (dgl o 0) o (x * 2 ^ 23 + b + o) _ _ (by decide +kernel) (decide_eq_false (by omega)) (decide_eq_false (by omega))
    (decide_eq_false (by have := (len_le b 23).2 hb; show ¬ ((24 : Int) - 1 < _); omega)) (by unfold Hid; rw [IntKind.wrap_u64]; omega) (fun i hi => (dig_one (β := 18446744073709551616) (by omega)).2 i) (fun w hg => of_2 w hg) (fun w => ones_2 w) (fun w => wideLen_any b (by omega) w) h1 h2 h3 h4 h5 w hg
theorem makeNo_2 (neg : Bool) (z : Int) (b : Nat) (hb : b < QQ) (h : ¬ (0 ≤ z ∧ z < 2 ^ 8 ∧ b < 2 ^ 23)) (w : World) (hg : FmtG w) :
    Calls Tryd.prog 26 #[.int .i64 2, .bool neg, .int .i64 z, .agg #[.int .u64 (dgl (b) 0 : Nat), .int .u64 (dgl (b) 1 : Nat), .int .u64 (dgl (b) 2 : Nat), .int .u64 (dgl (b) 3 : Nat), .int .u64 (dgl (b) 4 : Nat), .int .u64 (dgl (b) 5 : Nat), .int .u64 (dgl (b) 6 : Nat), .int .u64 (dgl (b) 7 : Nat)]] w fun e w' => e = .returned (.tuple #[.agg #[.int .u64 0, .int .u64 0], .bool false]) ∧ Below w.heap.size w w' := by
  by_cases h1 : z < 0
  · exact make_neg 2 neg z b (fun i => [32, 24, 127, -126, 8].getD i 0) h1 (fun w hg => of_2 w hg) w hg
  · by_cases h2 : ((255 : Nat) : Int) < z
    · exact make_big 2 neg z b (fun i => [32, 24, 127, -126, 8].getD i 0) 255 (decide_eq_false h1) h2 (fun w hg => of_2 w hg) (fun w => ones_2 w) w hg
    · have h3 : ¬ b < 2 ^ 23 := fun h3 => h ⟨by omega, by omega, h3⟩
      have h4 : (24 : Int) - 1 < (Go.bitLen b : Int) := by
        have := mt (len_le b 23).1 h3
        omega
      exact make_long 2 neg z b (fun i => [32, 24, 127, -126, 8].getD i 0) 255 (by decide +kernel) (decide_eq_false h1) (decide_eq_false h2) h4 (fun w hg => of_2 w hg) (fun w => ones_2 w) (fun w => wideLen_any b hb w) w hg

theorem makeYes_3 (neg : Bool) (x b : Nat) (hx : x < 2 ^ 11) (hb : b < 2 ^ 52) (z : Int) (hz : z = (x : Int)) (w : World) (hg : FmtG w) :
    Calls Tryd.prog 26 #[.int .i64 3, .bool neg, .int .i64 z, .agg #[.int .u64 (dgl (b) 0 : Nat), .int .u64 (dgl (b) 1 : Nat), .int .u64 (dgl (b) 2 : Nat), .int .u64 (dgl (b) 3 : Nat), .int .u64 (dgl (b) 4 : Nat), .int .u64 (dgl (b) 5 : Nat), .int .u64 (dgl (b) 6 : Nat), .int .u64 (dgl (b) 7 : Nat)]] w fun e w' => e = .returned (.tuple #[.agg #[.int .u64 (dgl (x * 2 ^ 52 + b + (bif neg then 9223372036854775808 else 0)) 1 : Nat), .int .u64 (dgl (x * 2 ^ 52 + b + (bif neg then 9223372036854775808 else 0)) 0 : Nat)], .bool true]) ∧ Below w.heap.size w w' := by
  subst hz
  have hQ := q200
  have h1 := fun w => wideShl_any x 52 (by omega) w
  rw [show roomI 52 = ((52 : Nat) : Int) by decide, sh_up] at h1
  have h2 := fun w => wideAdd_any (x * 2 ^ 52) b (by omega) (by omega) w
  have h3 := fun w hg => nought_3 neg w hg
  obtain ⟨o, ho⟩ : ∃ o, (bif neg then 9223372036854775808 else 0) = o := ⟨_, rfl⟩
  have ho2 : o < 2 ^ 128 := by rw [← ho]; cases neg <;> decide
  rw [ho] at h3 ⊢
  have h4 := fun w => wideFrom_any (dgl o 1) (dgl o 0) (dgl_lt _ _) (dgl_lt _ _) w
  rw [word_back o ho2] at h4
  have h5 := fun w => wideAdd_any (x * 2 ^ 52 + b) o (by omega) (by omega) w
  exact make_walk 3 neg x b (fun i => [64, 53, 1023, -1022, 11].getD i 0) 2047 x (x * 2 ^ 52) (x * 2 ^ 52 + b) (dgl o 1) (dgl o 0) o (x * 2 ^ 52 + b + o) _ _ (by decide +kernel) (decide_eq_false (by omega)) (decide_eq_false (by omega))
    (decide_eq_false (by have := (len_le b 52).2 hb; show ¬ ((53 : Int) - 1 < _); omega)) (by unfold Hid; rw [IntKind.wrap_u64]; omega) (fun i hi => (dig_one (β := 18446744073709551616) (by omega)).2 i) (fun w hg => of_3 w hg) (fun w => ones_3 w) (fun w => wideLen_any b (by omega) w) h1 h2 h3 h4 h5 w hg
theorem makeNo_3 (neg : Bool) (z : Int) (b : Nat) (hb : b < QQ) (h : ¬ (0 ≤ z ∧ z < 2 ^ 11 ∧ b < 2 ^ 52)) (w : World) (hg : FmtG w) :
    Calls Tryd.prog 26 #[.int .i64 3, .bool neg, .int .i64 z, .agg #[.int .u64 (dgl (b) 0 : Nat), .int .u64 (dgl (b) 1 : Nat), .int .u64 (dgl (b) 2 : Nat), .int .u64 (dgl (b) 3 : Nat), .int .u64 (dgl (b) 4 : Nat), .int .u64 (dgl (b) 5 : Nat), .int .u64 (dgl (b) 6 : Nat), .int .u64 (dgl (b) 7 : Nat)]] w fun e w' => e = .returned (.tuple #[.agg #[.int .u64 0, .int .u64 0], .bool false]) ∧ Below w.heap.size w w' := by
  by_cases h1 : z < 0
  · exact make_neg 3 neg z b (fun i => [64, 53, 1023, -1022, 11].getD i 0) h1 (fun w hg => of_3 w hg) w hg
  · by_cases h2 : ((2047 : Nat) : Int) < z
    · exact make_big 3 neg z b (fun i => [64, 53, 1023, -1022, 11].getD i 0) 2047 (decide_eq_false h1) h2 (fun w hg => of_3 w hg) (fun w => ones_3 w) w hg
    · have h3 : ¬ b < 2 ^ 52 := fun h3 => h ⟨by omega, by omega, h3⟩
      have h4 : (53 : Int) - 1 < (Go.bitLen b : Int) := by
        have := mt (len_le b 52).1 h3
        omega
      exact make_long 3 neg z b (fun i => [64, 53, 1023, -1022, 11].getD i 0) 2047 (by decide +kernel) (decide_eq_false h1) (decide_eq_false h2) h4 (fun w hg => of_3 w hg) (fun w => ones_3 w) (fun w => wideLen_any b hb w) w hg

theorem makeYes_4 (neg : Bool) (x b : Nat) (hx : x < 2 ^ 15) (hb : b < 2 ^ 112) (z : Int) (hz : z = (x : Int)) (w : World) (hg : FmtG w) :
    Calls Tryd.prog 26 #[.int .i64 4, .bool neg, .int .i64 z, .agg #[.int .u64 (dgl (b) 0 : Nat), .int .u64 (dgl (b) 1 : Nat), .int .u64 (dgl (b) 2 : Nat), .int .u64 (dgl (b) 3 : Nat), .int .u64 (dgl (b) 4 : Nat), .int .u64 (dgl (b) 5 : Nat), .int .u64 (dgl (b) 6 : Nat), .int .u64 (dgl (b) 7 : Nat)]] w fun e w' => e = .returned (.tuple #[.agg #[.int .u64 (dgl (x * 2 ^ 112 + b + (bif neg then 170141183460469231731687303715884105728 else 0)) 1 : Nat), .int .u64 (dgl (x * 2 ^ 112 + b + (bif neg then 170141183460469231731687303715884105728 else 0)) 0 : Nat)], .bool true]) ∧ Below w.heap.size w w' := by
  subst hz
  have hQ := q200
  have h1 := fun w => wideShl_any x 112 (by omega) w
  rw [show roomI 112 = ((112 : Nat) : Int) by decide, sh_up] at h1
  have h2 := fun w => wideAdd_any (x * 2 ^ 112) b (by omega) (by omega) w
  have h3 := fun w hg => nought_4 neg w hg
  obtain ⟨o, ho⟩ : ∃ o, (bif neg then 170141183460469231731687303715884105728 else 0) = o := ⟨_, rfl⟩
  have ho2 : o < 2 ^ 128 := by rw [← ho]; cases neg <;> decide
  rw [ho] at h3 ⊢
  have h4 := fun w => wideFrom_any (dgl o 1) (dgl o 0) (dgl_lt _ _) (dgl_lt _ _) w
  rw [word_back o ho2] at h4
  have h5 := fun w => wideAdd_any (x * 2 ^ 112 + b) o (by omega) (by omega) w
  exact make_walk 4 neg x b (fun i => [128, 113, 16383, -16382, 15].getD i 0) 32767 x (x * 2 ^ 112) (x * 2 ^ 112 + b) (dgl o 1) (dgl o 0) o (x * 2 ^ 112 + b + o) _ _ (by decide +kernel) (decide_eq_false (by omega)) (decide_eq_false (by omega))
    (decide_eq_false (by have := (len_le b 112).2 hb; show ¬ ((113 : Int) - 1 < _); omega)) (by unfold Hid; rw [IntKind.wrap_u64]; omega) (fun i hi => (dig_one (β := 18446744073709551616) (by omega)).2 i) (fun w hg => of_4 w hg) (fun w => ones_4 w) (fun w => wideLen_any b (by omega) w) h1 h2 h3 h4 h5 w hg
theorem makeNo_4 (neg : Bool) (z : Int) (b : Nat) (hb : b < QQ) (h : ¬ (0 ≤ z ∧ z < 2 ^ 15 ∧ b < 2 ^ 112)) (w : World) (hg : FmtG w) :
    Calls Tryd.prog 26 #[.int .i64 4, .bool neg, .int .i64 z, .agg #[.int .u64 (dgl (b) 0 : Nat), .int .u64 (dgl (b) 1 : Nat), .int .u64 (dgl (b) 2 : Nat), .int .u64 (dgl (b) 3 : Nat), .int .u64 (dgl (b) 4 : Nat), .int .u64 (dgl (b) 5 : Nat), .int .u64 (dgl (b) 6 : Nat), .int .u64 (dgl (b) 7 : Nat)]] w fun e w' => e = .returned (.tuple #[.agg #[.int .u64 0, .int .u64 0], .bool false]) ∧ Below w.heap.size w w' := by
  by_cases h1 : z < 0
  · exact make_neg 4 neg z b (fun i => [128, 113, 16383, -16382, 15].getD i 0) h1 (fun w hg => of_4 w hg) w hg
  · by_cases h2 : ((32767 : Nat) : Int) < z
    · exact make_big 4 neg z b (fun i => [128, 113, 16383, -16382, 15].getD i 0) 32767 (decide_eq_false h1) h2 (fun w hg => of_4 w hg) (fun w => ones_4 w) w hg
    · have h3 : ¬ b < 2 ^ 112 := fun h3 => h ⟨by omega, by omega, h3⟩
      have h4 : (113 : Int) - 1 < (Go.bitLen b : Int) := by
        have := mt (len_le b 112).1 h3
        omega
      exact make_long 4 neg z b (fun i => [128, 113, 16383, -16382, 15].getD i 0) 32767 (by decide +kernel) (decide_eq_false h1) (decide_eq_false h2) h4 (fun w hg => of_4 w hg) (fun w => ones_4 w) (fun w => wideLen_any b hb w) w hg

end Go.Proofs.YtidfegilddlglaaDoor

