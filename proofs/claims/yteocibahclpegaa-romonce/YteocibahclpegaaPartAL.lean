/- Contracts and laws: RdxN. -/
import Derived.Test.YteocibahclpegaaRows
import Derived.Test.YteocibahclpegaaPartAB
/- Numbers for division and roots, digit by digit: nothing of the program is named here. -/
set_option linter.unusedVariables false
set_option linter.unusedSimpArgs false
set_option maxRecDepth 8000
namespace Go.Proofs.Yteocibahclpegaa

/-- A number without its lowest c bits. -/
def hiN (q c : Nat) : Nat := q / 2 ^ c * 2 ^ c
theorem hiN_zero (q : Nat) : hiN q 0 = q := by unfold hiN; rw [Nat.pow_zero, Nat.div_one, Nat.mul_one]
theorem hiN_top {q m : Nat} (h : q < 2 ^ m) : hiN q m = 0 := by unfold hiN; rw [Nat.div_eq_of_lt h, Nat.zero_mul]
theorem hiN_le (q c : Nat) : hiN q c ≤ q := Nat.div_mul_le_self _ _
theorem hiN_split (q c : Nat) : q = hiN q c + q % 2 ^ c := by
  unfold hiN
  rw [Nat.mul_comm, Nat.div_add_mod]
theorem bitN_cases (q c : Nat) : q / 2 ^ c % 2 = 0 ∨ q / 2 ^ c % 2 = 1 := by
  have := Nat.mod_lt (q / 2 ^ c) (show 0 < 2 by decide)
  omega
theorem hiN_step (q c : Nat) : hiN q c = hiN q (c + 1) + q / 2 ^ c % 2 * 2 ^ c := by
  unfold hiN
  have h1 : q / 2 ^ (c + 1) = q / 2 ^ c / 2 := by rw [Nat.pow_succ, Nat.div_div_eq_div_mul]
  rw [h1, Nat.pow_succ, show q / 2 ^ c / 2 * (2 ^ c * 2) = q / 2 ^ c / 2 * 2 * 2 ^ c by rw [Nat.mul_comm (2 ^ c) 2, Nat.mul_assoc], ← Nat.add_mul]
  congr 1
  omega
theorem hiN_on {q c : Nat} (h : q / 2 ^ c % 2 = 1) : hiN q c = hiN q (c + 1) + 2 ^ c := by rw [hiN_step, h, Nat.one_mul]
theorem hiN_off {q c : Nat} (h : q / 2 ^ c % 2 = 0) : hiN q c = hiN q (c + 1) := by rw [hiN_step, h, Nat.zero_mul, Nat.add_zero]
/-- The bit tells whether it may be added. -/
theorem hiN_iff (q c : Nat) : hiN q (c + 1) + 2 ^ c ≤ q ↔ q / 2 ^ c % 2 = 1 := by
  have h1 := hiN_split q c
  have h2 := hiN_step q c
  have h3 := Nat.mod_lt q (Nat.two_pow_pos c)
  rcases bitN_cases q c with h | h
  · rw [h] at h2 ⊢
    omega
  · rw [h] at h2 ⊢
    omega
theorem root_iff {k n s c : Nat} (hs : ∀ y, y ^ k ≤ n ↔ y ≤ s) : (hiN s (c + 1) + 2 ^ c) ^ k ≤ n ↔ s / 2 ^ c % 2 = 1 := by rw [hs, hiN_iff]
end Go.Proofs.Yteocibahclpegaa

