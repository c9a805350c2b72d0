/- Contracts and laws: RdxN. -/
import Derived.Test.YtbngaajhdaciaaaDoorRows
import Derived.Test.YtbngaajhdaciaaaDoorPartAB
/- Numbers for division and roots, digit by digit: nothing of the program is named here. -/
set_option linter.unusedVariables false
set_option linter.unusedSimpArgs false
set_option maxRecDepth 8000
namespace Go.Proofs.YtbngaajhdaciaaaDoor

/-- A number without its lowest c bits. -/
def hiN (q c : Nat) : Nat := q / 2 ^ c * 2 ^ c
theorem hiN_zero (q : Nat) : hiN q 0 = q := by unfold hiN; rw [Nat.pow_zero, Nat.div_one, Nat.mul_one]
theorem hiN_top {q m : Nat} (h : q < 2 ^ m) : hiN q m = 0 := by unfold hiN; rw [Nat.div_eq_of_lt h, Nat.zero_mul]
theorem hiN_le (q c : Nat) : hiN q c ≤ q := Nat.div_mul_le_self _ _
theorem hiN_split (q c : Nat) : q = hiN q c + q % 2 ^ c := by
  unfold hiN
  rw [Nat.mul_comm, Nat.div_add_mod]
theorem bitN_cases (q c : Nat) : q / 2 ^ c % 2 = 0 ∨ q / 2 ^ c % 2 = 1 := by
  have := Nat.mod_lt (q / 2 ^ c) (show 0 < 2 by decide)
  omega
theorem hiN_step (q c : Nat) : hiN q c = hiN q (c + 1) + q / 2 ^ c % 2 * 2 ^ c := by
  unfold hiN
  have h1 : q / 2 ^ (c + 1) = q / 2 ^ c / 2 := by rw [Nat.pow_succ, Nat.div_div_eq_div_mul]
  rw [h1, Nat.pow_succ, show q / 2 ^ c / 2 * (2 ^ c * 2) = q / 2 ^ c / 2 * 2 * 2 ^ c by rw [Nat.mul_comm (2 ^ c) 2, Nat.mul_assoc], ← Nat.add_mul]
  congr 1
  omega
theorem hiN_on {q c : Nat} (h : q / 2 ^ c % 2 = 1) : hiN q c = hiN q (c + 1) + 2 ^ c := by rw [hiN_step, h, Nat.one_mul]
theorem hiN_off {q c : Nat} (h : q / 2 ^ c % 2 = 0) : hiN q c = hiN q (c + 1) := by rw [hiN_step, h, Nat.zero_mul, Nat.add_zero]
/-- The bit tells whether it may be added. -/
theorem hiN_iff (q c : Nat) : hiN q (c + 1) + 2 ^ c ≤ q ↔ q / 2 ^ c % 2 = 1 := by
  have h1 := hiN_split q c
  have h2 := hiN_step q c
  have h3 := Nat.mod_lt q (Nat.two_pow_pos c)
  rcases bitN_cases q c with h | h
  · rw [h] at h2 ⊢
    omega
  · rw [h] at h2 ⊢
    omega
/-- What is left of a dividend when the quotient's lowest c bits are still to be found. -/
def leftN (n d c : Nat) : Nat := n - hiN (n / d) c * d
theorem leftN_top {n d m : Nat} (h : n / d < 2 ^ m) : leftN n d m = n := by unfold leftN; rw [hiN_top h, Nat.zero_mul, Nat.sub_zero]
theorem leftN_zero (n d : Nat) : leftN n d 0 = n % d := by
  unfold leftN
  rw [hiN_zero]
  have := Nat.div_add_mod n d
  rw [Nat.mul_comm] at this
  omega
theorem leftN_le (n d c : Nat) : leftN n d c ≤ n := Nat.sub_le _ _
theorem hiN_mul_le (n d c : Nat) : hiN (n / d) c * d ≤ n := Nat.le_trans (Nat.mul_le_mul_right _ (hiN_le _ _)) (Nat.div_mul_le_self n d)
theorem mul_le_iff {n d y : Nat} (hd : 0 < d) : y * d ≤ n ↔ y ≤ n / d := (Nat.le_div_iff_mul_le hd).symm
theorem quo_iff {n d c : Nat} (hd : 0 < d) : (hiN (n / d) (c + 1) + 2 ^ c) * d ≤ n ↔ n / d / 2 ^ c % 2 = 1 := by
  rw [mul_le_iff hd, hiN_iff]
theorem left_iff {n d c : Nat} (hd : 0 < d) : d * 2 ^ c ≤ leftN n d (c + 1) ↔ n / d / 2 ^ c % 2 = 1 := by
  rw [← quo_iff hd]
  have h := hiN_mul_le n d (c + 1)
  unfold leftN
  rw [Nat.add_mul, Nat.mul_comm (2 ^ c) d]
  omega
theorem leftN_on {n d c : Nat} (h : n / d / 2 ^ c % 2 = 1) : leftN n d c = leftN n d (c + 1) - d * 2 ^ c := by
  unfold leftN
  rw [hiN_on h, Nat.add_mul, Nat.mul_comm (2 ^ c) d, Nat.sub_add_eq]
theorem leftN_off {n d c : Nat} (h : n / d / 2 ^ c % 2 = 0) : leftN n d c = leftN n d (c + 1) := by
  unfold leftN
  rw [hiN_off h]

end Go.Proofs.YtbngaajhdaciaaaDoor

