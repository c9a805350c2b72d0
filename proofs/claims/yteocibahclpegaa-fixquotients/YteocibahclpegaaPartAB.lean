/- Contracts and laws: RdxN. -/
import Derived.Test.YteocibahclpegaaRows
import Derived.Test.YteocibahclpegaaPartAA
/- Numbers for division and roots, digit by digit: nothing of the program is named here. -/
set_option linter.unusedVariables false
set_option linter.unusedSimpArgs false
set_option maxRecDepth 8000
namespace Go.Proofs.Yteocibahclpegaa

/-- A number without its lowest c bits. -/
def hiN (q c : Nat) : Nat := q / 2 ^ c * 2 ^ c
theorem hiN_zero (q : Nat) : hiN q 0 = q := by unfold hiN; rw [Nat.pow_zero, Nat.div_one, Nat.mul_one]
theorem hiN_top {q m : Nat} (h : q < 2 ^ m) : hiN q m = 0 := by unfold hiN; rw [Nat.div_eq_of_lt h, Nat.zero_mul]
theorem hiN_split (q c : Nat) : q = hiN q c + q % 2 ^ c := by
  unfold hiN
  rw [Nat.mul_comm, Nat.div_add_mod]
theorem bitN_cases (q c : Nat) : q / 2 ^ c % 2 = 0 ∨ q / 2 ^ c % 2 = 1 := by
  have := Nat.mod_lt (q / 2 ^ c) (show 0 < 2 by decide)
  omega
theorem hiN_step (q c : Nat) : hiN q c = hiN q (c + 1) + q / 2 ^ c % 2 * 2 ^ c := by
  unfold hiN
  have h1 : q / 2 ^ (c + 1) = q / 2 ^ c / 2 := by rw [Nat.pow_succ, Nat.div_div_eq_div_mul]
  rw [h1, Nat.pow_succ, show q / 2 ^ c / 2 * (2 ^ c * 2) = q / 2 ^ c / 2 * 2 * 2 ^ c by rw [Nat.mul_comm (2 ^ c) 2, Nat.mul_assoc], ← Nat.add_mul]
  congr 1
  omega
theorem hiN_on {q c : Nat} (h : q / 2 ^ c % 2 = 1) : hiN q c = hiN q (c + 1) + 2 ^ c := by rw [hiN_step, h, Nat.one_mul]
theorem hiN_off {q c : Nat} (h : q / 2 ^ c % 2 = 0) : hiN q c = hiN q (c + 1) := by rw [hiN_step, h, Nat.zero_mul, Nat.add_zero]
/-- The bit tells whether it may be added. -/
theorem hiN_iff (q c : Nat) : hiN q (c + 1) + 2 ^ c ≤ q ↔ q / 2 ^ c % 2 = 1 := by
  have h1 := hiN_split q c
  have h2 := hiN_step q c
  have h3 := Nat.mod_lt q (Nat.two_pow_pos c)
  rcases bitN_cases q c with h | h
  · rw [h] at h2 ⊢
    omega
  · rw [h] at h2 ⊢
    omega
/-- What is left of a dividend when the quotient's lowest c bits are still to be found. -/
def leftN (n d c : Nat) : Nat := n - hiN (n / d) c * d
theorem leftN_zero (n d : Nat) : leftN n d 0 = n % d := by
  unfold leftN
  rw [hiN_zero]
  have := Nat.div_add_mod n d
  rw [Nat.mul_comm] at this
  omega
theorem mul_le_iff {n d y : Nat} (hd : 0 < d) : y * d ≤ n ↔ y ≤ n / d := (Nat.le_div_iff_mul_le hd).symm
theorem quo_iff {n d c : Nat} (hd : 0 < d) : (hiN (n / d) (c + 1) + 2 ^ c) * d ≤ n ↔ n / d / 2 ^ c % 2 = 1 := by
  rw [mul_le_iff hd, hiN_iff]
/-- Every number has a root. -/
theorem root_ex (k : Nat) (hk : 0 < k) (n : Nat) : ∃ s, ∀ y, y ^ k ≤ n ↔ y ≤ s := by
  have mono : ∀ {a b : Nat}, a ≤ b → a ^ k ≤ b ^ k := fun h => Nat.pow_le_pow_left h k
  have key : ∃ s, s ^ k ≤ n ∧ n < (s + 1) ^ k := by
    induction n with
    | zero => exact ⟨0, by rw [Nat.zero_pow hk]; exact Nat.le_refl _, by rw [Nat.zero_add, Nat.one_pow]; decide⟩
    | succ n ih =>
      obtain ⟨s, h1, h2⟩ := ih
      rcases Nat.lt_or_ge (n + 1) ((s + 1) ^ k) with h | h
      · exact ⟨s, by omega, h⟩
      · refine ⟨s + 1, h, ?_⟩
        have h3 : (s + 1) ^ k < (s + 1 + 1) ^ k := Nat.pow_lt_pow_left (Nat.lt_succ_self _) (by omega)
        omega
  obtain ⟨s, h1, h2⟩ := key
  refine ⟨s, fun y => ⟨fun h => ?_, fun h => Nat.le_trans (mono h) h1⟩⟩
  rcases Nat.lt_or_ge s y with h3 | h3
  · have := mono (show s + 1 ≤ y from h3)
    omega
  · exact h3
theorem root_iff {k n s c : Nat} (hs : ∀ y, y ^ k ≤ n ↔ y ≤ s) : (hiN s (c + 1) + 2 ^ c) ^ k ≤ n ↔ s / 2 ^ c % 2 = 1 := by rw [hs, hiN_iff]
theorem root_lt {k n s m : Nat} (hs : ∀ y, y ^ k ≤ n ↔ y ≤ s) (h : n < (2 ^ m) ^ k) : s < 2 ^ m := by
  rcases Nat.lt_or_ge s (2 ^ m) with h1 | h1
  · exact h1
  · have := (hs (2 ^ m)).2 h1
    omega
end Go.Proofs.Yteocibahclpegaa

