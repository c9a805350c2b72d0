/- Sums, differences and signs of wides, as numbers. -/
import Derived.Test.YtenbomfoihajhaaWideS
set_option linter.unusedVariables false
set_option linter.unusedSimpArgs false
set_option maxRecDepth 8000
namespace Go.Proofs.Ytenbomfoihajhaa
open Go.RowKit Plain

theorem add_back (a b : Nat) (ha : a < QQ) (hb : b < QQ) : subQ ((a + b) % QQ) b = a ∧ decide ((a + b) % QQ < b) = decide (QQ ≤ a + b) := by
  have hq : 0 < QQ := by omega
  have hs := Nat.mod_lt (a + b) hq
  have h := subW_eq (β := 18446744073709551616) (by decide) 8 ((a + b) % QQ) b
  rw [show b % 18446744073709551616 ^ 8 = b from Nat.mod_eq_of_lt hb, show (a + b) % QQ % 18446744073709551616 ^ 8 = (a + b) % QQ from Nat.mod_eq_of_lt hs] at h
  have hlt := subQ_lt ((a + b) % QQ) b
  have hbo : bor 18446744073709551616 ((a + b) % QQ) b 8 = if (a + b) % QQ < b then 1 else 0 := by
    unfold bor
    rw [show b % 18446744073709551616 ^ 8 = b from Nat.mod_eq_of_lt hb, show (a + b) % QQ % 18446744073709551616 ^ 8 = (a + b) % QQ from Nat.mod_eq_of_lt hs]
  rw [hbo] at h
  have e : subQ ((a + b) % QQ) b + b = (a + b) % QQ + QQ * (if (a + b) % QQ < b then 1 else 0) := h
  rcases Nat.lt_or_ge (a + b) QQ with h1 | h1
  · have hm : (a + b) % QQ = a + b := Nat.mod_eq_of_lt h1
    rw [hm] at e ⊢
    rw [if_neg (by omega)] at e
    refine ⟨by omega, ?_⟩
    rw [decide_eq_decide]; omega
  · have hm : (a + b) % QQ = a + b - QQ := by
      rw [Nat.mod_eq_sub_mod h1, Nat.mod_eq_of_lt (by omega)]
    rw [hm] at e ⊢
    rw [if_pos (by omega)] at e
    refine ⟨by omega, ?_⟩
    rw [decide_eq_decide]; omega

theorem neg_eq (a : Nat) (ha : a < QQ) : subQ 0 a = if a = 0 then 0 else QQ - a := by
  have h := subW_eq (β := 18446744073709551616) (by decide) 8 0 a
  have hlt := subQ_lt 0 a
  have hbo : bor 18446744073709551616 0 a 8 = if 0 < a then 1 else 0 := by
    unfold bor
    rw [show a % 18446744073709551616 ^ 8 = a from Nat.mod_eq_of_lt ha, Nat.zero_mod]
  rw [hbo, show a % 18446744073709551616 ^ 8 = a from Nat.mod_eq_of_lt ha, Nat.zero_mod] at h
  have e : subQ 0 a + a = 0 + QQ * (if 0 < a then 1 else 0) := h
  by_cases h0 : a = 0
  · rw [if_pos h0]; rw [if_neg (by omega)] at e; omega
  · rw [if_neg h0]; rw [if_pos (by omega)] at e; omega
theorem neg_neg (a : Nat) (ha : a < QQ) : subQ 0 (subQ 0 a) = a := by
  rw [neg_eq (subQ 0 a) (subQ_lt 0 a), neg_eq a ha]
  by_cases h0 : a = 0
  · rw [if_pos h0, if_pos rfl, h0]
  · rw [if_neg h0, if_neg (by omega)]; omega

theorem bitLen_lt (a : Nat) : a < 2 ^ Go.bitLen a := by
  unfold Go.bitLen
  split
  · rename_i h; rw [h]; decide
  · exact Nat.lt_log2_self
theorem bitLen_le (a q : Nat) (h : a < 2 ^ q) : Go.bitLen a ≤ q := by
  unfold Go.bitLen
  split
  · omega
  · rename_i h0
    have := (Nat.log2_lt h0).2 h
    omega

theorem cmp_neg (a b : Nat) : cmpN b a = -cmpN a b := by
  unfold cmpN
  rcases Nat.lt_trichotomy a b with h | h | h
  · rw [if_neg (by omega), if_pos h, if_pos h]; rfl
  · rw [if_neg (by omega), if_neg (by omega), if_neg (by omega), if_neg (by omega)]; rfl
  · rw [if_pos h, if_neg (by omega), if_pos h]

/-- The sign of what was shifted down with its sign. -/
theorem sar_sign (a k q H Z : Nat) (hk : k ≤ q) (hQ : 2 ^ q = QQ) (hH : QQ = 2 * H) (ha : a < QQ) (hZ : 0 < Z) :
    ((if (a / H % 2 == 1) = true then a + QQ * (QQ * Z - 1) else a) / 2 ^ k % QQ / H % 2 == 1) = (a / H % 2 == 1) := by
  have hH0 : 0 < H := by have := pow_pos' q QQ hQ; omega
  have hbit : ∀ x, x < QQ → ((x / H % 2 == 1) = true ↔ H ≤ x) := fun x hx => by
    rw [beq_iff_eq]
    rcases Nat.lt_or_ge x H with h | h
    · rw [Nat.div_eq_of_lt h]; omega
    · have : x / H = 1 := by apply Nat.div_eq_of_lt_le <;> omega
      rw [this]; omega
  by_cases hm : (a / H % 2 == 1) = true
  · rw [if_pos hm, hm]
    have h1 := (hbit a ha).1 hm
    have hS : QQ = 2 ^ k * 2 ^ (q - k) := by rw [← Nat.pow_add, show k + (q - k) = q by omega, hQ]
    have h := sar_num a k k (2 ^ k) (2 ^ k) (2 ^ (q - k)) Z q rfl rfl (by omega) hS hQ ha hZ
    rw [h.2]
    have hp : 0 < 2 ^ k := Nat.two_pow_pos k
    have hU1 : 1 ≤ (QQ - a + (2 ^ k - 1)) / 2 ^ k := (Nat.le_div_iff_mul_le hp).2 (by omega)
    have hU2 : (QQ - a + (2 ^ k - 1)) / 2 ^ k ≤ QQ - a := (ceil_div (2 ^ k) (QQ - a) (QQ - a) hp (by omega) (Nat.le_mul_of_pos_left _ hp)).1
    generalize (QQ - a + (2 ^ k - 1)) / 2 ^ k = U at *
    rw [Nat.mod_eq_of_lt (show QQ - U < QQ by omega)]
    exact (hbit _ (by omega)).2 (by omega)
  · rw [if_neg hm]
    have hmf : (a / H % 2 == 1) = false := Bool.eq_false_iff.2 hm
    rw [hmf, Bool.eq_false_iff]
    have hle : a / 2 ^ k ≤ a := Nat.div_le_self _ _
    rw [Nat.mod_eq_of_lt (Nat.lt_of_le_of_lt hle ha)]
    intro hc
    have h2 := (hbit _ (Nat.lt_of_le_of_lt hle ha)).1 hc
    exact hm ((hbit a ha).2 (by omega))

theorem sar_sign_gen (a k H : Nat) (hH : 2 ^ 511 = H) (hk : k ≤ 512) (ha : a < QQ) :
    ((if (a / H % 2 == 1) = true then a + QQ * (18446744073709551616 ^ 16 - 1) else a) / 2 ^ k % QQ / H % 2 == 1) = (a / H % 2 == 1) := by
  rw [zz_eq 16 rfl]
  exact sar_sign a k 512 H _ hk (qq_pow 512 rfl) (qq_half 511 H rfl hH) ha (Nat.pow_pos (by decide))
theorem sar_sign' (a k : Nat) (hk : k ≤ 512) (ha : a < QQ) : (extN a / 2 ^ k % QQ / 2 ^ 511 % 2 == 1) = (a / 2 ^ 511 % 2 == 1) :=
  sar_sign_gen a k _ rfl hk ha

end Go.Proofs.Ytenbomfoihajhaa
