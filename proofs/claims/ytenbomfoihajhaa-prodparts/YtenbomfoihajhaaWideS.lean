/- radicandref02.Sar, as numbers: it tells what wide.Sar does. -/
import Derived.Test.YtenbomfoihajhaaWideR
set_option linter.unusedVariables false
set_option linter.unusedSimpArgs false
set_option maxRecDepth 8000
namespace Go.Proofs.Ytenbomfoihajhaa
open Go.RowKit Plain

theorem ceil_div (R Y m : Nat) (hR : 0 < R) (hm : 0 < m) (hle : m ≤ R * Y) : (m + (R - 1)) / R ≤ Y ∧ (R * Y - m) / R = Y - (m + (R - 1)) / R := by
  have h1 := Nat.div_add_mod (m + (R - 1)) R
  have h2 := Nat.mod_lt (m + (R - 1)) hR
  generalize (m + (R - 1)) / R = c at *
  generalize (m + (R - 1)) % R = s at *
  have hcY : c ≤ Y := by
    apply Nat.le_of_lt_succ
    apply Nat.lt_of_mul_lt_mul_left (a := R)
    rw [Nat.mul_succ]; omega
  refine ⟨hcY, ?_⟩
  obtain ⟨d, rfl⟩ : ∃ d, Y = c + d := ⟨Y - c, by omega⟩
  rw [Nat.mul_add] at hle ⊢
  rw [show R * c + R * d - m = (R - 1 - s) + R * d by omega, Nat.add_mul_div_left _ _ hR, Nat.div_eq_of_lt (by omega)]
  omega

theorem ext_add (a : Nat) (ha : a < QQ) (Z : Nat) (hZ : 0 < Z) : (a + QQ * (Z - 1)) + (QQ - a) = QQ * Z := by
  obtain ⟨z, rfl⟩ : ∃ z, Z = z + 1 := ⟨Z - 1, by omega⟩
  rw [Nat.add_sub_cancel, Nat.mul_succ]; omega

/-- What is said of numbers below 2^512 alone. -/
theorem sar_num (a k r R P S Z q : Nat) (hP : 2 ^ k = P) (hR : 2 ^ r = R) (hr : r = min k q) (hS : QQ = R * S) (hQ : 2 ^ q = QQ) (ha : a < QQ) (hZ : 0 < Z) :
    (QQ - a + (P - 1)) / P ≤ QQ ∧ (a + QQ * (QQ * Z - 1)) / R % QQ = (QQ - (QQ - a + (P - 1)) / P) % QQ := by
  have hR0 : 0 < R := pow_pos' r R hR
  have hP0 : 0 < P := pow_pos' k P hP
  have hQ0 : 0 < QQ := pow_pos' q QQ hQ
  have hU : (QQ - a + (P - 1)) / P = (QQ - a + (R - 1)) / R := by
    rcases Nat.lt_or_ge q k with h | h
    · have hrq : r = q := by omega
      subst hrq
      have hRQ : R = QQ := by rw [← hR, hQ]
      have hPQ : QQ ≤ P := by rw [← hQ, ← hP]; exact Nat.pow_le_pow_right (by decide) (by omega)
      rw [hRQ]
      have e1 : (QQ - a + (P - 1)) / P = 1 := by
        apply Nat.div_eq_of_lt_le <;> omega
      have e2 : (QQ - a + (QQ - 1)) / QQ = 1 := by
        apply Nat.div_eq_of_lt_le <;> omega
      rw [e1, e2]
    · have : r = k := by omega
      subst this
      rw [← hP, ← hR]
  have hle : (QQ - a + (P - 1)) / P ≤ QQ := by
    have h := (ceil_div P (QQ - a) (QQ - a) hP0 (by omega) (Nat.le_mul_of_pos_left _ hP0)).1
    omega
  refine ⟨hle, ?_⟩
  rw [hU] at hle ⊢
  have hE := ext_add a ha (QQ * Z) (Nat.mul_pos hQ0 hZ)
  have hY : QQ * (QQ * Z) = R * (QQ * (S * Z)) := by
    have h1 : R * (QQ * (S * Z)) = R * S * (QQ * Z) := by ac_rfl
    rw [h1, ← hS]
  rw [hY] at hE
  have hc := ceil_div R (QQ * (S * Z)) (QQ - a) hR0 (by omega) (by omega)
  have hEe : a + QQ * (QQ * Z - 1) = R * (QQ * (S * Z)) - (QQ - a) := by omega
  rw [hEe, hc.2]
  have hSZ : 0 < S * Z := by
    rcases Nat.eq_zero_or_pos S with h | h
    · rw [h] at hS; omega
    · exact Nat.mul_pos h hZ
  obtain ⟨y, hy⟩ : ∃ y, S * Z = y + 1 := ⟨S * Z - 1, by omega⟩
  rw [hy, Nat.mul_succ]
  generalize (QQ - a + (R - 1)) / R = U at *
  rw [show QQ * y + QQ - U = (QQ - U) + QQ * y by omega, Nat.add_mul_mod_self_left]

theorem div_past (a k r q : Nat) (hr : r = min k q) (hQ : 2 ^ q = QQ) (ha : a < QQ) : a / 2 ^ r = a / 2 ^ k := by
  rcases Nat.lt_or_ge q k with h | h
  · have hrq : r = q := by omega
    subst hrq
    have h2 : a < 2 ^ r := by rw [hQ]; exact ha
    have h3 : 2 ^ r ≤ 2 ^ k := Nat.pow_le_pow_right (by decide) (by omega)
    rw [Nat.div_eq_of_lt h2, Nat.div_eq_of_lt (Nat.lt_of_lt_of_le h2 h3)]
  · have : r = k := by omega
    rw [this]
theorem mul_past (a k r q : Nat) (hr : r = min k q) (hQ : 2 ^ q = QQ) : (a * 2 ^ r) % QQ = (a * 2 ^ k) % QQ := by
  rcases Nat.lt_or_ge q k with h | h
  · have hrq : r = q := by omega
    subst hrq
    obtain ⟨d, rfl⟩ : ∃ d, k = r + d := ⟨k - r, by omega⟩
    rw [Nat.pow_add, hQ, Nat.mul_mod_left, show a * (QQ * 2 ^ d) = QQ * (a * 2 ^ d) by ac_rfl, Nat.mul_mod_right]
  · have : r = k := by omega
    rw [this]

theorem room_min (n : Int) (k r : Nat) (hk : (k : Int) = min (max n 0) 600) (hr : roomI n = (r : Int)) : r = min k 512 := by
  unfold roomI at hr; omega

theorem qq_split (r : Nat) (hr : r ≤ 64 * 8) : QQ = 2 ^ r * 2 ^ (64 * 8 - r) := by
  rw [← Nat.pow_add, show r + (64 * 8 - r) = 64 * 8 by omega]; exact (qq_pow _ rfl).symm

theorem zz_eq (m : Nat) (hm : m = 16) : (18446744073709551616 : Nat) ^ m = QQ * 18446744073709551616 ^ 8 := by
  unfold QQ; rw [← Nat.pow_add, hm]

theorem refSar_any (a : Nat) (n : Int) (ha : a < QQ) (w : World) :
    Calls Try.prog 23 #[.agg #[.int .u64 (dgl (a) 0 : Nat), .int .u64 (dgl (a) 1 : Nat), .int .u64 (dgl (a) 2 : Nat), .int .u64 (dgl (a) 3 : Nat), .int .u64 (dgl (a) 4 : Nat), .int .u64 (dgl (a) 5 : Nat), .int .u64 (dgl (a) 6 : Nat), .int .u64 (dgl (a) 7 : Nat)], .int .i64 n] w fun e w' => e = .returned (.agg #[.int .u64 (dgl (sh (extN a) (-(roomI n))) 0 : Nat), .int .u64 (dgl (sh (extN a) (-(roomI n))) 1 : Nat), .int .u64 (dgl (sh (extN a) (-(roomI n))) 2 : Nat), .int .u64 (dgl (sh (extN a) (-(roomI n))) 3 : Nat), .int .u64 (dgl (sh (extN a) (-(roomI n))) 4 : Nat), .int .u64 (dgl (sh (extN a) (-(roomI n))) 5 : Nat), .int .u64 (dgl (sh (extN a) (-(roomI n))) 6 : Nat), .int .u64 (dgl (sh (extN a) (-(roomI n))) 7 : Nat)]) ∧ Below w.heap.size w w' := by
  obtain ⟨k, hk⟩ : ∃ k : Nat, (k : Int) = min (max n 0) 600 := ⟨(min (max n 0) 600).toNat, by omega⟩
  obtain ⟨r, hr⟩ : ∃ r : Nat, roomI n = (r : Int) := ⟨(roomI n).toNat, by have := roomI_bd n; omega⟩
  have hrk := room_min n k r hk hr
  have hq := qq_pow 512 rfl
  rw [hr, sh_down]
  by_cases hm : (a / 2 ^ 511 % 2 == 1) = true
  · have hext : extN a = a + QQ * (18446744073709551616 ^ 16 - 1) := by unfold extN; rw [if_pos hm]
    rw [hext, zz_eq 16 rfl]
    have h := sar_num a k r (2 ^ r) (2 ^ k) (2 ^ (64 * 8 - r)) (18446744073709551616 ^ 8) 512 rfl rfl hrk (qq_split r (by omega)) hq ha (Nat.pow_pos (by decide))
    rw [w8_mod h.2]
    exact refSar_neg a k (2 ^ k) _ n hk ha hm rfl rfl h.1 w
  · have hmf : (a / 2 ^ 511 % 2 == 1) = false := Bool.eq_false_iff.2 hm
    have hext : extN a = a := by unfold extN; rw [if_neg hm]
    rw [hext, div_past a k r 512 hrk hq ha]
    exact refSar_pos a k n hk ha hmf w

end Go.Proofs.Ytenbomfoihajhaa
