/- radicandlaw02.awake. -/
import Derived.Test.YtenbomfoihajhaaWideG
set_option linter.unusedVariables false
set_option linter.unusedSimpArgs false
set_option maxRecDepth 8000
namespace Go.Proofs.Ytenbomfoihajhaa
open Go.RowKit Plain

theorem qq_m (m : Nat) (hm : m = 64 * 8) : QQ = 2 ^ m := by
  have h := LLpow 8
  unfold QQ
  rw [h, ← hm]
theorem qq_gen (k : Nat) (hk : k + 1 = 64 * 8) : QQ = 2 * 2 ^ k := by
  rw [qq_m (k + 1) hk, Nat.pow_succ, Nat.mul_comm]

theorem subQ01 : subQ 0 1 + 1 = QQ := by
  have h : subQ 0 1 + 1 % QQ = 0 % QQ + QQ * bor 18446744073709551616 0 1 8 := subW_eq (by decide) 8 0 1
  have hb : bor 18446744073709551616 0 1 8 = 1 := by
    unfold bor
    have h1 : 1 % 18446744073709551616 ^ 8 = 1 := Nat.mod_eq_of_lt one_lt_qq
    rw [Nat.zero_mod, h1]; rfl
  rw [hb, Nat.zero_mod, Nat.mod_eq_of_lt one_lt_qq] at h
  omega

/-- As many ones as there are. -/
theorem dgl_pow_ones (m i : Nat) (h : 64 * i + 64 ≤ m) : dgl (2 ^ m - 1) i = 18446744073709551615 := by
  unfold dgl
  rw [LLpow]
  have hp : 0 < 2 ^ (64 * i) := Nat.two_pow_pos _
  have e : 2 ^ m = 2 ^ (64 * i) * (18446744073709551616 * 2 ^ (m - 64 * i - 64)) := by
    have : (18446744073709551616 : Nat) = 2 ^ 64 := by decide
    rw [this, ← Nat.pow_add, ← Nat.pow_add]; congr 1; omega
  have hq : 0 < 2 ^ (m - 64 * i - 64) := Nat.two_pow_pos _
  have e2 : 2 ^ m - 1 = (2 ^ (64 * i) - 1) + 2 ^ (64 * i) * (18446744073709551616 * 2 ^ (m - 64 * i - 64) - 1) := by
    rw [e]
    generalize 2 ^ (64 * i) = P at *
    have ht : 0 < 18446744073709551616 * 2 ^ (m - 64 * i - 64) := Nat.mul_pos (by decide) hq
    generalize 18446744073709551616 * 2 ^ (m - 64 * i - 64) = t at *
    obtain ⟨s, rfl⟩ : ∃ s, t = s + 1 := ⟨t - 1, by omega⟩
    rw [Nat.add_sub_cancel, Nat.mul_add, Nat.mul_one]; omega
  rw [e2, Nat.add_mul_div_left _ _ hp, Nat.div_eq_of_lt (by omega), Nat.zero_add]
  generalize 2 ^ (m - 64 * i - 64) = s at *
  omega

theorem dgl_subQ01_m (m : Nat) (hm : m = 64 * 8) (i : Nat) (hi : i < 8) : dgl (subQ 0 1) i = 18446744073709551615 := by
  have h1 := subQ01
  have h2 := qq_m m hm
  have e : subQ 0 1 = 2 ^ m - 1 := by omega
  rw [e]
  exact dgl_pow_ones m i (by omega)
theorem dgl_subQ01 (i : Nat) (hi : i < 8) : dgl (subQ 0 1) i = 18446744073709551615 := dgl_subQ01_m _ rfl i hi

theorem minus_gen (k : Nat) (hk : k + 1 = 64 * 8) : (subQ 0 1 / 2 ^ k % 2 == 1) = true := by
  have h1 := subQ01
  have h2 := qq_gen k hk
  have hp : 0 < 2 ^ k := Nat.two_pow_pos k
  generalize 2 ^ k = P at *
  have e : subQ 0 1 / P = 1 := by
    apply Nat.div_eq_of_lt_le
    · omega
    · omega
  rw [e]; rfl
theorem minus_ones : (subQ 0 1 / 2 ^ 511 % 2 == 1) = true := minus_gen 511 rfl

theorem len_gen (k : Nat) (hk : k + 1 = 64 * 8) : Go.bitLen (subQ 0 1) = k + 1 := by
  have h1 := subQ01
  have h2 := qq_gen k hk
  have hs := bitLen_spec (subQ 0 1)
  have hp : 0 < 2 ^ k := Nat.two_pow_pos k
  have hq := qq_m (k + 1) hk
  have a1 : Go.bitLen (subQ 0 1) ≤ k + 1 := pow_inj_len (β := 2) (by decide) (n := subQ 0 1) (by rw [← hq]; omega) (.inr (hs.2 (by omega)))
  have a2 : k + 1 ≤ Go.bitLen (subQ 0 1) := pow_inj_len (β := 2) (by decide) (n := subQ 0 1) hs.1 (.inr (by rw [Nat.add_sub_cancel]; omega))
  omega
theorem len_ones : Go.bitLen (subQ 0 1) = 512 := len_gen 511 rfl

theorem sar_gen (k m : Nat) (hk : k + 3 = m) (hm : m = 64 * 24) (i : Nat) (hi : i < 8) : dgl (sh (extN (subQ 0 1)) (-3)) i = dgl (subQ 0 1) i := by
  rw [dgl_subQ01 i hi]
  have h1 := subQ01
  have hL := LLpow 24
  rw [← hm] at hL
  have e : extN (subQ 0 1) = 2 ^ m - 1 := by
    unfold extN
    rw [if_pos minus_ones, ← hL]
    have e2 : (18446744073709551616 : Nat) ^ 24 = QQ * 18446744073709551616 ^ 16 := by unfold QQ; rw [← Nat.pow_add]
    have hp : 0 < 18446744073709551616 ^ 16 := Nat.pow_pos (by decide)
    rw [e2]
    clear hL e2
    generalize 18446744073709551616 ^ 16 = T at *
    obtain ⟨t, rfl⟩ : ∃ t, T = t + 1 := ⟨T - 1, by omega⟩
    rw [Nat.add_sub_cancel, Nat.mul_add]
    omega
  have e3 : sh (2 ^ m - 1) (-3) = 2 ^ k - 1 := by
    have e4 : 2 ^ m = 2 ^ k * 8 := by rw [← hk, Nat.pow_add]
    have e5 : (- -3 : Int).toNat = 3 := by decide
    unfold sh
    rw [if_pos (by decide), e5, e4]
    have hp : 0 < 2 ^ k := Nat.two_pow_pos k
    clear hL e e4
    generalize 2 ^ k = K at *
    omega
  rw [e, e3]
  exact dgl_pow_ones k i (by omega)
theorem sar_ones (i : Nat) (hi : i < 8) : dgl (sh (extN (subQ 0 1)) (-3)) i = dgl (subQ 0 1) i := sar_gen 1533 1536 rfl rfl i hi

theorem wideSub0 (w : World) :
    Calls Try.prog 41 #[.agg #[.int .u64 0, .int .u64 0, .int .u64 0, .int .u64 0, .int .u64 0, .int .u64 0, .int .u64 0, .int .u64 0], .agg #[.int .u64 (dgl (1) 0 : Nat), .int .u64 (dgl (1) 1 : Nat), .int .u64 (dgl (1) 2 : Nat), .int .u64 (dgl (1) 3 : Nat), .int .u64 (dgl (1) 4 : Nat), .int .u64 (dgl (1) 5 : Nat), .int .u64 (dgl (1) 6 : Nat), .int .u64 (dgl (1) 7 : Nat)]] w fun e w' => e = .returned (.tuple #[.agg #[.int .u64 (dgl (subQ 0 1) 0 : Nat), .int .u64 (dgl (subQ 0 1) 1 : Nat), .int .u64 (dgl (subQ 0 1) 2 : Nat), .int .u64 (dgl (subQ 0 1) 3 : Nat), .int .u64 (dgl (subQ 0 1) 4 : Nat), .int .u64 (dgl (subQ 0 1) 5 : Nat), .int .u64 (dgl (subQ 0 1) 6 : Nat), .int .u64 (dgl (subQ 0 1) 7 : Nat)], .bool true]) ∧ Below w.heap.size w w' := by
  have h := wideSub_any 0 1 (by unfold QQ; exact Nat.pow_pos (by decide)) one_lt_qq w
  have hd : decide (0 < 1) = true := by decide
  rw [hd] at h
  simp only [dgl_zero] at h
  exact h

theorem sar_awake (w : World) :
    Calls Try.prog 22 #[.agg #[.int .u64 (dgl (subQ 0 1) 0 : Nat), .int .u64 (dgl (subQ 0 1) 1 : Nat), .int .u64 (dgl (subQ 0 1) 2 : Nat), .int .u64 (dgl (subQ 0 1) 3 : Nat), .int .u64 (dgl (subQ 0 1) 4 : Nat), .int .u64 (dgl (subQ 0 1) 5 : Nat), .int .u64 (dgl (subQ 0 1) 6 : Nat), .int .u64 (dgl (subQ 0 1) 7 : Nat)], .int .i64 3] w fun e w' => e = .returned (.agg #[.int .u64 (dgl (subQ 0 1) 0 : Nat), .int .u64 (dgl (subQ 0 1) 1 : Nat), .int .u64 (dgl (subQ 0 1) 2 : Nat), .int .u64 (dgl (subQ 0 1) 3 : Nat), .int .u64 (dgl (subQ 0 1) 4 : Nat), .int .u64 (dgl (subQ 0 1) 5 : Nat), .int .u64 (dgl (subQ 0 1) 6 : Nat), .int .u64 (dgl (subQ 0 1) 7 : Nat)]) ∧ Below w.heap.size w w' := by
  have h := wideSar_any (subQ 0 1) 3 (subQ_lt 0 1) w
  have e3 : roomI 3 = 3 := by decide
  rw [e3] at h
  have e : (#[.int .u64 (dgl (sh (extN (subQ 0 1)) (-3)) 0 : Nat), .int .u64 (dgl (sh (extN (subQ 0 1)) (-3)) 1 : Nat), .int .u64 (dgl (sh (extN (subQ 0 1)) (-3)) 2 : Nat), .int .u64 (dgl (sh (extN (subQ 0 1)) (-3)) 3 : Nat), .int .u64 (dgl (sh (extN (subQ 0 1)) (-3)) 4 : Nat), .int .u64 (dgl (sh (extN (subQ 0 1)) (-3)) 5 : Nat), .int .u64 (dgl (sh (extN (subQ 0 1)) (-3)) 6 : Nat), .int .u64 (dgl (sh (extN (subQ 0 1)) (-3)) 7 : Nat)] : Array Value) = #[.int .u64 (dgl (subQ 0 1) 0 : Nat), .int .u64 (dgl (subQ 0 1) 1 : Nat), .int .u64 (dgl (subQ 0 1) 2 : Nat), .int .u64 (dgl (subQ 0 1) 3 : Nat), .int .u64 (dgl (subQ 0 1) 4 : Nat), .int .u64 (dgl (subQ 0 1) 5 : Nat), .int .u64 (dgl (subQ 0 1) 6 : Nat), .int .u64 (dgl (subQ 0 1) 7 : Nat)] := w8_congr (x := dgl (sh (extN (subQ 0 1)) (-3))) (y := dgl (subQ 0 1)) sar_ones
  rw [e] at h
  exact h
theorem len_awake (w : World) :
    Calls Try.prog 30 #[.agg #[.int .u64 (dgl (subQ 0 1) 0 : Nat), .int .u64 (dgl (subQ 0 1) 1 : Nat), .int .u64 (dgl (subQ 0 1) 2 : Nat), .int .u64 (dgl (subQ 0 1) 3 : Nat), .int .u64 (dgl (subQ 0 1) 4 : Nat), .int .u64 (dgl (subQ 0 1) 5 : Nat), .int .u64 (dgl (subQ 0 1) 6 : Nat), .int .u64 (dgl (subQ 0 1) 7 : Nat)]] w fun e w' => e = .returned (.int .i64 512) ∧ Below w.heap.size w w' := by
  have h := wideLen_any (subQ 0 1) (subQ_lt 0 1) w
  rw [len_ones] at h
  exact h

end Go.Proofs.Ytenbomfoihajhaa
