/- Contracts of radicandref01: Limbs. -/
import Derived.Test.YtenbomfoihajhaaRefE
set_option linter.unusedVariables false
set_option linter.unusedSimpArgs false
set_option maxRecDepth 8000
namespace Go.Proofs.Ytenbomfoihajhaa
open Go.RowKit Plain

/-- What Limbs has behind i digits of N: as many limbs as are begun. -/
def LimInv (N i : Nat) (o : List Nat) : Prop := o.length = (i + 63) / 64 ∧ (∀ j, dg o j < 18446744073709551616) ∧ val 18446744073709551616 o = N % 2 ^ i

theorem limInv_zero (N : Nat) : LimInv N 0 [] := ⟨rfl, fun j => by simp [dg], by simp [val, Nat.mod_one]⟩

theorem limInv_push {N i : Nat} {o : List Nat} (h : LimInv N i o) (hi : i % 64 = 0) : (o ++ [0]).length = i / 64 + 1 ∧ (∀ j, dg (o ++ [0]) j < 18446744073709551616) ∧ val 18446744073709551616 (o ++ [0]) = N % 2 ^ i := by
  obtain ⟨h1, h2, h3⟩ := h
  refine ⟨by simp; omega, fun j => ?_, ?_⟩
  · rw [getD_snoc]; split
    · decide
    · exact h2 j
  · rw [val_append, h3]; simp [val]

/-- The limb that a digit goes to, ahead of it. -/
theorem lim_room {N i : Nat} {o : List Nat} (h1 : o.length = i / 64 + 1) (h2 : ∀ j, dg o j < 18446744073709551616) (h3 : val 18446744073709551616 o = N % 2 ^ i) : dg o (i / 64) < 2 ^ (i % 64) := by
  have hd := val_dig (β := 18446744073709551616) (by decide) o h2
  rw [h3] at hd
  rw [hd.2, LLpow]
  refine Nat.lt_of_le_of_lt (Nat.mod_le _ _) ?_
  rw [Nat.div_lt_iff_lt_mul (Nat.two_pow_pos _), ← Nat.pow_add]
  have : i % 64 + 64 * (i / 64) = i := by omega
  rw [this]
  exact Nat.mod_lt _ (Nat.two_pow_pos i)

theorem lim_keep {N i : Nat} {o : List Nat} (h1 : o.length = i / 64 + 1) (h2 : ∀ j, dg o j < 18446744073709551616) (h3 : val 18446744073709551616 o = N % 2 ^ i) (hb : N / 2 ^ i % 2 = 0) : LimInv N (i + 1) o := by
  refine ⟨by omega, h2, ?_⟩
  rw [Nat.pow_succ, Nat.mod_mul, hb, h3]; simp

theorem lim_set {N i : Nat} {o : List Nat} (h1 : o.length = i / 64 + 1) (h2 : ∀ j, dg o j < 18446744073709551616) (h3 : val 18446744073709551616 o = N % 2 ^ i) (hb : N / 2 ^ i % 2 = 1) :
    dg o (i / 64) + 2 ^ (i % 64) < 18446744073709551616 ∧ LimInv N (i + 1) (o.set (i / 64) (dg o (i / 64) + 2 ^ (i % 64))) := by
  have hr := lim_room h1 h2 h3
  have hp : 2 ^ (i % 64) ≤ 2 ^ 63 := Nat.pow_le_pow_right (by decide) (by omega)
  have hlt : dg o (i / 64) + 2 ^ (i % 64) < 18446744073709551616 := by
    have : (2 : Nat) ^ 63 = 9223372036854775808 := by decide
    omega
  refine ⟨hlt, by rw [List.length_set]; omega, fun j => ?_, ?_⟩
  · rw [dg_set _ _ _ _ (by omega)]; split
    · exact hlt
    · exact h2 j
  · have hs := val_set 18446744073709551616 o (i / 64) (dg o (i / 64) + 2 ^ (i % 64)) (by omega)
    rw [Nat.add_mul] at hs
    have e : 2 ^ (i % 64) * 18446744073709551616 ^ (i / 64) = 2 ^ i := by
      rw [LLpow, ← Nat.pow_add]; congr 1; omega
    rw [e, h3] at hs
    rw [Nat.pow_succ, Nat.mod_mul, hb]
    omega

theorem lim_end {N : Nat} {l o : List Nat} (h : LimInv N l.length o) (hd : Dig 2 l N) (hn : Norm 2 l N) : Dig 18446744073709551616 o N ∧ Norm 18446744073709551616 o N := by
  obtain ⟨h1, h2, h3⟩ := h
  have hv := val_dig (β := 18446744073709551616) (by decide) o h2
  rw [h3, Nat.mod_eq_of_lt hd.1] at hv
  refine ⟨hv, ?_⟩
  rcases hn with hn | hn
  · exact .inl (by omega)
  · by_cases h0 : l.length = 0
    · exact .inl (by omega)
    · refine .inr (Nat.le_trans ?_ hn)
      rw [LLpow]
      exact Nat.pow_le_pow_right (by decide) (by omega)

theorem shl_wrap (r : Nat) (hr : r < 64) : IntKind.u64.wrap ((2 : Int) ^ r) = ((2 ^ r : Nat) : Int) := by
  rw [IntKind.wrap_u64]
  have h1 : (2 : Int) ^ r = ((2 ^ r : Nat) : Int) := by rw [Int.natCast_pow]; rfl
  have h2 : 2 ^ r ≤ 2 ^ 63 := Nat.pow_le_pow_right (by decide) (by omega)
  have h3 : (2 : Nat) ^ 63 = 9223372036854775808 := by decide
  rw [h1]; generalize 2 ^ r = p at *; omega

end Go.Proofs.Ytenbomfoihajhaa
