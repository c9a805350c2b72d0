/- Contracts: limb.Shift. -/
import Derived.Test.YtenbomfoihajhaaLimbF
set_option linter.unusedVariables false
set_option linter.unusedSimpArgs false
set_option maxRecDepth 8000
namespace Go.Proofs.Ytenbomfoihajhaa
open Go.RowKit Plain

/-- The limb at a place that may be below 0. -/
def atI (n : Nat) (i : Int) : Int := if i < 0 then 0 else (dgl n i.toNat : Nat)
/-- The limb at place e of n, times 2^b (b < 64). -/
def shd (n b : Nat) (e : Int) : Nat := if e < 0 then 0 else n * 2 ^ b / 18446744073709551616 ^ e.toNat % 18446744073709551616

theorem atI_any (n : Nat) (l : List Nat) (v : Value) (w : World) (i : Int) (hr : Rd mk64 w v l) (hd : Dig 18446744073709551616 l n) :
    Calls Try.prog 99 #[v, .int .i64 i] w fun e w' => e = .returned (.int .u64 (atI n i)) ∧ w' = w := by
  refine (at_any l v w hr i).mono ?_
  rintro e w' ⟨rfl, rfl⟩
  refine ⟨ret_int ?_, rfl⟩
  unfold atI
  split
  · rfl
  · rw [hd.2]; rfl

theorem or_add (b x y : Nat) (hb : b < 64) (hx : x < 18446744073709551616) (hy : y < 18446744073709551616) :
    bits .or .u64 (IntKind.u64.wrap ((x : Int) * 2 ^ b)) ((y : Int) / 2 ^ min (IntKind.u64.wrap (64 - (b : Int))).toNat 64) = ((2 ^ b * (x % 2 ^ (64 - b)) + y / 2 ^ (64 - b) : Nat) : Int) := by
  have e0 : min (IntKind.u64.wrap (64 - (b : Int))).toNat 64 = 64 - b := by rw [IntKind.wrap_u64]; omega
  have hTR : 2 ^ b * 2 ^ (64 - b) = 18446744073709551616 := by rw [← Nat.pow_add]; have : b + (64 - b) = 64 := by omega
                                                               rw [this]
  have e1 : IntKind.u64.wrap ((x : Int) * 2 ^ b) = ((2 ^ b * (x % 2 ^ (64 - b)) : Nat) : Int) := by
    rw [IntKind.wrap_u64, ← Nat.mul_mod_mul_left, hTR]
    have : (x : Int) * 2 ^ b = ((2 ^ b * x : Nat) : Int) := by rw [Int.natCast_mul, Int.natCast_pow, Int.mul_comm]; rfl
    rw [this]; omega
  have e2 : (y : Int) / 2 ^ (64 - b) = ((y / 2 ^ (64 - b) : Nat) : Int) := by rw [Int.natCast_ediv, Int.natCast_pow]; rfl
  have hpos : 0 < 2 ^ (64 - b) := Nat.two_pow_pos _
  have hy2 : y / 2 ^ (64 - b) < 2 ^ b := by rw [Nat.div_lt_iff_lt_mul hpos, hTR]; exact hy
  have hx2 : 2 ^ b * (x % 2 ^ (64 - b)) + 2 ^ b ≤ 18446744073709551616 := by
    rw [← Nat.mul_succ, ← hTR]; exact Nat.mul_le_mul_left _ (Nat.mod_lt _ hpos)
  rw [e0, e1, e2, bits_or_u64_nat _ _ (by have := Nat.two_pow_pos b; omega) (by have := Nat.two_pow_pos b; omega), Nat.two_pow_add_eq_or_of_lt hy2]

theorem shift_val (n b : Nat) (hb : b < 64) (e : Int) :
    bits .or .u64 (IntKind.u64.wrap (atI n e * 2 ^ b)) (atI n (e - 1) / 2 ^ min (IntKind.u64.wrap (64 - (b : Int))).toNat 64) = (shd n b e : Nat) := by
  have hTR : 2 ^ b * 2 ^ (64 - b) = 18446744073709551616 := by rw [← Nat.pow_add]; have : b + (64 - b) = 64 := by omega
                                                               rw [this]
  have hT := Nat.two_pow_pos b
  have hR := Nat.two_pow_pos (64 - b)
  unfold shd
  by_cases h : e < 0
  · have h1 : atI n e = ((0 : Nat) : Int) := by unfold atI; rw [if_pos h]; rfl
    have h2 : atI n (e - 1) = ((0 : Nat) : Int) := by unfold atI; rw [if_pos (by omega)]; rfl
    rw [h1, h2, or_add b 0 0 hb (by decide) (by decide), if_pos h]
    simp
  · obtain ⟨k, rfl⟩ := Int.eq_ofNat_of_zero_le (Int.not_lt.1 h)
    have h1 : atI n (k : Int) = (dgl n k : Nat) := by unfold atI; rw [if_neg h, Int.toNat_natCast]
    rw [if_neg h, Int.toNat_natCast]
    cases k with
    | zero =>
      have h2 : atI n (((0 : Nat) : Int) - 1) = ((0 : Nat) : Int) := by unfold atI; rw [if_pos (by omega)]; rfl
      rw [h1, h2, or_add b _ 0 hb (dgl_lt n 0) (by decide)]
      have := shift_digit0 (2 ^ b) (2 ^ (64 - b)) n hR
      rw [hTR] at this
      rw [this]
      simp [dgl]
    | succ k =>
      have h2 : atI n (((k + 1 : Nat) : Int) - 1) = (dgl n k : Nat) := by
        have : ((k + 1 : Nat) : Int) - 1 = (k : Int) := by omega
        rw [this]; unfold atI; rw [if_neg (by omega), Int.toNat_natCast]
      rw [h1, h2, or_add b _ _ hb (dgl_lt n _) (dgl_lt n _)]
      have := shift_digit (2 ^ b) (2 ^ (64 - b)) n k hT hR
      rw [hTR] at this
      rw [this]
      rfl

end Go.Proofs.Ytenbomfoihajhaa
