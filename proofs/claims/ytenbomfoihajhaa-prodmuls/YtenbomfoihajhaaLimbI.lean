/- Contracts: limb.Bit. -/
import Derived.Test.YtenbomfoihajhaaLimbH
set_option linter.unusedVariables false
set_option linter.unusedSimpArgs false
set_option maxRecDepth 8000
namespace Go.Proofs.Ytenbomfoihajhaa
open Go.RowKit Plain

theorem bit_val (N k : Nat) : dgl N (k / 64) / 2 ^ (k % 64) % 2 = N / 2 ^ k % 2 := by
  unfold dgl
  rw [LLpow]
  have e : (18446744073709551616 : Nat) = 2 ^ (k % 64) * 2 ^ (64 - k % 64) := by rw [← Nat.pow_add]; have : k % 64 + (64 - k % 64) = 64 := by omega
                                                                                 rw [this]
  have e2 : 2 ^ (64 - k % 64) = 2 * 2 ^ (63 - k % 64) := by rw [Nat.mul_comm, ← Nat.pow_succ]; congr 1; omega
  rw [e, Nat.mod_mul_right_div_self, e2, Nat.mod_mul_right_mod, Nat.div_div_eq_div_mul, ← Nat.pow_add]
  congr 3
  omega

theorem bit_form (N k : Nat) : (bits BinOp.and IntKind.u64 ((dgl N (k / 64) : Int) / 2 ^ (k % 64)) 1 == 1) = (N / 2 ^ k % 2 == 1) := by
  have e1 : (dgl N (k / 64) : Int) / 2 ^ (k % 64) = ((dgl N (k / 64) / 2 ^ (k % 64) : Nat) : Int) := by rw [Int.natCast_ediv, Int.natCast_pow]; rfl
  have hlt : dgl N (k / 64) / 2 ^ (k % 64) < 18446744073709551616 := Nat.lt_of_le_of_lt (Nat.div_le_self _ _) (dgl_lt N _)
  have h := bits_and_u64_nat (dgl N (k / 64) / 2 ^ (k % 64)) 1 hlt (by decide)
  rw [Nat.and_one_is_mod, bit_val] at h
  rw [e1]
  have h2 : bits .and .u64 ((dgl N (k / 64) / 2 ^ (k % 64) : Nat) : Int) 1 = ((N / 2 ^ k % 2 : Nat) : Int) := h
  rw [h2, Bool.eq_iff_iff]
  simp only [beq_iff_eq]
  omega

set_option maxHeartbeats 400000 in
theorem bit_any (N : Nat) (n : Int) (la : List Nat) (va : Value) (w : World) (ha : Rd mk64 w va la) (hda : Dig 18446744073709551616 la N) (hn0 : 0 ≤ n) (hn1 : n ≤ 9223372036854775807) :
    Calls Try.prog 74 #[va, .int .i64 n] w fun e w' => e = .returned (.bool (N / 2 ^ n.toNat % 2 == 1)) ∧ w' = w := by
  obtain ⟨k, rfl⟩ := Int.eq_ofNat_of_zero_le hn0
  rw [Int.toNat_natCast]
  have RA := hide ha
  have HA := hide hda
  clear ha hda
  go_enter Try.func74, Try.ntmps74
  go_wp2_with (go_at_call 99; refine (at_num N (k / 64) la _ _ _ RA.out HA.out (by omega)).mono ?_; rintro e w' ⟨rfl, hw⟩; subst w')
  go_ret
  exact ⟨ret_bool (bit_form N k), rfl⟩

set_option maxHeartbeats 400000 in
theorem bit_neg (n : Int) (la : List Nat) (va : Value) (w : World) (ha : Rd mk64 w va la) (hn0 : n < 0) :
    Calls Try.prog 74 #[va, .int .i64 n] w fun e w' => e = .returned (.bool false) ∧ w' = w := by
  obtain ⟨ao, ca, rfl, hca, hma, -⟩ := ha
  have hd : decide (0 ≤ n) = false := by simp; omega
  go_enter Try.func74, Try.ntmps74
  go_wp2
  go_ret
  exact ⟨rfl, rfl⟩

end Go.Proofs.Ytenbomfoihajhaa
