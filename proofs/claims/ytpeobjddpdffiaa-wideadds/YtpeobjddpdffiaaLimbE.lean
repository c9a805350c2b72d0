/- Contracts: limb.Sum. -/
import Derived.Test.YtpeobjddpdffiaaLimbD
import Derived.Test.YtpeobjddpdffiaaLimbC
import Derived.StillTailTactics
set_option linter.unusedVariables false
namespace Go.Proofs.Ytpeobjddpdffiaa
open Go.RowKit Plain

theorem mixedOk : Try.prog.follows .mixedOrders = true := by kernel_rfl

theorem carry_lt (n m k : Nat) : carry 18446744073709551616 n m k ≤ 1 := carry_le (by decide)
theorem oneI_carry (n m k : Nat) : oneI (carry 18446744073709551616 n m k : Nat) = (carry 18446744073709551616 n m k : Nat) := by
  have := carry_lt n m k
  unfold oneI
  split <;> omega
theorem sum_lo (n m k : Nat) : lo64 ((dgl n k : Int) + (dgl m k : Int) + oneI (carry 18446744073709551616 n m k : Nat)) = (dgl (n + m) k : Nat) := by
  rw [oneI_carry]
  have h := add_digit (n := n) (m := m) (k := k) (β := 18446744073709551616) (by decide)
  have e : ((dgl (n + m) k : Nat) : Int) = (((carry 18446744073709551616 n m k + dgl n k + dgl m k) % 18446744073709551616 : Nat) : Int) := congrArg _ h.symm
  rw [e]; unfold lo64 M64; omega
theorem sum_hi (n m k : Nat) : hi64 ((dgl n k : Int) + (dgl m k : Int) + oneI (carry 18446744073709551616 n m k : Nat)) = (carry 18446744073709551616 n m (k + 1) : Nat) := by
  rw [oneI_carry]
  have h := add_carry (n := n) (m := m) (k := k) (β := 18446744073709551616) (by decide)
  have e : ((carry 18446744073709551616 n m (k + 1) : Nat) : Int) = (((carry 18446744073709551616 n m k + dgl n k + dgl m k) / 18446744073709551616 : Nat) : Int) := congrArg _ h.symm
  rw [e]; unfold hi64 M64; omega

set_option maxHeartbeats 400000 in
theorem sum1_any (n m k A B C : Nat) (la lb : List Nat) (va vb : Value) (w : World) (ha : Rd mk64 w va la) (hda : Dig 18446744073709551616 la n) (hb : Rd mk64 w vb lb) (hdb : Dig 18446744073709551616 lb m)
    (cA : w.cell? ⟨A, 0, none⟩ = some va) (cB : w.cell? ⟨B, 0, none⟩ = some vb) (cC : w.cell? ⟨C, 0, none⟩ = some (.int .u64 (carry 18446744073709551616 n m k : Nat))) (fC : w.frozen? ⟨C, 0, none⟩ = false) :
    Calls Try.prog 66 #[.int .i64 k, .pointer (some ⟨A, 0, none⟩), .pointer (some ⟨B, 0, none⟩), .pointer (some ⟨C, 0, none⟩)] w fun e w' =>
      e = .returned (.int .u64 (dgl (n + m) k : Nat)) ∧ ∃ q, w' = (w.drewN q).setCell ⟨C, 0, none⟩ (.int .u64 (carry 18446744073709551616 n m (k + 1) : Nat)) := by
  have ha' := ha
  have hb' := hb
  obtain ⟨ao, ca, rfl, -⟩ := ha'
  obtain ⟨bo, cb, rfl, -⟩ := hb'
  have RA := hide ha
  have RB := hide hb
  have HA := hide hda
  have HB := hide hdb
  clear ha hb hda hdb
  go_enter Try.func66, Try.ntmps66
  go_wp2
  refine wp_region_still_tail 12 mixedOk (by kernel_rfl) ?_
  simp only [List.take_succ_cons, List.take_zero, List.drop_succ_cons, List.drop_zero]
  change wpStill _ _ w.drew _ _ _
  repeat still_step
  still_call (at_num n k la _ _ _ RA.out.drew HA.out rfl)
  repeat still_step
  still_call (at_num m k lb _ _ _ RB.out.drew HB.out rfl)
  repeat still_step
  still_call (limbAdd_any _ _ _ _ (by omega) (by omega))
  rw [sum_lo, sum_hi]
  repeat still_step
  refine wpStill_nil ?_
  go_wp2
  go_ret
  exact ⟨rfl, 1, rfl⟩

end Go.Proofs.Ytpeobjddpdffiaa
