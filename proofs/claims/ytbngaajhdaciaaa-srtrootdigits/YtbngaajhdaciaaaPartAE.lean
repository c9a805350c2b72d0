/- Contracts and laws: LimbB, LimbD. -/
import Derived.Test.YtbngaajhdaciaaaPartAD
import Derived.Shelf.Abstract
/- Contracts of limb: at, list. -/
set_option linter.unusedVariables false
set_option linter.unusedSimpArgs false
set_option maxRecDepth 8000
namespace Go.Proofs.Ytbngaajhdaciaaa
open Go.RowKit Plain

set_option maxHeartbeats 400000 in
theorem at_any (l : List Nat) (v : Value) (w : World) (hr : Rd mk64 w v l) (i : Int) :
    Calls Try.prog 84 #[v, .int .i64 i] w fun e w' => e = .returned (.int .u64 (if i < 0 then 0 else (dg l i.toNat : Nat))) ∧ w' = w := by
  obtain ⟨ao, cap, rfl, hc, hm, hr⟩ := hr
  unfold maxLen at hm
  by_cases h0 : i < 0
  · rw [if_pos h0]
    clear hr
    go_enter Try.func84, Try.ntmps84
    go_wp2
    go_ret
    exact ⟨rfl, rfl⟩
  · rw [if_neg h0]
    obtain ⟨k, rfl⟩ := Int.eq_ofNat_of_zero_le (Int.not_lt.1 h0)
    rw [Int.toNat_natCast]
    by_cases h1 : k < l.length
    · rcases hr with hr | ⟨b, off, rfl, hlt, hcell⟩
      · omega
      · have hck := hcell k h1
        unfold mk64 at hck
        clear hcell hc
        go_enter Try.func84, Try.ntmps84
        go_wp2
        go_ret
        exact ⟨rfl, rfl⟩
    · have HO : Hid (dg l k = 0) := getD_past l k (by omega)
      clear hr
      go_enter Try.func84, Try.ntmps84
      go_wp2
      go_ret
      exact ⟨ret_int (by rw [HO.out]; rfl), rfl⟩

end Go.Proofs.Ytbngaajhdaciaaa

/- Contracts: limb.Less, ref01.Same. -/
set_option linter.unusedVariables false
set_option linter.unusedSimpArgs false
set_option maxRecDepth 8000
namespace Go.Proofs.Ytbngaajhdaciaaa
open Go.RowKit Plain

/-- The digit of 2^(64 k). -/
def dgl (n k : Nat) : Nat := n / 18446744073709551616 ^ k % 18446744073709551616
theorem dgl_lt (n k : Nat) : dgl n k < 18446744073709551616 := Nat.mod_lt _ (by decide)

theorem at_num (n k : Nat) (l : List Nat) (v : Value) (w : World) (i : Int) (hr : Rd mk64 w v l) (hd : Dig 18446744073709551616 l n) (hi : i = (k : Int)) :
    Calls Try.prog 84 #[v, .int .i64 i] w fun e w' => e = .returned (.int .u64 (dgl n k : Nat)) ∧ w' = w := by
  subst hi
  refine (at_any l v w hr k).mono ?_
  rintro e w' ⟨rfl, rfl⟩
  refine ⟨ret_int ?_, rfl⟩
  rw [if_neg (by omega), Int.toNat_natCast, hd.2]
  rfl

end Go.Proofs.Ytbngaajhdaciaaa

