/- Contracts: radicandref01.Small. -/
import Derived.Test.YtenbomfoihajhaaRefC
import Derived.Test.YtenbomfoihajhaaLimbI
set_option linter.unusedVariables false
set_option linter.unusedSimpArgs false
set_option maxRecDepth 8000
namespace Go.Proofs.Ytenbomfoihajhaa
open Go.RowKit Plain

theorem small_any (x : Nat) (hx : x < 18446744073709551616) (w : World) :
    Calls Try.prog 28 #[.int .u64 (x : Nat)] w fun e w' => ∃ v, e = .returned v ∧ BigV w' v x 2 ∧ Below w.heap.size w w' := by
  have hr := Rd.lit (mk := mk64) w 22 [.int .u64 (x : Nat)] [x] rfl 1 (Nat.le_refl 1) (by decide)
  have hd := dig_one (β := LL) hx
  have HR := hide hr
  clear hr
  go_enter Try.func28, Try.ntmps28
  go_wp2_with (go_at_call 72; refine (of_any [x] x _ _ HR.out hd (by simp)).mono ?_; rintro e w' ⟨v, rfl, hbig, hbel⟩)
  go_ret
  exact ⟨_, rfl, hbig, Below.trans ((Below.refl _ _).alloc (Nat.le_refl _) _) (hbel.mono (by simp))⟩

theorem sh363 : sh 3 63 = 9223372036854775808 + 18446744073709551616 * 1 := by decide
theorem bitLen65 : Go.bitLen (0 + 18446744073709551616 * 1) = 65 := by decide

end Go.Proofs.Ytenbomfoihajhaa
