/- Contracts and laws: FmtK, ClsA. -/
import Derived.Test.YtpcjdllijkjdkaaDoorPartAP
import Derived.Deep.DeepCutAuto
/- Contracts: radicandref05.Bit, Fits; format.Fits. -/
set_option linter.unusedVariables false
set_option linter.unusedSimpArgs false
set_option maxRecDepth 8000
namespace Go.Proofs.YtpcjdllijkjdkaaDoor
open Go.RowKit Plain

theorem ret_bl {a b : Bool} (h : a = b) : Ending.returned (.bool a) = Ending.returned (.bool b) := by rw [h]
theorem len_le (a B : Nat) : (Go.bitLen a ≤ B) ↔ a < 2 ^ B := by
  constructor
  · intro h
    exact Nat.lt_of_lt_of_le (bitLen_spec a).1 (Nat.pow_le_pow_right (by decide) h)
  · intro h
    exact pow_inj_len (β := 2) (a := B) (b := Go.bitLen a) (by decide) h (by
      by_cases h0 : a = 0
      · exact .inl (by rw [h0]; rfl)
      · exact .inr ((bitLen_spec a).2 h0))
end Go.Proofs.YtpcjdllijkjdkaaDoor

/- Contracts: class.ones, taken. -/
set_option linter.unusedVariables false
set_option linter.unusedSimpArgs false
set_option maxRecDepth 8000
namespace Go.Proofs.YtpcjdllijkjdkaaDoor
open Go.RowKit Plain

theorem ones_1 (w : World) : Calls Tryd.prog 110 #[.agg #[.int .i64 16, .int .i64 11, .int .i64 15, .int .i64 (-14), .int .i64 5]] w fun e w' => e = .returned (.int .i64 ((31 : Nat) : Int)) ∧ Below w.heap.size w w' := by
  go_enter Tryd.func110, Tryd.ntmps110
  go_wp2
  go_ret
  exact ⟨rfl, below_allocs _ _⟩

theorem ones_2 (w : World) : Calls Tryd.prog 110 #[.agg #[.int .i64 32, .int .i64 24, .int .i64 127, .int .i64 (-126), .int .i64 8]] w fun e w' => e = .returned (.int .i64 ((255 : Nat) : Int)) ∧ Below w.heap.size w w' := by
  go_enter Tryd.func110, Tryd.ntmps110
  go_wp2
  go_ret
  exact ⟨rfl, below_allocs _ _⟩

theorem ones_3 (w : World) : Calls Tryd.prog 110 #[.agg #[.int .i64 64, .int .i64 53, .int .i64 1023, .int .i64 (-1022), .int .i64 11]] w fun e w' => e = .returned (.int .i64 ((2047 : Nat) : Int)) ∧ Below w.heap.size w w' := by
  go_enter Tryd.func110, Tryd.ntmps110
  go_wp2
  go_ret
  exact ⟨rfl, below_allocs _ _⟩

theorem ones_4 (w : World) : Calls Tryd.prog 110 #[.agg #[.int .i64 128, .int .i64 113, .int .i64 16383, .int .i64 (-16382), .int .i64 15]] w fun e w' => e = .returned (.int .i64 ((32767 : Nat) : Int)) ∧ Below w.heap.size w w' := by
  go_enter Tryd.func110, Tryd.ntmps110
  go_wp2
  go_ret
  exact ⟨rfl, below_allocs _ _⟩

end Go.Proofs.YtpcjdllijkjdkaaDoor

