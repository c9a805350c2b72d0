/- Contracts and laws: ProdF, ProdG, ProdJ, GrowK, GrowJ, RdxB, WideT. -/
import Derived.Test.YteocibahclpegaaPartAO
import Derived.Deep.DeepCutAuto
import Derived.Test.YteocibahclpegaaPartAL
import Derived.Test.YteocibahclpegaaPartAG
/- Contracts: prod.High. -/
set_option linter.unusedVariables false
set_option linter.unusedSimpArgs false
set_option maxRecDepth 8000
namespace Go.Proofs.Yteocibahclpegaa
open Go.RowKit Plain

end Go.Proofs.Yteocibahclpegaa

/- Contracts: radicandref03.Mul; radicandlaw03.awake. -/
set_option linter.unusedVariables false
set_option linter.unusedSimpArgs false
set_option maxRecDepth 8000
namespace Go.Proofs.Yteocibahclpegaa
open Go.RowKit Plain

end Go.Proofs.Yteocibahclpegaa

/- Contracts: prod.Power. -/
set_option linter.unusedVariables false
set_option linter.unusedSimpArgs false
set_option maxRecDepth 8000
namespace Go.Proofs.Yteocibahclpegaa
open Go.RowKit Plain

end Go.Proofs.Yteocibahclpegaa

/- Likewise, where what a slot holds hangs on which stores have been done. -/
set_option linter.unusedVariables false
set_option linter.unusedSimpArgs false
set_option maxRecDepth 8000
namespace Go.Proofs.Yteocibahclpegaa
open Go.RowKit Plain

def SlotIs.any : SlotIs := ⟨fun _ _ => True, fun _ _ _ _ h => h⟩
section
variable {P : Program} {ops : Array Oper} {n : Nat} {a : Act} {T : List Bool → List (Nat × SlotIs)} {C : List Bool → World → Prop} {Q : Exit → Act → World → Prop} {ss : List Nat}

end
end Go.Proofs.Yteocibahclpegaa

/- Likewise, where the region lays several blocks of its own: the slots that hold them are told apart. -/
set_option linter.unusedVariables false
set_option linter.unusedSimpArgs false
set_option maxRecDepth 8000
namespace Go.Proofs.Yteocibahclpegaa
open Go.RowKit Plain

section
variable {P : Program} {ops : Array Oper} {n : Nat} {a : Act} {T : List Bool → List (Nat × SlotIs)} {C : List Bool → World → Prop} {Q : Exit → Act → World → Prop} {ss : List Nat} {fs : List Nat}

end
end Go.Proofs.Yteocibahclpegaa

/- Contracts: the document's quotients (radicandref11). -/
set_option linter.unusedVariables false
set_option linter.unusedSimpArgs false
set_option maxRecDepth 8000
namespace Go.Proofs.Yteocibahclpegaa
open Go.RowKit Plain

theorem bitLen_above (d k : Nat) : k < Go.bitLen d ↔ 2 ^ k ≤ d := by
  constructor
  · intro h
    rcases Nat.lt_or_ge d (2 ^ k) with h1 | h1
    · have := bitLen_le d k h1
      omega
    · exact h1
  · intro h
    rcases Nat.lt_or_ge k (Go.bitLen d) with h1 | h1
    · exact h1
    · have h2 := bitLen_lt d
      have h3 : 2 ^ Go.bitLen d ≤ 2 ^ k := Nat.pow_le_pow_right (by decide) h1
      omega
end Go.Proofs.Yteocibahclpegaa

/- Contracts: wide.Power below 0, wide.Mask, wide.Bit below 0, wide.Low, wide.From. -/
set_option linter.unusedVariables false
set_option linter.unusedSimpArgs false
set_option maxRecDepth 8000
namespace Go.Proofs.Yteocibahclpegaa
open Go.RowKit Plain

theorem wideLow_any (f : Nat → Nat) (w : World) :
    Calls Try.prog 76 #[.agg #[.int .u64 (f 0 : Nat), .int .u64 (f 1 : Nat), .int .u64 (f 2 : Nat), .int .u64 (f 3 : Nat), .int .u64 (f 4 : Nat), .int .u64 (f 5 : Nat), .int .u64 (f 6 : Nat), .int .u64 (f 7 : Nat)]] w fun e w' => e = .returned (.agg #[.int .u64 (f 1 : Nat), .int .u64 (f 0 : Nat)]) ∧ Below w.heap.size w w' := by
  go_enter Try.func76, Try.ntmps76
  go_wp2
  exact bodyPost_ret (v := .agg #[.int .u64 (f 1 : Nat), .int .u64 (f 0 : Nat)]) (by simp [results, Try.results76, go_sem]) rfl ⟨rfl, below_trans (below_allocs _ _) (below_allocs _ _)⟩

end Go.Proofs.Yteocibahclpegaa

