/- Contracts and laws: WideLooksNum. -/
import Derived.Test.YteocibahclpegaaPartAS
import Derived.Lib.SmallJoins
/- For all wides, ints and words the law radicandlaw02.WideLooks returns true. -/
set_option linter.unusedVariables false
set_option linter.unusedSimpArgs false
set_option maxRecDepth 8000
namespace Go.Proofs.Yteocibahclpegaa
open Go.RowKit Plain

open Go.ChangeShapes Go.WideShapes Go.ChangeAt in
theorem word_of_trod {H : Type} {enc : TypeId × Value → H} {W : World} {r : Reach} {b0 base : Nat} {sp : Nat → Bool} {held : Bool} {v : Value} {d : DataW H} {ps : List MemPlace}
    (hval : Value.okWide Try.prog W r b0 30 v) (hd : DataW.Trod enc Try.prog W base sp held 30 v d ps) : ∃ x y : Nat, x < 18446744073709551616 ∧ y < 18446744073709551616 ∧ v = .agg #[.int .u64 (x : Nat), .int .u64 (y : Nat)] := by
  obtain ⟨c0, c1, y0, y1, m, rfl, rfl, rfl, hy0, hy1⟩ := Go.Joins.open_agg2 Try.underlying30 (by kernel_rfl) (by kernel_rfl) hval hd
  obtain ⟨a0, e0, _, wa0⟩ := DataW.trod_int Try.underlying24 hy0
  obtain ⟨a1, e1, _, wa1⟩ := DataW.trod_int Try.underlying24 hy1
  obtain ⟨x, rfl, hx⟩ := u64_nat wa0
  obtain ⟨y, rfl, hy⟩ := u64_nat wa1
  simp at e0 e1
  subst e0 e1
  exact ⟨x, y, hx, hy, rfl⟩
end Go.Proofs.Yteocibahclpegaa

