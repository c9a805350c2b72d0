/- Contracts and laws: Radix2BackWalk. -/
import Derived.Test.YtmbbhagjfgjhgaaPartAO
/- For all words the law radicandlaw11.Radix2Back returns true. -/
set_option linter.unusedVariables false
set_option linter.unusedSimpArgs false
set_option maxRecDepth 8000
namespace Go.Proofs.Ytmbbhagjfgjhgaa
open Go.RowKit Plain

/-- Two limbs, read as a number. -/
theorem dig_two {l h : Nat} (hl : l < 18446744073709551616) (hh : h < 18446744073709551616) : Dig LL [l, h] (l + 18446744073709551616 * h) := by
  refine ⟨?_, fun i => ?_⟩
  · show l + 18446744073709551616 * h < 18446744073709551616 ^ 2
    rw [Nat.pow_two]
    omega
  · match i with
    | 0 => show l = _ / 18446744073709551616 ^ 0 % 18446744073709551616; rw [Nat.pow_zero, Nat.div_one]; omega
    | 1 => show h = _ / 18446744073709551616 ^ 1 % 18446744073709551616; rw [Nat.pow_one]; omega
    | i + 2 =>
      show 0 = _ / 18446744073709551616 ^ (i + 2) % 18446744073709551616
      have h1 : l + 18446744073709551616 * h < 18446744073709551616 ^ 2 := by rw [Nat.pow_two]; omega
      rw [Nat.div_eq_of_lt (Nat.lt_of_lt_of_le h1 (Nat.pow_le_pow_right (by decide) (by omega)))]
theorem w8_two {l h : Nat} (hl : l < 18446744073709551616) (hh : h < 18446744073709551616) : (#[.int .u64 (dgl (l + 18446744073709551616 * h) 0 : Nat), .int .u64 (dgl (l + 18446744073709551616 * h) 1 : Nat), .int .u64 (dgl (l + 18446744073709551616 * h) 2 : Nat), .int .u64 (dgl (l + 18446744073709551616 * h) 3 : Nat), .int .u64 (dgl (l + 18446744073709551616 * h) 4 : Nat), .int .u64 (dgl (l + 18446744073709551616 * h) 5 : Nat), .int .u64 (dgl (l + 18446744073709551616 * h) 6 : Nat), .int .u64 (dgl (l + 18446744073709551616 * h) 7 : Nat)] : Array Value) = #[.int .u64 (l : Nat), .int .u64 (h : Nat), .int .u64 0, .int .u64 0, .int .u64 0, .int .u64 0, .int .u64 0, .int .u64 0] := by
  have hd := fun i => (dig_two hl hh).2 i
  have e0 : dgl (l + 18446744073709551616 * h) 0 = l := (hd 0).symm
  have e1 : dgl (l + 18446744073709551616 * h) 1 = h := (hd 1).symm
  have e2 : dgl (l + 18446744073709551616 * h) 2 = 0 := (hd 2).symm
  have e3 : dgl (l + 18446744073709551616 * h) 3 = 0 := (hd 3).symm
  have e4 : dgl (l + 18446744073709551616 * h) 4 = 0 := (hd 4).symm
  have e5 : dgl (l + 18446744073709551616 * h) 5 = 0 := (hd 5).symm
  have e6 : dgl (l + 18446744073709551616 * h) 6 = 0 := (hd 6).symm
  have e7 : dgl (l + 18446744073709551616 * h) 7 = 0 := (hd 7).symm
  rw [e0, e1, e2, e3, e4, e5, e6, e7]
  rfl
theorem of_pair {l h : Nat} (hl : l < 18446744073709551616) (hh : h < 18446744073709551616) (u : Value) (w : World) (hu : Rd mk64 w u [l, h]) :
    Calls Try.prog 29 #[u] w fun e w' => ∃ v', e = .returned v' ∧ BigV w' v' (l + 18446744073709551616 * h) 4 ∧ Below w.heap.size w w' := of_any [l, h] _ u w hu (dig_two hl hh) (by show 2 ≤ 100000; decide)
end Go.Proofs.Ytmbbhagjfgjhgaa

