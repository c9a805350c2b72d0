/- Contracts and laws: ClsB, ClsC, ClsD, ClsE. -/
import Derived.Test.YtpcjdllijkjdkaaDoorPartAQ
import Derived.Laws.BitsLemmas
/- Contracts: class.taken with its numbers; class.asked for ints and bools. -/
set_option linter.unusedVariables false
set_option linter.unusedSimpArgs false
set_option maxRecDepth 8000
namespace Go.Proofs.YtpcjdllijkjdkaaDoor
open Go.RowKit Plain

theorem subQ_le {a v : Nat} (ha : a < QQ) (h : v ≤ a) : subQ a v = a - v := by
  have h1 : subQ a v + v % QQ = a % QQ + QQ * bor 18446744073709551616 a v 8 := subW_eq (by decide) 8 a v
  have h2 := subQ_lt a v
  rw [Nat.mod_eq_of_lt ha, Nat.mod_eq_of_lt (Nat.lt_of_le_of_lt h ha)] at h1
  rcases Nat.eq_zero_or_pos (bor 18446744073709551616 a v 8) with h3 | h3
  · rw [h3, Nat.mul_zero] at h1
    omega
  · have h4 : QQ * 1 ≤ QQ * bor 18446744073709551616 a v 8 := Nat.mul_le_mul_left _ h3
    omega
end Go.Proofs.YtpcjdllijkjdkaaDoor

/- Contracts: class.Of. -/
set_option linter.unusedVariables false
set_option linter.unusedSimpArgs false
set_option maxRecDepth 8000
namespace Go.Proofs.YtpcjdllijkjdkaaDoor
open Go.RowKit Plain

end Go.Proofs.YtpcjdllijkjdkaaDoor

/- Contracts: class.Of with its numbers, Neg, Field; law06.awake. -/
set_option linter.unusedVariables false
set_option linter.unusedSimpArgs false
set_option maxRecDepth 8000
namespace Go.Proofs.YtpcjdllijkjdkaaDoor
open Go.RowKit Plain

/-- The class of a field and a fraction. -/
def clsP (P F fd r : Nat) : Nat := if fd = 2 ^ F - 1 then (if r = 0 then 3 else if r / 2 ^ (P - 2) % 2 = 1 then 2 else 1) else if fd = 0 then (if r = 0 then 6 else 5) else 4
/-- The class of a word's number. -/
def clsN (B P F a : Nat) : Nat := if a < 2 ^ B then clsP P F (a / 2 ^ (P - 1) % 2 ^ F) (a % 2 ^ (P - 1)) else 0
def fldN (B P F a : Nat) : Nat := if a < 2 ^ B then a / 2 ^ (P - 1) % 2 ^ F else 0
def negN (B a : Nat) : Bool := decide (a < 2 ^ B) && (a / 2 ^ (B - 1) % 2 == 1)

end Go.Proofs.YtpcjdllijkjdkaaDoor

/- Contracts: radicandref06.Field, Neg. -/
set_option linter.unusedVariables false
set_option linter.unusedSimpArgs false
set_option maxRecDepth 8000
namespace Go.Proofs.YtpcjdllijkjdkaaDoor
open Go.RowKit Plain

theorem fld_step (a e c : Nat) : a / 2 ^ e % 2 ^ (c + 1) = 2 * (a / 2 ^ (e + 1) % 2 ^ c) + a / 2 ^ e % 2 := by
  rw [Nat.pow_succ', Nat.mod_mul, Nat.pow_succ, ← Nat.div_div_eq_div_mul]
  omega

end Go.Proofs.YtpcjdllijkjdkaaDoor

