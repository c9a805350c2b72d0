/- Contracts and laws: WideLooksNum. -/
import Derived.Test.YteocibahclpegaaPartAQ
import Derived.Lib.SmallJoins
/- For all wides, ints and words the law radicandlaw02.WideLooks returns true. -/
set_option linter.unusedVariables false
set_option linter.unusedSimpArgs false
set_option maxRecDepth 8000
namespace Go.Proofs.Yteocibahclpegaa
open Go.RowKit Plain

theorem power_num (n : Int) (pw q : Nat) (hq : 2 ^ q = QQ) (hq5 : q = 512) (hpw : pw = if 0 ≤ n ∧ n < 512 then 2 ^ n.toNat else 0) (w : World) :
    Calls Try.prog 64 #[.int .i64 n] w fun e w' => e = .returned (.agg #[.int .u64 (dgl (pw) 0 : Nat), .int .u64 (dgl (pw) 1 : Nat), .int .u64 (dgl (pw) 2 : Nat), .int .u64 (dgl (pw) 3 : Nat), .int .u64 (dgl (pw) 4 : Nat), .int .u64 (dgl (pw) 5 : Nat), .int .u64 (dgl (pw) 6 : Nat), .int .u64 (dgl (pw) 7 : Nat)]) ∧ Below w.heap.size w w' := by
  by_cases hn : n < 0
  · rw [hpw, if_neg (by omega)]
    exact widePower_neg n hn w
  · obtain ⟨j, rfl⟩ : ∃ j : Nat, n = (j : Int) := ⟨n.toNat, by omega⟩
    have h := widePower_any (j : Int) (by omega) w
    by_cases h5 : (j : Int) < 512
    · have e1 : roomI (j : Int) = (j : Int) := by unfold roomI; omega
      rw [hpw, if_pos (by omega), Int.toNat_natCast]
      rw [e1, sh_up, Nat.one_mul] at h
      exact h
    · have e1 : roomI (j : Int) = (q : Int) := by unfold roomI; omega
      rw [hpw, if_neg (by omega)]
      rw [e1, sh_up, Nat.one_mul, hq, w8_mod (show QQ % QQ = 0 % QQ by rw [Nat.mod_self, Nat.zero_mod])] at h
      exact h

end Go.Proofs.Yteocibahclpegaa

