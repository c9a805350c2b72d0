/- The calls of the law LimbAdds, said of naturals. -/
import Derived.Test.YtenbomfoihajhaaLawA
set_option linter.unusedVariables false
set_option linter.unusedSimpArgs false
set_option maxRecDepth 8000
namespace Go.Proofs.Ytenbomfoihajhaa
open Go.RowKit Plain

/-- 1 of what isn't 0. -/
def oneN (z : Nat) : Nat := if z = 0 then 0 else 1
theorem oneN_le (z : Nat) : oneN z ≤ 1 := by unfold oneN; split <;> omega
theorem oneI_nat (z : Nat) : oneI (z : Int) = (oneN z : Nat) := by unfold oneI oneN; split <;> split <;> omega

theorem add_nat (x y z : Nat) (w : World) :
    Calls Try.prog 76 #[.int .u64 (x : Nat), .int .u64 (y : Nat), .int .u64 (z : Nat)] w fun e w' => ∃ s c : Nat, e = .returned (.tuple #[.int .u64 (s : Nat), .int .u64 (c : Nat)]) ∧
      s < 18446744073709551616 ∧ s + 18446744073709551616 * c = x + y + oneN z ∧ w' = w := by
  refine (limbAdd_any _ _ _ w (by omega) (by omega)).mono ?_
  rintro e w' ⟨rfl, rfl⟩
  refine ⟨(x + y + oneN z) % 18446744073709551616, (x + y + oneN z) / 18446744073709551616, ?_, Nat.mod_lt _ (by decide), Nat.mod_add_div _ _, rfl⟩
  rw [oneI_nat]
  have e1 : lo64 ((x : Int) + (y : Int) + ((oneN z : Nat) : Int)) = (((x + y + oneN z) % 18446744073709551616 : Nat) : Int) := by unfold lo64 M64; omega
  have e2 : hi64 ((x : Int) + (y : Int) + ((oneN z : Nat) : Int)) = (((x + y + oneN z) / 18446744073709551616 : Nat) : Int) := by unfold hi64 M64; omega
  rw [e1, e2]

theorem sub_nat (x y z : Nat) (hx : x < 18446744073709551616) (hy : y < 18446744073709551616) (w : World) :
    Calls Try.prog 77 #[.int .u64 (x : Nat), .int .u64 (y : Nat), .int .u64 (z : Nat)] w fun e w' => ∃ d b : Nat, e = .returned (.tuple #[.int .u64 (d : Nat), .int .u64 (b : Nat)]) ∧
      d < 18446744073709551616 ∧ b ≤ 1 ∧ d + (y + oneN z) = x + 18446744073709551616 * b ∧ w' = w := by
  refine (limbSub_any _ _ _ w (by omega) (by omega) (by unfold M64; omega)).mono ?_
  rintro e w' ⟨rfl, rfl⟩
  rw [oneI_nat]
  have ho := oneN_le z
  generalize oneN z = o at *
  by_cases h : x < y + o
  · refine ⟨x + 18446744073709551616 - y - o, 1, ?_, by omega, by omega, by omega, rfl⟩
    rw [if_pos (by omega)]
    have e1 : lo64 ((x : Int) - (y : Int) - (o : Int)) = ((x + 18446744073709551616 - y - o : Nat) : Int) := by unfold lo64 M64; omega
    rw [e1]; rfl
  · refine ⟨x - y - o, 0, ?_, by omega, by omega, by omega, rfl⟩
    rw [if_neg (by omega)]
    have e1 : lo64 ((x : Int) - (y : Int) - (o : Int)) = ((x - y - o : Nat) : Int) := by unfold lo64 M64; omega
    rw [e1]; rfl

theorem mul_nat (x y : Nat) (hx : x < 18446744073709551616) (hy : y < 18446744073709551616) (w : World) :
    Calls Try.prog 104 #[.int .u64 (x : Nat), .int .u64 (y : Nat)] w fun e w' => ∃ h l : Nat, e = .returned (.tuple #[.int .u64 (h : Nat), .int .u64 (l : Nat)]) ∧
      h < 18446744073709551616 ∧ l < 18446744073709551616 ∧ l + 18446744073709551616 * h = x * y ∧ w' = w := by
  refine (limbMul_any _ _ w (by omega) (by unfold M64; omega) (by omega) (by unfold M64; omega)).mono ?_
  rintro e w' ⟨rfl, rfl⟩
  have hlt : x * y < 18446744073709551616 * 18446744073709551616 := Nat.mul_lt_mul_of_lt_of_lt hx hy
  refine ⟨x * y / 18446744073709551616, x * y % 18446744073709551616, ?_, by omega, Nat.mod_lt _ (by decide), Nat.mod_add_div _ _, rfl⟩
  rw [mulN]
  have e1 : lo64 ((x * y : Nat) : Int) = ((x * y % 18446744073709551616 : Nat) : Int) := by unfold lo64 M64; omega
  have e2 : hi64 ((x * y : Nat) : Int) = ((x * y / 18446744073709551616 : Nat) : Int) := by unfold hi64 M64; omega
  rw [e1, e2]

theorem below_alloc_then {a b : World} {o : Obj} (h : Below (a.alloc o).heap.size (a.alloc o) b) : Below a.heap.size a b :=
  Below.trans ((Below.refl _ _).alloc (Nat.le_refl _) o) (h.mono (by simp))

theorem of_two (s c : Nat) (hs : s < 18446744073709551616) (hc : c < 18446744073709551616) (w : World) :
    Calls Try.prog 72 #[.slice (some ⟨w.heap.size, 0, none⟩) 2 2] (w.alloc (.cells #[.int .u64 (s : Nat), .int .u64 (c : Nat)] 22)) fun e w' =>
      ∃ v, e = .returned v ∧ BigV w' v (s + 18446744073709551616 * c) 4 ∧ Below w.heap.size w w' := by
  have hr := Rd.lit (mk := mk64) w 22 [.int .u64 (s : Nat), .int .u64 (c : Nat)] [s, c] rfl 2 (Nat.le_refl 2) (by decide)
  refine (of_any [s, c] _ _ _ hr (dig_two (β := LL) hs hc) (by simp)).mono ?_
  rintro e w' ⟨v, rfl, h1, h2⟩
  exact ⟨v, rfl, h1, below_alloc_then h2⟩

theorem cmpN_self {n m : Nat} (h : n = m) : cmpN n m = 0 := by subst h; simp [cmpN]

end Go.Proofs.Ytenbomfoihajhaa
