/- Contracts and laws: PckN. -/
import Derived.Test.YtpcjdllijkjdkaaGreatDoorPartBC
/- Rounding to a format keeps order. -/
set_option linter.unusedVariables false
set_option linter.unusedSimpArgs false
set_option maxRecDepth 8000
namespace Go.Proofs.YtpcjdllijkjdkaaGreatDoor
open Go.RowKit Plain

theorem fnd_mono {f : Int} (hf : 1 ≤ f ∧ f ≤ 4) {s1 s2 : Nat} {z1 z2 : Int} (h : sizeZ s1 z1 s2 z2 ≤ 0) : fndU f s1 z1 ≤ fndU f s2 z2 := by
  obtain ⟨-, x2, x3, -⟩ := fndU_spec hf s1 z1
  obtain ⟨-, -, -, y4⟩ := fndU_spec hf s2 z2
  obtain ⟨t1, t2⟩ := take_fin x3
  generalize fndU f s1 z1 = X at *
  generalize fndU f s2 z2 = Y at *
  rcases Nat.lt_or_ge Y X with hl | hl
  · have h5 := y4 X (by rw [Nat.pow_zero]; omega) x2
    have h6 : takeB f s2 z2 X = true := by
      unfold takeB
      rw [Bool.and_eq_true, decide_eq_true_iff, decide_eq_true_iff]
      refine ⟨t1, ?_⟩
      rw [sizeZ_le _ _ _ _ (min (min z1 z2) (expU f X)) (by omega) (by omega)] at *
      exact Nat.le_trans t2 h
    rw [h6] at h5
    cases h5
  · exact hl
def bpat (f m : Int) (neg : Bool) : Nat := bif growN m neg false 3 then infU f false else maxU f false
theorem bnd_pat (f m : Int) (hf : 1 ≤ f ∧ f ≤ 4) (neg : Bool) : bndU f m neg < 2 ^ 128 ∧ clsU f (bndU f m neg) ≠ 0 ∧ negU f (bndU f m neg) = neg ∧ sgnU f false (bndU f m neg) = bpat f m neg := by
  unfold bndU bpat
  cases growN m neg false 3 <;> cases neg <;> rcases f_cases f with rfl | rfl | rfl | rfl | h0 <;> first | omega | (refine ⟨?_, ?_, ?_, ?_⟩ <;> decide +kernel)
end Go.Proofs.YtpcjdllijkjdkaaGreatDoor

