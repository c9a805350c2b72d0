/- Contracts of radicandref01: Shift, Limbs. -/
import Derived.Test.YtenbomfoihajhaaRefD
set_option linter.unusedVariables false
set_option linter.unusedSimpArgs false
set_option maxRecDepth 8000
namespace Go.Proofs.Ytenbomfoihajhaa
open Go.RowKit Plain

theorem dig_zeros (k : Nat) {l : List Nat} {n : Nat} (h : Dig 2 l n) : Dig 2 (List.replicate k 0 ++ l) (n * 2 ^ k) := by
  have hv := dig_val (by decide) l n h
  have hd := val_dig (β := 2) (by decide) (List.replicate k 0 ++ l) (fun i => by
    rcases Nat.lt_or_ge i k with h1 | h1
    · simp [dg, List.getElem?_append, h1]
    · have := h.lt (by decide) (i - k)
      simp only [dg, List.getD_eq_getElem?_getD] at this ⊢
      rw [List.getElem?_append_right (by simpa using h1)]
      simpa using this)
  rw [val_append, val_zeros, hv, List.length_replicate, Nat.zero_add, Nat.mul_comm] at hd
  exact hd

theorem dig_drop (k : Nat) {l : List Nat} {n : Nat} (h : Dig 2 l n) (hk : k ≤ l.length) : Dig 2 (l.drop k) (n / 2 ^ k) := by
  refine ⟨?_, fun i => ?_⟩
  · rw [Nat.div_lt_iff_lt_mul (Nat.two_pow_pos k), List.length_drop, ← Nat.pow_add]
    have : l.length - k + k = l.length := by omega
    rw [this]; exact h.1
  · rw [Nat.div_div_eq_div_mul, ← Nat.pow_add, ← h.2 (k + i)]
    simp [dg]

end Go.Proofs.Ytenbomfoihajhaa
