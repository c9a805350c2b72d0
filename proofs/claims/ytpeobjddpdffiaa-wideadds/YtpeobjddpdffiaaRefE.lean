/- Contracts of radicandref01: Shift, Limbs. -/
import Derived.Test.YtpeobjddpdffiaaRefD
set_option linter.unusedVariables false
namespace Go.Proofs.Ytpeobjddpdffiaa
open Go.RowKit Plain

theorem dig_zeros (k : Nat) {l : List Nat} {n : Nat} (h : Dig 2 l n) : Dig 2 (List.replicate k 0 ++ l) (n * 2 ^ k) := by
  have hv := dig_val (by decide) l n h
  have hd := val_dig (β := 2) (by decide) (List.replicate k 0 ++ l) (fun i => by
    rcases Nat.lt_or_ge i k with h1 | h1
    · simp [dg, List.getElem?_append, h1]
    · have := h.lt (by decide) (i - k)
      simp only [dg, List.getD_eq_getElem?_getD] at this ⊢
      rw [List.getElem?_append_right (by simpa using h1)]
      simpa using this)
  rw [val_append, val_zeros, hv, List.length_replicate, Nat.zero_add, Nat.mul_comm] at hd
  exact hd

theorem dig_drop (k : Nat) {l : List Nat} {n : Nat} (h : Dig 2 l n) (hk : k ≤ l.length) : Dig 2 (l.drop k) (n / 2 ^ k) := by
  refine ⟨?_, fun i => ?_⟩
  · rw [Nat.div_lt_iff_lt_mul (Nat.two_pow_pos k), List.length_drop, ← Nat.pow_add]
    have : l.length - k + k = l.length := by omega
    rw [this]; exact h.1
  · rw [Nat.div_div_eq_div_mul, ← Nat.pow_add, ← h.2 (k + i)]
    simp [dg]

set_option maxHeartbeats 1000000 in
theorem refShift_any (N K : Nat) (k : Int) (va : Value) (w : World) (ha : BitV w va N K) (hK : K ≤ 100000) (hk : -65536 ≤ k ∧ k ≤ 65536) :
    Calls Try.prog 28 #[va, .int .i64 k] w fun e w' => ∃ v, e = .returned v ∧ BitV w' v (sh N k) (K + 65536) ∧ Below w.heap.size w w' := by
  obtain ⟨l, hr, hd, hn, hl⟩ := ha
  have HD := hide hd
  clear hd hn
  obtain ⟨hk0, hk1⟩ := hk
  by_cases h0 : 0 ≤ k
  · obtain ⟨j, rfl⟩ := Int.eq_ofNat_of_zero_le h0
    obtain ⟨i0, hi, hz0, hz1, hz2⟩ := info_parts infoB
    have hsh : sh N (j : Int) = N * 2 ^ j := by unfold sh; rw [if_neg (by omega), Int.toNat_natCast]
    rw [hsh]
    clear hsh
    go_enter Try.func28, Try.ntmps28
    go_wp2_with (first
      | (at_make; refine wpList_mk0 w rfl (.tmp 7) (.tmp 7) 40 rfl 4 i0 (.bool false) 1 Try.underlying40 hi hz0 hz1 hz2 mkB rfl rfl .i64 .i64 _ _ j (by rfl) (by rfl) (by omega) (by omega) (by omega) (by omega) ?_; intro w0 hown0 hbel0; have hr0 := hr.below hbel0)
      | (at_builtin; refine wpList_appS w w0 rfl _ _ 40 rfl w.heap.size 4 i0 (.bool false) 1 Try.underlying40 hi hz0 hz1 hz2 rfl mkB (fun _ => rfl) _ _ _ (by rfl) hown0 hbel0 _ l (by rfl) hr0 (by omega) (by omega) hbel0.size ?_; intro v' w1 hown1 hbel1))
    have hr1 := Rd.of_owns (l := List.replicate j 0 ++ l) (mk := mkB) (by simpa using hown1)
    refine (cut_any _ _ (K + 65536) _ _ hr1 (dig_zeros j HD.out) (by simp; omega)).mono ?_
    rintro e w' ⟨v2, rfl, hbit, hw⟩
    subst w'
    clear hr1 hown1 hown0 hbel0 hr0
    go_wp2
    go_ret
    exact ⟨_, rfl, hbit, hbel1⟩
  · have hnk : ¬ 0 ≤ k := h0
    obtain ⟨j, hj⟩ : ∃ j : Nat, k = -(j : Int) := ⟨(-k).toNat, by omega⟩
    subst hj
    have hsh : sh N (-(j : Int)) = N / 2 ^ j := by unfold sh; rw [if_pos (by omega)]; congr 2; omega
    rw [hsh]
    clear hsh
    have hr' := hr
    obtain ⟨ao, ca, rfl, hca, hma, hra⟩ := hr'
    unfold maxLen at hma
    by_cases hjl : l.length ≤ j
    · clear hra
      go_enter Try.func28, Try.ntmps28
      go_wp2
      go_ret
      refine ⟨_, rfl, ⟨[], Rd.nil _ _, ?_, .inl rfl, by simp⟩, Below.refl _ _⟩
      rw [Nat.div_eq_of_lt (Nat.lt_of_lt_of_le HD.out.1 (Nat.pow_le_pow_right (by decide) hjl))]
      exact dig_nil
    · rcases hra with h | ⟨b, off, rfl, hbl, hcell⟩
      · omega
      · clear hcell
        have hjl2 : j < l.length := by omega
        have HR := hide (hr.drop j hjl2)
        go_enter Try.func28, Try.ntmps28
        go_wp2_with fail
        refine (cut_any _ _ (K + 65536) _ _ HR.out (dig_drop j HD.out (by omega)) (by simp; omega)).mono ?_
        rintro e w' ⟨v2, rfl, hbit, hw⟩
        subst w'
        go_wp2
        go_ret
        exact ⟨_, rfl, hbit, Below.refl _ _⟩

end Go.Proofs.Ytpeobjddpdffiaa
