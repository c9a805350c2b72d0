/- Contracts of radicandref01: Shl. -/
import Derived.Test.YtenbomfoihajhaaRefE
set_option linter.unusedVariables false
set_option linter.unusedSimpArgs false
set_option maxRecDepth 8000
namespace Go.Proofs.Ytenbomfoihajhaa
open Go.RowKit Plain

/-- What is carried into the digit k of n times T. -/
def shc (n T k : Nat) : Nat := n % BB ^ k * T / BB ^ k

theorem shc_zero (n T : Nat) : shc n T 0 = 0 := by unfold shc; simp [Nat.mod_one]
theorem shc_lt (n T k : Nat) (hT : 0 < T) : shc n T k < T := by
  unfold shc
  have hp : 0 < BB ^ k := Nat.pow_pos (by decide)
  rw [Nat.div_lt_iff_lt_mul hp, Nat.mul_comm T]
  exact Nat.mul_lt_mul_of_pos_right (Nat.mod_lt _ hp) hT
theorem shc_succ (n T k : Nat) : (shc n T k + dgt n k * T) / BB = shc n T (k + 1) := by
  unfold shc dgt
  have hp : 0 < BB ^ k := Nat.pow_pos (by decide)
  rw [Nat.pow_succ, Nat.mod_mul (x := n), Nat.add_mul, Nat.mul_assoc, ← Nat.div_div_eq_div_mul, Nat.add_mul_div_left _ _ hp]
theorem shc_digit (n T k : Nat) : (shc n T k + dgt n k * T) % BB = n * T / BB ^ k % BB := by
  unfold shc dgt
  have hp : 0 < BB ^ k := Nat.pow_pos (by decide)
  have e : n * T = n % BB ^ k * T + BB ^ k * (n / BB ^ k * T) := by
    rw [← Nat.mul_assoc, ← Nat.add_mul, Nat.mod_add_div]
  rw [e, Nat.add_mul_div_left _ _ hp]
  generalize n / BB ^ k = m
  generalize n % BB ^ k * T / BB ^ k = c
  have e2 : m * T = m % BB * T + BB * (m / BB * T) := by
    rw [← Nat.mul_assoc, ← Nat.add_mul, Nat.mod_add_div]
  rw [e2, ← Nat.add_assoc, Nat.add_mul_mod_self_left]

theorem dig_zeros' {β : Nat} (hβ : 0 < β) (k : Nat) {l : List Nat} {n : Nat} (h : Dig β l n) : Dig β (List.replicate k 0 ++ l) (n * β ^ k) := by
  have hv := dig_val hβ l n h
  have hd := val_dig (β := β) hβ (List.replicate k 0 ++ l) (fun i => by
    rcases Nat.lt_or_ge i k with h1 | h1
    · simp [dg, List.getElem?_append, h1]; exact hβ
    · have := h.lt hβ (i - k)
      simp only [dg, List.getD_eq_getElem?_getD] at this ⊢
      rw [List.getElem?_append_right (by simpa using h1)]
      simpa using this)
  rw [val_append, val_zeros, hv, List.length_replicate, Nat.zero_add, Nat.mul_comm] at hd
  exact hd

theorem shl_or (c d r : Nat) (hr : r < 32) (hc : c < 2 ^ r) (hd : d < 4294967296) :
    bits .or .u64 (c : Int) (IntKind.u64.wrap ((d : Int) * 2 ^ r)) = ((c + d * 2 ^ r : Nat) : Int) ∧ c + d * 2 ^ r < 18446744073709551616 := by
  have hp : 2 ^ r ≤ 2 ^ 31 := Nat.pow_le_pow_right (by decide) (by omega)
  have h31 : (2 : Nat) ^ 31 = 2147483648 := by decide
  have hm : d * 2 ^ r ≤ 4294967295 * 2147483648 := Nat.mul_le_mul (by omega) (by omega)
  have e1 : IntKind.u64.wrap ((d : Int) * 2 ^ r) = ((2 ^ r * d : Nat) : Int) := by
    have : (d : Int) * 2 ^ r = ((2 ^ r * d : Nat) : Int) := by rw [Int.natCast_mul, Int.natCast_pow, Int.mul_comm]; rfl
    rw [IntKind.wrap_u64, this, Nat.mul_comm]; omega
  rw [Nat.mul_comm] at hm
  rw [Nat.mul_comm d, e1, bits_or_u64_nat _ _ (by omega) (by omega), Nat.or_comm, Nat.add_comm, Nat.two_pow_add_eq_or_of_lt hc]
  exact ⟨rfl, by rw [← Nat.two_pow_add_eq_or_of_lt hc]; omega⟩

theorem bigpow (n s : Nat) : n * 2 ^ (s % 32) * BB ^ (s / 32) = n * 2 ^ s := by
  have e : BB = 2 ^ 32 := by decide
  rw [e, ← Nat.pow_mul, Nat.mul_assoc, ← Nat.pow_add]; congr 2; omega

set_option maxHeartbeats 2000000 in
theorem refShl_any (n K s : Nat) (va : Value) (w : World) (ha : BigV w va n K) (hK : K ≤ 1000000) (hs : s ≤ 100000) :
    Calls Try.prog 16 #[va, .int .i64 s] w fun e w' => ∃ v, e = .returned v ∧ BigV w' v (n * 2 ^ s) (s / 32 + K + 1) ∧ Below w.heap.size w w' := by
  have ha' := ha
  obtain ⟨la, ⟨ao, ca, rfl, hca, hma, -⟩, hda, -, hka⟩ := ha'
  unfold maxLen at hma
  have HA : Hid (n < BB ^ la.length) := hda.1
  clear hda
  generalize la.length = na at *
  obtain ⟨i0, hi, hz0, hz1, hz2⟩ := info_parts info32
  have hT0 : 0 < 2 ^ (s % 32) := Nat.two_pow_pos _
  have hT1 : 2 ^ (s % 32) ≤ 2147483648 := Nat.le_trans (Nat.pow_le_pow_right (by decide) (show s % 32 ≤ 31 by omega)) (by decide)
  have HOR := hide (fun k => shl_or (shc n (2 ^ (s % 32)) k) (dgt n k) (s % 32) (by omega) (shc_lt n _ k hT0) (dgt_lt n k))
  have HBP := hide (bigpow n s)
  obtain ⟨T, hT⟩ : ∃ T : Nat, T = 2 ^ (s % 32) := ⟨_, rfl⟩
  rw [← hT] at hT0 hT1 HOR HBP
  have HT := hide hT
  clear hT
  have hwi : IntKind.i64.wrap ((s : Int) / 32) = (s : Int) / 32 := by rw [IntKind.wrap_i64]; omega
  have hwm : (s : Int).tmod 32 = (s : Int) % 32 := Int.tmod_eq_emod_of_nonneg (by omega)
  have hwt : ((s : Int) % 32).toNat = s % 32 := by omega
  have hws : 0 ≤ (s : Int) % 32 := by omega
  go_enter Try.func16, Try.ntmps16
  go_wp2
  go_loopw [5, 6] (fun v i wr => ∃ k : Nat, k ≤ s / 32 ∧ i = .int .i64 k ∧
        wr.ownsRow w.heap.size 84 1 v k ((List.replicate k 0).map mk32) ∧ Below w.heap.size w wr)
      (fun _ i _ => s / 32 - (intOf i).toNat)
  case atStart => exact ⟨0, by omega, rfl, World.ownsRow_nil _ _ _ _, Below.refl _ _⟩
  case round =>
    obtain ⟨k, hk, rfl, hown, hbel⟩ := hrel
    have hsz := hbel.size
    by_cases hlt : k < s / 32
    · have hj : (k : Int) < (s : Int) / 32 := by omega
      go_wp2_with (at_builtin; go_must (refine wpList_app1 w wr rfl _ _ 28 rfl w.heap.size 84 i0 (.int .u32 0) 4 Try.underlying28 hi hz0 hz1 hz2 rfl mk32 _ _ _ (by rfl) hown hbel _ 0 rfl rfl (by rfl) (by omega) (by omega) (by omega) ?_); intro v' w1 hown1 hbel1; clear hown hbel hsz)
      go_roundw
      case rel => exact ⟨k + 1, by omega, by go_num, by rw [List.replicate_succ']; exact hown1, hbel1⟩
      case measure => simp [intOf]; omega
    · have hj : ¬ (k : Int) < (s : Int) / 32 := by omega
      have hk : k = s / 32 := by omega
      subst hk
      clear hj
      go_wp2
      go_loopw [5, 7, 8] (fun v c i wr => ∃ k : Nat, k ≤ na + 1 ∧ i = .int .i64 k ∧ c = .int .u64 (shc n T k : Nat) ∧
          wr.ownsRow w.heap.size 84 1 v (s / 32 + k) ((List.replicate (s / 32) 0 ++ dl BB (n * T) k).map mk32) ∧ Below w.heap.size w wr)
        (fun _ _ i _ => na + 1 - (intOf i).toNat)
      case atStart => exact ⟨0, by omega, rfl, by rw [shc_zero]; rfl, by simpa [dl] using hown, hbel⟩
      case round =>
        clear hown hbel hsz
        obtain ⟨k, hk, rfl, rfl, hown, hbel⟩ := hrel
        have ha1 := ha.below hbel
        have hsz := hbel.size
        by_cases hlt : k ≤ na
        · have hj : (k : Int) ≤ (na : Int) := by omega
          obtain ⟨hor, hX⟩ := HOR.out k
          have hd1 := shc_digit n T k
          have hc1 := shc_succ n T k
          generalize hXe : shc n T k + dgt n k * T = X at *
          clear hXe
          have HD1 := hide hd1
          have HC1 := hide hc1
          clear hd1 hc1
          generalize shc n T k = c at *
          go_wp2_with (first
            | (go_at_call 67; refine (digit_big _ _ k _ _ _ ha1 (by omega)).mono ?_; rintro e w' ⟨rfl, hw⟩; subst w')
            | (at_builtin; go_must (refine wpList_app1 w wr rfl _ _ 28 rfl w.heap.size 84 i0 (.int .u32 0) 4 Try.underlying28 hi hz0 hz1 hz2 rfl mk32 _ _ _ (by rfl) hown hbel _ (X % 4294967296) (congrArg (Value.int .u32) (show (X : Int) % 4294967296 = ((X % 4294967296 : Nat) : Int) by omega)) rfl (by rfl) (by omega) (by omega) (by omega) ?_); intro v' w1 hown1 hbel1; clear hown hbel ha1 hsz))
          go_roundw
          case rel =>
            refine ⟨_, _, _, _, _, _, _, _, _, _, _, _, _, _, _, _, _, _, _, _, _, _, _, _, ⟨k + 1, by omega, ?_, ?_, ?_, hbel1⟩, rfl⟩
            · go_num
            · exact congrArg (Value.int .u64) (by rw [← HC1.out]; unfold BB; omega)
            · rw [dl_succ, ← HD1.out, ← List.append_assoc]; exact hown1
          case measure => simp [intOf]; omega
        · have hj : ¬ (k : Int) ≤ (na : Int) := by omega
          have hk : k = na + 1 := by omega
          have hr := Rd.of_owns (l := List.replicate (s / 32) 0 ++ dl BB (n * T) k) (by rw [List.length_append, List.length_replicate, dl_length]; exact hown)
          have hnT : n * T < BB ^ k := by
            rw [hk, Nat.pow_succ]
            exact Nat.lt_of_lt_of_le (Nat.mul_lt_mul_of_pos_right HA.out hT0) (Nat.mul_le_mul_left _ (Nat.le_trans hT1 (by decide)))
          have hd := dig_zeros' (β := BB) (by decide) (s / 32) (dl_dig BB (n * T) k hnT (by decide))
          rw [HBP.out] at hd
          have hl : (List.replicate (s / 32) 0 ++ dl BB (n * T) k).length ≤ s / 32 + K + 1 := by rw [List.length_append, List.length_replicate, dl_length]; omega
          have HK := hide hk
          clear hown ha1 hk
          go_wp2_with (go_at_call 68; refine (trim_any _ _ (s / 32 + K + 1) _ _ hr hd hl).mono ?_; rintro e w' ⟨v', rfl, hbig, hw⟩; subst w')
          go_ret
          exact ⟨_, rfl, hbig, hbel⟩

end Go.Proofs.Ytenbomfoihajhaa
