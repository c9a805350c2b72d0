/- Contracts of radicandref01: Shr, Sub, Odd. -/
import Derived.Test.YtenbomfoihajhaaRefG
set_option linter.unusedVariables false
set_option linter.unusedSimpArgs false
set_option maxRecDepth 8000
namespace Go.Proofs.Ytenbomfoihajhaa
open Go.RowKit Plain

/-- One digit of a quotient by 2^r. -/
theorem shr_digit (n k r : Nat) (hr : r < 32) : (dgt n k + 4294967296 * dgt n (k + 1)) / 2 ^ r % 4294967296 = n / 2 ^ r / BB ^ k % BB := by
  unfold dgt
  have hT := Nat.two_pow_pos r
  have e1 : n / BB ^ (k + 1) = n / BB ^ k / BB := div_pow_succ n BB k
  have e0 : n / 2 ^ r / BB ^ k = n / BB ^ k / 2 ^ r := by rw [Nat.div_div_eq_div_mul, Nat.mul_comm, ← Nat.div_div_eq_div_mul]
  rw [e1, e0]
  generalize n / BB ^ k = m
  obtain ⟨s, hs⟩ : ∃ s, 32 = r + s := ⟨32 - r, by omega⟩
  have eB : BB = 2 ^ r * 2 ^ s := by rw [← Nat.pow_add, ← hs]; rfl
  have e2 : m = (m % BB + BB * (m / BB % BB)) + BB * BB * (m / BB / BB) := by
    have h1 := Nat.mod_add_div m BB
    have h2 := Nat.mod_add_div (m / BB) BB
    generalize m / BB / BB = q at *
    generalize m / BB % BB = d at *
    generalize hX : m / BB = X at *
    rw [← h2, Nat.mul_add, ← Nat.add_assoc, ← Nat.mul_assoc] at h1
    exact h1.symm
  show (m % BB + BB * (m / BB % BB)) / 2 ^ r % BB = m / 2 ^ r % BB
  conv => rhs; rw [e2]
  have e3 : BB * BB * (m / BB / BB) = 2 ^ r * (BB * (2 ^ s * (m / BB / BB))) := by
    conv => lhs; rw [show BB * BB = (2 ^ r * 2 ^ s) * BB from by rw [← eB]]
    simp only [Nat.mul_left_comm, Nat.mul_comm]
  rw [e3, Nat.add_mul_div_left _ _ hT, Nat.add_mul_mod_self_left]

theorem shr_or (c d : Nat) (hc : c < 4294967296) (hd : d < 4294967296) :
    bits .or .u64 (c : Int) ((d : Int) * 4294967296) = ((c + 4294967296 * d : Nat) : Int) := by
  have e : (d : Int) * 4294967296 = ((2 ^ 32 * d : Nat) : Int) := by omega
  rw [e, bits_or_u64_nat _ _ (by omega) (by omega), Nat.or_comm, ← Nat.two_pow_add_eq_or_of_lt (by omega)]
  omega

theorem shr_pow (n s : Nat) : n / 2 ^ (s % 32) / BB ^ (s / 32) = n / 2 ^ s := by
  have e : BB = 2 ^ 32 := by decide
  rw [e, ← Nat.pow_mul, Nat.div_div_eq_div_mul, ← Nat.pow_add]; congr 2; omega

theorem shr_digit' (n s k : Nat) : (dgt n (s / 32 + k) + 4294967296 * dgt n (s / 32 + k + 1)) / 2 ^ (s % 32) % 4294967296 = n / 2 ^ s / BB ^ k % BB := by
  rw [shr_digit n (s / 32 + k) (s % 32) (by omega), Nat.pow_add, ← Nat.div_div_eq_div_mul, shr_pow]

theorem shr_fits (n s len k : Nat) (hn : n < BB ^ len) (hk : s / 32 + k = max len (s / 32)) : n / 2 ^ s < BB ^ k := by
  rw [← shr_pow, Nat.div_lt_iff_lt_mul (Nat.pow_pos (by decide)), ← Nat.pow_add]
  refine Nat.lt_of_le_of_lt (Nat.div_le_self _ _) (Nat.lt_of_lt_of_le hn (Nat.pow_le_pow_right (by decide) (by omega)))

set_option maxHeartbeats 1000000 in
theorem refShr_any (n K s : Nat) (va : Value) (w : World) (ha : BigV w va n K) (hK : K ≤ 1000000) (hs : s ≤ 100000) :
    Calls Try.prog 18 #[va, .int .i64 s] w fun e w' => ∃ v, e = .returned v ∧ BigV w' v (n / 2 ^ s) K ∧ Below w.heap.size w w' := by
  have ha' := ha
  obtain ⟨la, ⟨ao, ca, rfl, hca, hma, -⟩, hda, -, hka⟩ := ha'
  unfold maxLen at hma
  have HA : Hid (n < BB ^ la.length) := hda.1
  clear hda
  generalize la.length = na at *
  obtain ⟨i0, hi, hz0, hz1, hz2⟩ := info_parts info32
  have hwi : IntKind.i64.wrap ((s : Int) / 32) = (s : Int) / 32 := by rw [IntKind.wrap_i64]; omega
  have hwm : (s : Int).tmod 32 = (s : Int) % 32 := Int.tmod_eq_emod_of_nonneg (by omega)
  have hwt : ((s : Int) % 32).toNat = s % 32 := by omega
  have hws : 0 ≤ (s : Int) % 32 := by omega
  have hmin : min (s % 32) 64 = s % 32 := by omega
  go_enter Try.func18, Try.ntmps18
  go_wp2
  go_loopw [5, 6] (fun v i wr => ∃ k : Nat, s / 32 + k ≤ max na (s / 32) ∧ i = .int .i64 ((s / 32 + k : Nat) : Int) ∧
        wr.ownsRow w.heap.size 84 1 v k ((dl BB (n / 2 ^ s) k).map mk32) ∧ Below w.heap.size w wr)
      (fun _ i _ => max na (s / 32) - (intOf i).toNat)
  case atStart => exact ⟨0, by omega, congrArg (Value.int .i64) (by omega), World.ownsRow_nil _ _ _ _, Below.refl _ _⟩
  case round =>
    obtain ⟨k, hk, rfl, hown, hbel⟩ := hrel
    have hsz := hbel.size
    have ha1 := ha.below hbel
    have HD := hide (shr_digit' n s k)
    generalize hj : s / 32 + k = j at *
    by_cases hlt : j < na
    · have hjl : (j : Int) < (na : Int) := by omega
      have d0 := dgt_lt n j
      have d1 := dgt_lt n (j + 1)
      have hor := shr_or _ _ d0 d1
      have hwd : IntKind.u64.wrap ((dgt n (j + 1) : Int) * 4294967296) = (dgt n (j + 1) : Int) * 4294967296 := by rw [IntKind.wrap_u64]; omega
      generalize hX : dgt n j + 4294967296 * dgt n (j + 1) = X at *
      have hXl : X < 18446744073709551616 := by omega
      clear hX
      have HXE := hide (show (X : Int) / 2 ^ (s % 32) % 4294967296 = ((X / 2 ^ (s % 32) % 4294967296 : Nat) : Int) by rw [Int.natCast_emod, Int.natCast_ediv, Int.natCast_pow]; rfl)
      go_wp2_with (first
        | (go_at_call 67; first | (refine (digit_big n _ j _ _ _ ha1 (by with_reducible rfl)).mono ?_; rintro e w' ⟨rfl, hw⟩; subst w') | (refine (digit_big n _ (j + 1) _ _ _ ha1 (by omega)).mono ?_; rintro e w' ⟨rfl, hw⟩; subst w'))
        | (at_builtin; go_must (refine wpList_app1 w wr rfl _ _ 28 rfl w.heap.size 84 i0 (.int .u32 0) 4 Try.underlying28 hi hz0 hz1 hz2 rfl mk32 _ _ _ (by rfl) hown hbel _ (X / 2 ^ (s % 32) % 4294967296) (congrArg (Value.int .u32) HXE.out) rfl (by rfl) (by omega) (by omega) (by omega) ?_); intro v' w1 hown1 hbel1; clear hown hbel ha1 hsz))
      go_roundw
      case rel => exact ⟨k + 1, by omega, congrArg (Value.int .i64) (by omega), by rw [dl_succ, ← HD.out]; exact hown1, hbel1⟩
      case measure => simp [intOf]; omega
    · have hjl : ¬ (j : Int) < (na : Int) := by omega
      have hr := Rd.of_owns (l := dl BB (n / 2 ^ s) k) (by rw [dl_length]; exact hown)
      have hd := dl_dig BB (n / 2 ^ s) k (shr_fits n s na k HA.out (by omega)) (by decide)
      have hl := dl_length BB (n / 2 ^ s) k
      clear hown ha1
      go_wp2_with (go_at_call 68; refine (trim_any _ _ K _ _ hr hd (by omega)).mono ?_; rintro e w' ⟨v', rfl, hbig, hw⟩; subst w')
      go_ret
      exact ⟨_, rfl, hbig, hbel⟩

end Go.Proofs.Ytenbomfoihajhaa
