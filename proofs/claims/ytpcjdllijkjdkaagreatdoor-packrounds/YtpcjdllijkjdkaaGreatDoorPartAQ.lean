/- Contracts and laws: FmtK, ClsA. -/
import Derived.Test.YtpcjdllijkjdkaaGreatDoorPartAP
import Derived.Deep.DeepCutAuto
/- Contracts: radicandref05.Bit, Fits; format.Fits. -/
set_option linter.unusedVariables false
set_option linter.unusedSimpArgs false
set_option maxRecDepth 8000
namespace Go.Proofs.YtpcjdllijkjdkaaGreatDoor
open Go.RowKit Plain

theorem ret_bl {a b : Bool} (h : a = b) : Ending.returned (.bool a) = Ending.returned (.bool b) := by rw [h]
theorem bit_int (x n : Nat) : ((((x : Int) / 2 ^ n).tmod 2) == 1) = (x / 2 ^ n % 2 == 1) := by
  have h : (x : Int) / 2 ^ n = ((x / 2 ^ n : Nat) : Int) := by rw [Int.natCast_ediv, Int.natCast_pow]; rfl
  rw [h]
  generalize x / 2 ^ n = y
  rw [Int.tmod_eq_emod_of_nonneg (by omega), Bool.eq_iff_iff]
  simp only [beq_iff_eq]
  omega
theorem bit_low (hi lo n : Nat) (h : n < 64) : (lo + 18446744073709551616 * hi) / 2 ^ n % 2 = lo / 2 ^ n % 2 := by
  have e : 18446744073709551616 * hi = 2 ^ n * (2 * (2 ^ (63 - n) * hi)) := by
    rw [← Nat.mul_assoc 2, ← Nat.pow_succ', ← Nat.mul_assoc, ← Nat.pow_add, show n + (63 - n + 1) = 64 by omega]
  rw [e, Nat.add_mul_div_left _ _ (Nat.two_pow_pos n)]
  omega
theorem bit_high (hi lo n : Nat) (hl : lo < 18446744073709551616) (h : ¬ n < 64) : (lo + 18446744073709551616 * hi) / 2 ^ n = hi / 2 ^ (n - 64) := by
  have e : 2 ^ n = 18446744073709551616 * 2 ^ (n - 64) := by
    rw [show (18446744073709551616 : Nat) = 2 ^ 64 by decide +kernel, ← Nat.pow_add, show 64 + (n - 64) = n by omega]
  rw [e, ← Nat.div_div_eq_div_mul, Nat.add_mul_div_left _ _ (by decide), Nat.div_eq_of_lt hl, Nat.zero_add]

set_option maxHeartbeats 1000000 in
theorem refBit5_any (hi lo n : Nat) (hh : hi < 18446744073709551616) (hl : lo < 18446744073709551616) (hn : n < 128) (x : Int) (hx : x = (n : Int)) (w : World) :
    Calls Tryz.prog 71 #[.agg #[.int .u64 (hi : Nat), .int .u64 (lo : Nat)], .int .i64 x] w fun e w' => e = .returned (.bool ((lo + 18446744073709551616 * hi) / 2 ^ n % 2 == 1)) ∧ Below w.heap.size w w' := by
  subst hx
  by_cases h : n < 64
  · have h64 : ¬ (64 : Int) ≤ (n : Int) := by omega
    have h0 : 0 ≤ (n : Int) := by omega
    go_enter Tryz.func71, Tryz.ntmps71
    go_wp2
    go_ret
    exact ⟨ret_bl (by rw [bit_low hi lo n h]; exact bit_int lo n), below_allocs _ _⟩
  · have h64 : (64 : Int) ≤ (n : Int) := by omega
    have h0 : 0 ≤ (n : Int) - 64 := by omega
    go_enter Tryz.func71, Tryz.ntmps71
    go_wp2
    go_ret
    exact ⟨ret_bl (by rw [bit_high hi lo n hl h]; exact bit_int hi (n - 64)), below_allocs _ _⟩

theorem lt_of_bits (a B : Nat) : ∀ d, a < 2 ^ (B + d) → (∀ m, B ≤ m → m < B + d → ¬ a / 2 ^ m % 2 = 1) → a < 2 ^ B
  | 0, h, _ => h
  | d + 1, h, hb => by
    refine lt_of_bits a B d ?_ (fun m h1 h2 => hb m h1 (by omega))
    have h3 := hb (B + d) (by omega) (by omega)
    have h4 : a / 2 ^ (B + d) < 2 := by
      rw [Nat.div_lt_iff_lt_mul (Nat.two_pow_pos _), ← Nat.pow_succ']
      exact h
    have h5 : a / 2 ^ (B + d) = 0 := by
      generalize a / 2 ^ (B + d) = y at h3 h4 ⊢
      omega
    rcases Nat.div_eq_zero_iff.1 h5 with h6 | h6
    · exact absurd h6 (Nat.ne_of_gt (Nat.two_pow_pos _))
    · exact h6
theorem ge_of_bit {a m B : Nat} (h : a / 2 ^ m % 2 = 1) (hm : B ≤ m) : ¬ a < 2 ^ B := by
  intro h1
  have h2 : a < 2 ^ m := Nat.lt_of_lt_of_le h1 (Nat.pow_le_pow_right (by decide) hm)
  rw [Nat.div_eq_of_lt h2] at h
  omega

set_option maxHeartbeats 1000000 in
theorem refFits_none (f : Int) (h : f < 1 ∨ 4 < f) (hi lo : Nat) (w : World) : Calls Tryz.prog 91 #[.int .i64 f, .agg #[.int .u64 (hi : Nat), .int .u64 (lo : Nat)]] w fun e w' => e = .returned (.bool false) ∧ Below w.heap.size w w' := by
  have HI := hide (fun w => is_none f h w)
  clear h
  go_enter Tryz.func91, Tryz.ntmps91
  go_wp2_with fail
  refine (HI.out _).mono ?_
  rintro e w1 ⟨rfl, hw⟩
  subst w1
  go_wp2
  go_ret
  exact ⟨rfl, below_allocs _ _⟩

structure FitSt (hi lo : Nat) (w W : World) : Prop where
  h : W.cell? ⟨w.heap.size, 0, none⟩ = some (.int .u64 (hi : Nat))
  l : W.cell? ⟨w.heap.size, 1, none⟩ = some (.int .u64 (lo : Nat))
  lt : w.heap.size < W.heap.size
  bel : Below w.heap.size w W
theorem FitSt.below {hi lo : Nat} {w W W' : World} (h : FitSt hi lo w W) (hb : Below W.heap.size W W') : FitSt hi lo w W' :=
  ⟨(hb.cell (p := ⟨w.heap.size, 0, none⟩) h.lt).trans h.h, (hb.cell (p := ⟨w.heap.size, 1, none⟩) h.lt).trans h.l, Nat.lt_of_lt_of_le h.lt hb.size, below_trans h.bel hb⟩
theorem fitSt_start (hi lo : Nat) (w : World) : FitSt hi lo w (w.alloc (.cells #[.int .u64 (hi : Nat), .int .u64 (lo : Nat)] 29)) :=
  ⟨by simp [go_sem], by simp [go_sem], by simp, below_allocs _ _⟩

set_option maxHeartbeats 1000000 in
theorem refFits_walk (f : Int) (B hi lo : Nat) (hB : B ≤ 128) (hh : hi < 18446744073709551616) (hl : lo < 18446744073709551616)
    (HI : Hid (∀ w, Calls Tryz.prog 5 #[.int .i64 f] w fun e w' => e = .returned (.bool true) ∧ w' = w))
    (HN : Hid (∀ w, Calls Tryz.prog 33 #[.int .i64 f] w fun e w' => e = .returned (.int .i64 (B : Nat)) ∧ w' = w)) (w : World) :
    Calls Tryz.prog 91 #[.int .i64 f, .agg #[.int .u64 (hi : Nat), .int .u64 (lo : Nat)]] w fun e w' => e = .returned (.bool (decide ((lo + 18446744073709551616 * hi) < 2 ^ B))) ∧ Below w.heap.size w w' := by
  have HBT := hide (fun n hn w => refBit5_any hi lo n hh hl hn (n : Int) rfl w)
  have HA : Hid ((lo + 18446744073709551616 * hi) < 2 ^ 128) := by unfold Hid; omega
  have HST := hide (fitSt_start hi lo w)
  clear hh hl
  generalize (lo + 18446744073709551616 * hi) = a at *
  go_enter Tryz.func91, Tryz.ntmps91
  go_wp2_with fail
  refine (HI.out _).mono ?_
  rintro e w1 ⟨rfl, hw⟩
  subst w1
  go_wp2_with fail
  refine (HN.out _).mono ?_
  rintro e w1 ⟨rfl, hw⟩
  subst w1
  go_wp2
  go_loopw [5] (fun i wr => ∃ n : Nat, B ≤ n ∧ n ≤ 128 ∧ i = .int .i64 n ∧ Hid (∀ m, B ≤ m → m < n → ¬ a / 2 ^ m % 2 = 1) ∧ Hid (FitSt hi lo w wr)) (fun i _ => 128 - (intOf i).toNat)
  case atStart => exact ⟨B, Nat.le_refl _, hB, rfl, fun m h1 h2 => by omega, HST⟩
  case round =>
    clear HST HI HN
    obtain ⟨n, hn1, hn2, rfl, hall, hst⟩ := hrel
    by_cases hlt : n < 128
    · have hj : (n : Int) < 128 := by omega
      have c0 := hst.out.h
      have c1 := hst.out.l
      have c2 := hst.out.lt
      go_wp2_with fail
      refine (HBT.out n hlt _).mono ?_
      rintro e w1 ⟨rfl, hb1⟩
      have HS1 := hide (hst.out.below hb1)
      clear hb1 c0 c1 c2
      by_cases hbit : a / 2 ^ n % 2 = 1
      · have HR : Hid (false = decide (a < 2 ^ B)) := by unfold Hid; rw [decide_eq_false (ge_of_bit hbit hn1)]
        have hbb : (a / 2 ^ n % 2 == 1) = true := by rw [beq_iff_eq]; exact hbit
        rw [hbb]
        clear hbit hbb hall
        go_wp2
        go_ret
        exact ⟨ret_bl HR.out, HS1.out.bel⟩
      · have hbb : (a / 2 ^ n % 2 == 1) = false := by rw [beq_eq_false_iff_ne]; exact hbit
        rw [hbb]
        have HALL : Hid (∀ m, B ≤ m → m < n + 1 → ¬ a / 2 ^ m % 2 = 1) := fun m h1 h2 => by
          rcases Nat.lt_or_ge m n with h3 | h3
          · exact hall.out m h1 h3
          · rw [show m = n by omega]; exact hbit
        clear hbit hbb hall
        go_wp2
        go_roundw
        case rel => exact ⟨n + 1, by omega, by omega, rfl, HALL, HS1⟩
        case measure =>
          show 128 - ((n : Int) + 1).toNat < 128 - ((n : Int)).toNat
          omega
    · have hj : ¬ (n : Int) < 128 := by omega
      have HR : Hid (true = decide (a < 2 ^ B)) := by
        unfold Hid
        rw [decide_eq_true (lt_of_bits a B (128 - B) (by rw [show B + (128 - B) = 128 by omega]; exact HA.out) (fun m h1 h2 => hall.out m h1 (by omega)))]
      clear hall
      go_wp2
      go_ret
      exact ⟨ret_bl HR.out, hst.out.bel⟩
theorem refFits_1 (hi lo : Nat) (hh : hi < 18446744073709551616) (hl : lo < 18446744073709551616) (w : World) : Calls Tryz.prog 91 #[.int .i64 1, .agg #[.int .u64 (hi : Nat), .int .u64 (lo : Nat)]] w fun e w' => e = .returned (.bool (decide ((lo + 18446744073709551616 * hi) < 2 ^ 16))) ∧ Below w.heap.size w w' :=
  refFits_walk 1 16 hi lo (by decide) hh hl (fun w => is_1 w) (fun w => bits_1 w) w
theorem refFits_2 (hi lo : Nat) (hh : hi < 18446744073709551616) (hl : lo < 18446744073709551616) (w : World) : Calls Tryz.prog 91 #[.int .i64 2, .agg #[.int .u64 (hi : Nat), .int .u64 (lo : Nat)]] w fun e w' => e = .returned (.bool (decide ((lo + 18446744073709551616 * hi) < 2 ^ 32))) ∧ Below w.heap.size w w' :=
  refFits_walk 2 32 hi lo (by decide) hh hl (fun w => is_2 w) (fun w => bits_2 w) w
theorem refFits_3 (hi lo : Nat) (hh : hi < 18446744073709551616) (hl : lo < 18446744073709551616) (w : World) : Calls Tryz.prog 91 #[.int .i64 3, .agg #[.int .u64 (hi : Nat), .int .u64 (lo : Nat)]] w fun e w' => e = .returned (.bool (decide ((lo + 18446744073709551616 * hi) < 2 ^ 64))) ∧ Below w.heap.size w w' :=
  refFits_walk 3 64 hi lo (by decide) hh hl (fun w => is_3 w) (fun w => bits_3 w) w
theorem refFits_4 (hi lo : Nat) (hh : hi < 18446744073709551616) (hl : lo < 18446744073709551616) (w : World) : Calls Tryz.prog 91 #[.int .i64 4, .agg #[.int .u64 (hi : Nat), .int .u64 (lo : Nat)]] w fun e w' => e = .returned (.bool (decide ((lo + 18446744073709551616 * hi) < 2 ^ 128))) ∧ Below w.heap.size w w' :=
  refFits_walk 4 128 hi lo (by decide) hh hl (fun w => is_4 w) (fun w => bits_4 w) w

theorem len_le (a B : Nat) : (Go.bitLen a ≤ B) ↔ a < 2 ^ B := by
  constructor
  · intro h
    exact Nat.lt_of_lt_of_le (bitLen_spec a).1 (Nat.pow_le_pow_right (by decide) h)
  · intro h
    exact pow_inj_len (β := 2) (a := B) (b := Go.bitLen a) (by decide) h (by
      by_cases h0 : a = 0
      · exact .inl (by rw [h0]; rfl)
      · exact .inr ((bitLen_spec a).2 h0))
end Go.Proofs.YtpcjdllijkjdkaaGreatDoor

/- Contracts: class.ones, taken. -/
set_option linter.unusedVariables false
set_option linter.unusedSimpArgs false
set_option maxRecDepth 8000
namespace Go.Proofs.YtpcjdllijkjdkaaGreatDoor
open Go.RowKit Plain

theorem ones_1 (w : World) : Calls Tryz.prog 85 #[.agg #[.int .i64 16, .int .i64 11, .int .i64 15, .int .i64 (-14), .int .i64 5]] w fun e w' => e = .returned (.int .i64 ((31 : Nat) : Int)) ∧ Below w.heap.size w w' := by
  go_enter Tryz.func85, Tryz.ntmps85
  go_wp2
  go_ret
  exact ⟨rfl, below_allocs _ _⟩

theorem ones_2 (w : World) : Calls Tryz.prog 85 #[.agg #[.int .i64 32, .int .i64 24, .int .i64 127, .int .i64 (-126), .int .i64 8]] w fun e w' => e = .returned (.int .i64 ((255 : Nat) : Int)) ∧ Below w.heap.size w w' := by
  go_enter Tryz.func85, Tryz.ntmps85
  go_wp2
  go_ret
  exact ⟨rfl, below_allocs _ _⟩

theorem ones_3 (w : World) : Calls Tryz.prog 85 #[.agg #[.int .i64 64, .int .i64 53, .int .i64 1023, .int .i64 (-1022), .int .i64 11]] w fun e w' => e = .returned (.int .i64 ((2047 : Nat) : Int)) ∧ Below w.heap.size w w' := by
  go_enter Tryz.func85, Tryz.ntmps85
  go_wp2
  go_ret
  exact ⟨rfl, below_allocs _ _⟩

theorem ones_4 (w : World) : Calls Tryz.prog 85 #[.agg #[.int .i64 128, .int .i64 113, .int .i64 16383, .int .i64 (-16382), .int .i64 15]] w fun e w' => e = .returned (.int .i64 ((32767 : Nat) : Int)) ∧ Below w.heap.size w w' := by
  go_enter Tryz.func85, Tryz.ntmps85
  go_wp2
  go_ret
  exact ⟨rfl, below_allocs _ _⟩

end Go.Proofs.YtpcjdllijkjdkaaGreatDoor

