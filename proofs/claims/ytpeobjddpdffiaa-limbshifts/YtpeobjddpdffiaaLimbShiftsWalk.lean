/- For all lists of limbs the law radicandlaw01.LimbShifts returns true. -/
import Derived.Test.YtpeobjddpdffiaaLimbBackWalk
import Derived.Test.YtpeobjddpdffiaaRefF
set_option linter.unusedVariables false
namespace Go.Proofs.Ytpeobjddpdffiaa
open Go.RowKit Plain

theorem limbShifts_big (n : Int) (la : List Nat) (va : Value) (w : World) (ha : Rd mk64 w va la) (hbig : 30 < la.length) :
    Calls Try.prog 5 #[va, .int .i64 n] w fun e w' => e = .returned (.bool true) ∧ Below w.heap.size w w' := by
  obtain ⟨ao, ca, rfl, hca, hma, -⟩ := ha
  unfold maxLen at hma
  go_enter Try.func5, Try.ntmps5
  go_wp2_with (go_at_call 21; refine (awake_any _).mono ?_; rintro e w' ⟨rfl, hbel⟩)
  go_ret
  exact ⟨rfl, hbel⟩

set_option maxHeartbeats 4000000 in
theorem limbShifts_A (N : Nat) (j : Nat) (la : List Nat) (va : Value) (w : World) (ha : Rd mk64 w va la) (hda : Dig 18446744073709551616 la N) (hla : la.length ≤ 30) (hj : j < Go.bitLen N) (hj2 : j ≤ 65536) :
    Calls Try.prog 5 #[va, .int .i64 (j : Int)] w fun e w' => e = .returned (.bool true) ∧ Below w.heap.size w w' := by
  have ha' := ha
  obtain ⟨ao, ca, rfl, hca, hma, -⟩ := ha'
  unfold maxLen at hma
  have hB := Below.refl w.heap.size w
  have HA := hide hda
  clear hda
  have h1 : ¬ 30 < la.length := by omega
  have hbl : Go.bitLen N ≤ 64 * la.length := bitLen_small N la.length HA.out.1
  go_enter Try.func5, Try.ntmps5
  go_wp2_with fail
  refine (bits_any la N _ _ ha HA.out (by omega)).mono ?_
  rintro e w1 ⟨vb, rfl, hBV, hb1⟩
  replace ha := ha.below hb1
  replace hB := below_trans hB hb1
  clear hb1
  have hBV0 := hBV
  obtain ⟨lq, ⟨qo, cq, rfl, hqc, hqm, hqr⟩, hdq, hnq, hlq⟩ := hBV0
  unfold maxLen at hqm
  have hbl2 := bitV_len hdq hnq
  have HDQ := hide hdq
  have HQR := hide hqr
  have HBL := hide hbl2
  have hlen : lq.length ≤ 1920 := by omega
  have HNQ := hide hnq
  clear hdq hnq hqr
  have hjl : j < lq.length := by have := HBL.out; omega
  have hjl2 : (j : Int) < (lq.length : Int) := by omega
  clear hbl2
  go_wp2_with fail
  refine (refShift_any N _ (j : Int) _ _ hBV (by omega) (by omega)).mono ?_
  rintro e w2 ⟨v2, rfl, h2, hb2⟩
  replace ha := ha.below hb2
  replace hBV := hBV.below hb2
  replace hB := below_trans hB hb2
  clear hb2
  go_wp2_with fail
  refine (limbs_any _ _ _ _ h2 (by omega)).mono ?_
  rintro e w3 ⟨v3, l3, rfl, hr3, hd3, hn3, hb3⟩
  replace ha := ha.below hb3
  replace hBV := hBV.below hb3
  replace hB := below_trans hB hb3
  clear hb3
  have HD3 := hide hd3
  have HN3 := hide hn3
  clear hd3 hn3 h2
  go_wp2_with fail
  refine (shift_any N (j : Int) la _ _ ha HA.out (by omega) (by omega)).mono ?_
  rintro e w4 ⟨v4, l4, rfl, hr4, hd4, hn4, hl4, hb4⟩
  replace ha := ha.below hb4
  replace hBV := hBV.below hb4
  replace hr3 := hr3.below hb4
  replace hB := below_trans hB hb4
  clear hb4
  have HD4 := hide hd4
  have HN4 := hide hn4
  clear hd4 hn4
  go_wp2_with fail
  refine (same_true l4 l3 _ _ _ hr4 hr3 (dig_unique (by decide) HD4.out HN4.out HD3.out HN3.out)).mono ?_
  rintro e w5 ⟨rfl, hb5⟩
  replace ha := ha.below hb5
  replace hBV := hBV.below hb5
  replace hB := below_trans hB hb5
  clear hb5
  clear hr3 hr4
  have hBV1 := hBV
  obtain ⟨lq2, ⟨qo2, cq2, heq, -, -, hqr2⟩, hdq2, hnq2, -⟩ := hBV1
  have hlq2 : lq2 = lq := dig_unique (by decide) hdq2 hnq2 HDQ.out HNQ.out
  subst hlq2
  simp only [Value.slice.injEq, true_and] at heq
  obtain ⟨rfl, rfl⟩ := heq
  rcases hqr2 with h | ⟨bq, oq, rfl, hbq, hqcell⟩
  · omega
  have hcell : w5.cell? ⟨bq, oq + j, none⟩ = some (.bool (N / 2 ^ j % 2 == 1)) := by
    have := hqcell j hjl
    rw [HDQ.out.2 j] at this
    exact this
  clear hqcell hdq2 hnq2
  have hbit : ∀ (w : World), Rd mk64 w (.slice ao la.length ca) la → Calls Try.prog 31 #[.slice ao la.length ca, .int .i64 (j : Int)] w fun e w' => e = .returned (.bool (N / 2 ^ j % 2 == 1)) ∧ w' = w := by
    intro w hw
    have := bit_any N (j : Int) la _ w hw HA.out (by omega) (by omega)
    rw [Int.toNat_natCast] at this
    exact this
  generalize (N / 2 ^ j % 2 == 1) = bb at *
  have HBIT := hide hbit
  clear hbit
  go_wp2_with fail
  refine (HBIT.out _ ha).mono ?_
  rintro e w6 ⟨rfl, hw⟩
  subst w6
  go_wp2_with fail
  refine (awake_any _).mono ?_
  rintro e w7 ⟨rfl, hb7⟩
  replace hB := below_trans hB hb7
  clear hb7
  go_wp2
  go_ret
  exact ⟨rfl, hB⟩

set_option maxHeartbeats 4000000 in
theorem limbShifts_B (N : Nat) (j : Nat) (la : List Nat) (va : Value) (w : World) (ha : Rd mk64 w va la) (hda : Dig 18446744073709551616 la N) (hla : la.length ≤ 30) (hj : Go.bitLen N ≤ j) (hj2 : j ≤ 65536) :
    Calls Try.prog 5 #[va, .int .i64 (j : Int)] w fun e w' => e = .returned (.bool true) ∧ Below w.heap.size w w' := by
  have ha' := ha
  obtain ⟨ao, ca, rfl, hca, hma, -⟩ := ha'
  unfold maxLen at hma
  have hB := Below.refl w.heap.size w
  have HA := hide hda
  clear hda
  have h1 : ¬ 30 < la.length := by omega
  have hbl : Go.bitLen N ≤ 64 * la.length := bitLen_small N la.length HA.out.1
  have HJ : Hid (N < 2 ^ j) := Nat.lt_of_lt_of_le (bitLen_spec N).1 (Nat.pow_le_pow_right (by decide) (by omega))
  go_enter Try.func5, Try.ntmps5
  go_wp2_with fail
  refine (bits_any la N _ _ ha HA.out (by omega)).mono ?_
  rintro e w1 ⟨vb, rfl, hBV, hb1⟩
  replace ha := ha.below hb1
  replace hB := below_trans hB hb1
  clear hb1
  have hBV0 := hBV
  obtain ⟨lq, ⟨qo, cq, rfl, hqc, hqm, hqr⟩, hdq, hnq, hlq⟩ := hBV0
  unfold maxLen at hqm
  have hbl2 := bitV_len hdq hnq
  have HDQ := hide hdq
  have HQR := hide hqr
  have HBL := hide hbl2
  have hlen : lq.length ≤ 1920 := by omega
  clear hdq hnq hqr
  have hjl : ¬ (j : Int) < (lq.length : Int) := by have := HBL.out; omega
  clear hbl2
  go_wp2_with fail
  refine (refShift_any N _ (j : Int) _ _ hBV (by omega) (by omega)).mono ?_
  rintro e w2 ⟨v2, rfl, h2, hb2⟩
  replace ha := ha.below hb2
  replace hBV := hBV.below hb2
  replace hB := below_trans hB hb2
  clear hb2
  go_wp2_with fail
  refine (limbs_any _ _ _ _ h2 (by omega)).mono ?_
  rintro e w3 ⟨v3, l3, rfl, hr3, hd3, hn3, hb3⟩
  replace ha := ha.below hb3
  replace hBV := hBV.below hb3
  replace hB := below_trans hB hb3
  clear hb3
  have HD3 := hide hd3
  have HN3 := hide hn3
  clear hd3 hn3 h2
  go_wp2_with fail
  refine (shift_any N (j : Int) la _ _ ha HA.out (by omega) (by omega)).mono ?_
  rintro e w4 ⟨v4, l4, rfl, hr4, hd4, hn4, hl4, hb4⟩
  replace ha := ha.below hb4
  replace hBV := hBV.below hb4
  replace hr3 := hr3.below hb4
  replace hB := below_trans hB hb4
  clear hb4
  have HD4 := hide hd4
  have HN4 := hide hn4
  clear hd4 hn4
  go_wp2_with fail
  refine (same_true l4 l3 _ _ _ hr4 hr3 (dig_unique (by decide) HD4.out HN4.out HD3.out HN3.out)).mono ?_
  rintro e w5 ⟨rfl, hb5⟩
  replace ha := ha.below hb5
  replace hBV := hBV.below hb5
  replace hB := below_trans hB hb5
  clear hb5
  clear hr3 hr4
  go_wp2_with fail
  refine (bit_any N (j : Int) la _ _ ha HA.out (by omega) (by omega)).mono ?_
  rintro e w6 ⟨rfl, hw⟩
  subst w6
  rw [Int.toNat_natCast]
  rw [show (N / 2 ^ j % 2 == 1) = false from by rw [Nat.div_eq_of_lt HJ.out]; rfl]
  go_wp2_with fail
  refine (awake_any _).mono ?_
  rintro e w7 ⟨rfl, hb7⟩
  replace hB := below_trans hB hb7
  clear hb7
  go_wp2
  go_ret
  exact ⟨rfl, hB⟩

set_option maxHeartbeats 4000000 in
theorem limbShifts_C (N : Nat) (n : Int) (la : List Nat) (va : Value) (w : World) (ha : Rd mk64 w va la) (hda : Dig 18446744073709551616 la N) (hla : la.length ≤ 30) (hn0 : n < 0) (hn1 : -65536 ≤ n) :
    Calls Try.prog 5 #[va, .int .i64 n] w fun e w' => e = .returned (.bool true) ∧ Below w.heap.size w w' := by
  have ha' := ha
  obtain ⟨ao, ca, rfl, hca, hma, -⟩ := ha'
  unfold maxLen at hma
  have hB := Below.refl w.heap.size w
  have HA := hide hda
  clear hda
  have h1 : ¬ 30 < la.length := by omega
  have hbl : Go.bitLen N ≤ 64 * la.length := bitLen_small N la.length HA.out.1
  have hn2 : n ≤ 65536 := by omega
  have hn3 : ¬ 0 ≤ n := by omega
  go_enter Try.func5, Try.ntmps5
  go_wp2_with fail
  refine (bits_any la N _ _ ha HA.out (by omega)).mono ?_
  rintro e w1 ⟨vb, rfl, hBV, hb1⟩
  replace ha := ha.below hb1
  replace hB := below_trans hB hb1
  clear hb1
  have hBV0 := hBV
  obtain ⟨lq, ⟨qo, cq, rfl, hqc, hqm, hqr⟩, hdq, hnq, hlq⟩ := hBV0
  unfold maxLen at hqm
  have hbl2 := bitV_len hdq hnq
  have HDQ := hide hdq
  have HQR := hide hqr
  have HBL := hide hbl2
  have hlen : lq.length ≤ 1920 := by omega
  clear hdq hnq hqr
  clear hbl2
  go_wp2_with fail
  refine (refShift_any N _ n _ _ hBV (by omega) (by omega)).mono ?_
  rintro e w2 ⟨v2, rfl, h2, hb2⟩
  replace ha := ha.below hb2
  replace hBV := hBV.below hb2
  replace hB := below_trans hB hb2
  clear hb2
  go_wp2_with fail
  refine (limbs_any _ _ _ _ h2 (by omega)).mono ?_
  rintro e w3 ⟨v3, l3, rfl, hr3, hd3, hn3, hb3⟩
  replace ha := ha.below hb3
  replace hBV := hBV.below hb3
  replace hB := below_trans hB hb3
  clear hb3
  have HD3 := hide hd3
  have HN3 := hide hn3
  clear hd3 hn3 h2
  go_wp2_with fail
  refine (shift_any N n la _ _ ha HA.out (by omega) (by omega)).mono ?_
  rintro e w4 ⟨v4, l4, rfl, hr4, hd4, hn4, hl4, hb4⟩
  replace ha := ha.below hb4
  replace hBV := hBV.below hb4
  replace hr3 := hr3.below hb4
  replace hB := below_trans hB hb4
  clear hb4
  have HD4 := hide hd4
  have HN4 := hide hn4
  clear hd4 hn4
  go_wp2_with fail
  refine (same_true l4 l3 _ _ _ hr4 hr3 (dig_unique (by decide) HD4.out HN4.out HD3.out HN3.out)).mono ?_
  rintro e w5 ⟨rfl, hb5⟩
  replace ha := ha.below hb5
  replace hBV := hBV.below hb5
  replace hB := below_trans hB hb5
  clear hb5
  clear hr3 hr4
  go_wp2_with fail
  refine (bit_neg n la _ _ ha (by omega)).mono ?_
  rintro e w6 ⟨rfl, hw⟩
  subst w6
  go_wp2_with fail
  refine (awake_any _).mono ?_
  rintro e w7 ⟨rfl, hb7⟩
  replace hB := below_trans hB hb7
  clear hb7
  go_wp2
  go_ret
  exact ⟨rfl, hB⟩

set_option maxHeartbeats 4000000 in
theorem limbShifts_D (N : Nat) (j : Nat) (la : List Nat) (va : Value) (w : World) (ha : Rd mk64 w va la) (hda : Dig 18446744073709551616 la N) (hla : la.length ≤ 30) (hj : 65536 < j) (hj2 : j ≤ 9223372036854775807) :
    Calls Try.prog 5 #[va, .int .i64 (j : Int)] w fun e w' => e = .returned (.bool true) ∧ Below w.heap.size w w' := by
  have ha' := ha
  obtain ⟨ao, ca, rfl, hca, hma, -⟩ := ha'
  unfold maxLen at hma
  have hB := Below.refl w.heap.size w
  have HA := hide hda
  clear hda
  have h1 : ¬ 30 < la.length := by omega
  have hbl : Go.bitLen N ≤ 64 * la.length := bitLen_small N la.length HA.out.1
  have hj3 : Go.bitLen N ≤ j := by omega
  have hd1 : decide ((j : Int) ≤ 65536) = false := by simp; omega
  have HJ : Hid (N < 2 ^ j) := Nat.lt_of_lt_of_le (bitLen_spec N).1 (Nat.pow_le_pow_right (by decide) (by omega))
  go_enter Try.func5, Try.ntmps5
  go_wp2_with fail
  refine (bits_any la N _ _ ha HA.out (by omega)).mono ?_
  rintro e w1 ⟨vb, rfl, hBV, hb1⟩
  replace ha := ha.below hb1
  replace hB := below_trans hB hb1
  clear hb1
  have hBV0 := hBV
  obtain ⟨lq, ⟨qo, cq, rfl, hqc, hqm, hqr⟩, hdq, hnq, hlq⟩ := hBV0
  unfold maxLen at hqm
  have hbl2 := bitV_len hdq hnq
  have HDQ := hide hdq
  have HQR := hide hqr
  have HBL := hide hbl2
  have hlen : lq.length ≤ 1920 := by omega
  clear hdq hnq hqr
  have hjl : ¬ (j : Int) < (lq.length : Int) := by have := HBL.out; omega
  clear hbl2
  go_wp2_with fail
  refine (shift_none (j : Int) la _ _ ha (by omega)).mono ?_
  rintro e w4 ⟨rfl, hb4⟩
  replace ha := ha.below hb4
  replace hBV := hBV.below hb4
  replace hB := below_trans hB hb4
  clear hb4
  go_wp2_with fail
  refine (same_true [] [] _ _ _ (Rd.nil mk64 _) (Rd.nil mk64 _) rfl).mono ?_
  rintro e w5 ⟨rfl, hb5⟩
  replace ha := ha.below hb5
  replace hBV := hBV.below hb5
  replace hB := below_trans hB hb5
  clear hb5
  go_wp2_with fail
  refine (bit_any N (j : Int) la _ _ ha HA.out (by omega) (by omega)).mono ?_
  rintro e w6 ⟨rfl, hw⟩
  subst w6
  rw [Int.toNat_natCast]
  rw [show (N / 2 ^ j % 2 == 1) = false from by rw [Nat.div_eq_of_lt HJ.out]; rfl]
  go_wp2_with fail
  refine (awake_any _).mono ?_
  rintro e w7 ⟨rfl, hb7⟩
  replace hB := below_trans hB hb7
  clear hb7
  go_wp2
  go_ret
  exact ⟨rfl, hB⟩

set_option maxHeartbeats 4000000 in
theorem limbShifts_E (N : Nat) (n : Int) (la : List Nat) (va : Value) (w : World) (ha : Rd mk64 w va la) (hda : Dig 18446744073709551616 la N) (hla : la.length ≤ 30) (hn0 : n < -65536) (hn1 : -9223372036854775808 ≤ n) :
    Calls Try.prog 5 #[va, .int .i64 n] w fun e w' => e = .returned (.bool true) ∧ Below w.heap.size w w' := by
  have ha' := ha
  obtain ⟨ao, ca, rfl, hca, hma, -⟩ := ha'
  unfold maxLen at hma
  have hB := Below.refl w.heap.size w
  have HA := hide hda
  clear hda
  have h1 : ¬ 30 < la.length := by omega
  have hbl : Go.bitLen N ≤ 64 * la.length := bitLen_small N la.length HA.out.1
  have hn3 : ¬ 0 ≤ n := by omega
  have hd1 : decide (-65536 ≤ n) = false := by simp; omega
  go_enter Try.func5, Try.ntmps5
  go_wp2_with fail
  refine (bits_any la N _ _ ha HA.out (by omega)).mono ?_
  rintro e w1 ⟨vb, rfl, hBV, hb1⟩
  replace ha := ha.below hb1
  replace hB := below_trans hB hb1
  clear hb1
  have hBV0 := hBV
  obtain ⟨lq, ⟨qo, cq, rfl, hqc, hqm, hqr⟩, hdq, hnq, hlq⟩ := hBV0
  unfold maxLen at hqm
  have hbl2 := bitV_len hdq hnq
  have HDQ := hide hdq
  have HQR := hide hqr
  have HBL := hide hbl2
  have hlen : lq.length ≤ 1920 := by omega
  clear hdq hnq hqr
  clear hbl2
  go_wp2_with fail
  refine (shift_none n la _ _ ha (by omega)).mono ?_
  rintro e w4 ⟨rfl, hb4⟩
  replace ha := ha.below hb4
  replace hBV := hBV.below hb4
  replace hB := below_trans hB hb4
  clear hb4
  go_wp2_with fail
  refine (same_true [] [] _ _ _ (Rd.nil mk64 _) (Rd.nil mk64 _) rfl).mono ?_
  rintro e w5 ⟨rfl, hb5⟩
  replace ha := ha.below hb5
  replace hBV := hBV.below hb5
  replace hB := below_trans hB hb5
  clear hb5
  go_wp2_with fail
  refine (bit_neg n la _ _ ha (by omega)).mono ?_
  rintro e w6 ⟨rfl, hw⟩
  subst w6
  go_wp2_with fail
  refine (awake_any _).mono ?_
  rintro e w7 ⟨rfl, hb7⟩
  replace hB := below_trans hB hb7
  clear hb7
  go_wp2
  go_ret
  exact ⟨rfl, hB⟩

theorem limbShifts_walk (N : Nat) (n : Int) (hn0 : -9223372036854775808 ≤ n) (hn1 : n ≤ 9223372036854775807) (la : List Nat) (va : Value) (w : World) (ha : Rd mk64 w va la) (hda : Dig 18446744073709551616 la N) :
    Calls Try.prog 5 #[va, .int .i64 n] w fun e w' => e = .returned (.bool true) ∧ Below w.heap.size w w' := by
  by_cases h : la.length ≤ 30
  · by_cases h0 : 0 ≤ n
    · obtain ⟨j, rfl⟩ := Int.eq_ofNat_of_zero_le h0
      by_cases h1 : j ≤ 65536
      · by_cases h2 : j < Go.bitLen N
        · exact limbShifts_A N j la va w ha hda h h2 h1
        · exact limbShifts_B N j la va w ha hda h (by omega) h1
      · exact limbShifts_D N j la va w ha hda h (by omega) (by omega)
    · by_cases h1 : -65536 ≤ n
      · exact limbShifts_C N n la va w ha hda h (by omega) h1
      · exact limbShifts_E N n la va w ha hda h (by omega) hn0
  · exact limbShifts_big n la va w ha (by omega)

end Go.Proofs.Ytpeobjddpdffiaa
