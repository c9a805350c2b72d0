/- For all limbs a, b, c the law radicandlaw01.LimbAdds returns true: limb.Add, limb.Sub and limb.Mul are the sum, the difference and the product of whole numbers, with what is carried. No condition. -/
import Derived.Test.YtpeobjddpdffiaaLawB
set_option linter.unusedVariables false
namespace Go.Proofs.Ytpeobjddpdffiaa
open Go.RowKit Plain

set_option maxHeartbeats 2000000 in
theorem limbAdds_walk (x y z : Nat) (hx : x < 18446744073709551616) (hy : y < 18446744073709551616) (w : World) :
    Calls Try.prog 3 #[.int .u64 (x : Nat), .int .u64 (y : Nat), .int .u64 (z : Nat)] w fun e w' => e = .returned (.bool true) ∧ Below w.heap.size w w' := by
  have hB := Below.refl w.heap.size w
  have ho := oneN_le z
  go_enter Try.func3, Try.ntmps3
  go_wp2_with fail
  refine (small_any x hx _).mono ?_
  rintro e w1 ⟨vx, rfl, hX, hb1⟩
  replace hB := below_trans hB hb1
  clear hb1
  go_wp2_with fail
  refine (small_any y hy _).mono ?_
  rintro e w2 ⟨vy, rfl, hY, hb2⟩
  replace hX := hX.below hb2
  replace hB := below_trans hB hb2
  clear hb2
  go_wp2_with fail
  refine (flag_nat z _).mono ?_
  rintro e w3 ⟨rfl, hw⟩
  subst w3
  go_wp2_with fail
  refine (small_any (oneN z) (by omega) _).mono ?_
  rintro e w4 ⟨vz, rfl, hZ, hb4⟩
  replace hX := hX.below hb4
  replace hY := hY.below hb4
  replace hB := below_trans hB hb4
  clear hb4
  go_wp2_with fail
  refine (add_nat x y z _).mono ?_
  rintro e w5 ⟨s, c, rfl, hs, hsum, hw⟩
  subst w5
  have HS := hide hsum
  have hc : c ≤ 1 := by omega
  clear hsum
  go_wp2_with fail
  refine (sub_nat x y z hx hy _).mono ?_
  rintro e w6 ⟨d, b, rfl, hd, hb, hdif, hw⟩
  subst w6
  have HD := hide hdif
  clear hdif
  go_wp2_with fail
  refine (mul_nat x y hx hy _).mono ?_
  rintro e w7 ⟨hh, ll, rfl, hhh, hll, hmul, hw⟩
  subst w7
  have HM := hide hmul
  clear hmul
  go_wp2_with fail
  refine (refAdd_any _ _ _ _ _ _ _ hX hY (by decide) (by decide)).mono ?_
  rintro e w8 ⟨v8, rfl, h8, hb8⟩
  replace hX := hX.below hb8
  replace hY := hY.below hb8
  replace hZ := hZ.below hb8
  replace hB := below_trans hB hb8
  clear hb8
  go_wp2_with fail
  refine (refAdd_any _ _ _ _ _ _ _ h8 hZ (by decide) (by decide)).mono ?_
  rintro e w9 ⟨v9, rfl, h9, hb9⟩
  replace hX := hX.below hb9
  replace hY := hY.below hb9
  replace hZ := hZ.below hb9
  replace hB := below_trans hB hb9
  clear hb9
  clear h8
  go_wp2_with fail
  refine (of_two s c hs (by omega) _).mono ?_
  rintro e w10 ⟨v10, rfl, h10, hb10⟩
  replace hX := hX.below hb10
  replace hY := hY.below hb10
  replace hZ := hZ.below hb10
  replace h9 := h9.below hb10
  replace hB := below_trans hB hb10
  clear hb10
  go_wp2_with fail
  refine (cmp_any _ _ _ _ _ _ _ h9 h10).mono ?_
  rintro e w11 ⟨rfl, hw⟩
  subst w11
  rw [cmpN_self HS.out.symm]
  clear h9 h10
  have q1 : ¬ 1 < c := by omega
  have q2 : ¬ 1 < b := by omega
  go_wp2_with fail
  refine (small_any d hd _).mono ?_
  rintro e w12 ⟨v12, rfl, h12, hb12⟩
  replace hX := hX.below hb12
  replace hY := hY.below hb12
  replace hZ := hZ.below hb12
  replace hB := below_trans hB hb12
  clear hb12
  go_wp2_with fail
  refine (refAdd_any _ _ _ _ _ _ _ hY hZ (by decide) (by decide)).mono ?_
  rintro e w13 ⟨v13, rfl, h13, hb13⟩
  replace hX := hX.below hb13
  replace hY := hY.below hb13
  replace hZ := hZ.below hb13
  replace h12 := h12.below hb13
  replace hB := below_trans hB hb13
  clear hb13
  go_wp2_with fail
  refine (refAdd_any _ _ _ _ _ _ _ h12 h13 (by decide) (by decide)).mono ?_
  rintro e w14 ⟨v14, rfl, h14, hb14⟩
  replace hX := hX.below hb14
  replace hY := hY.below hb14
  replace hB := below_trans hB hb14
  clear hb14
  clear h12 h13 hZ
  go_wp2_with fail
  refine (of_two x b hx (by omega) _).mono ?_
  rintro e w15 ⟨v15, rfl, h15, hb15⟩
  replace hX := hX.below hb15
  replace hY := hY.below hb15
  replace h14 := h14.below hb15
  replace hB := below_trans hB hb15
  clear hb15
  go_wp2_with fail
  refine (cmp_any _ _ _ _ _ _ _ h14 h15).mono ?_
  rintro e w16 ⟨rfl, hw⟩
  subst w16
  rw [cmpN_self HD.out]
  clear h14 h15
  go_wp2_with fail
  refine (refMul_any _ _ _ _ _ _ _ hX hY (by decide) (by decide)).mono ?_
  rintro e w17 ⟨v17, rfl, h17, hb17⟩
  replace hB := below_trans hB hb17
  clear hb17
  clear hX hY
  go_wp2_with fail
  refine (of_two ll hh hll hhh _).mono ?_
  rintro e w18 ⟨v18, rfl, h18, hb18⟩
  replace h17 := h17.below hb18
  replace hB := below_trans hB hb18
  clear hb18
  go_wp2_with fail
  refine (cmp_any _ _ _ _ _ _ _ h17 h18).mono ?_
  rintro e w19 ⟨rfl, hw⟩
  subst w19
  rw [cmpN_self HM.out.symm]
  clear h17 h18
  go_wp2_with fail
  refine (awake_any _).mono ?_
  rintro e w20 ⟨rfl, hb20⟩
  replace hB := below_trans hB hb20
  clear hb20
  go_wp2
  go_ret
  exact ⟨rfl, hB⟩

end Go.Proofs.Ytpeobjddpdffiaa
