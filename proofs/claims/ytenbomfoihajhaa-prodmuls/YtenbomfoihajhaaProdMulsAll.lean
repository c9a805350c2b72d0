/- For all wides and all limbs the law radicandlaw03.ProdMuls returns true, and its arguments read afterwards as they read before. No condition. -/
import Derived.Test.YtenbomfoihajhaaBaseN
import Derived.Test.YtenbomfoihajhaaRows
import Derived.WalkKit
import Derived.ProofKit
import Derived.OpenShut
import Derived.ShutString
import Derived.ChangeOld
import Derived.Below
/- For all wides and all limbs the law radicandlaw03.ProdMuls returns true. -/
set_option linter.unusedVariables false
set_option linter.unusedSimpArgs false
set_option maxRecDepth 8000
namespace Go.Proofs.Ytenbomfoihajhaa
open Go.RowKit Plain

set_option maxHeartbeats 4000000 in
theorem prodMuls_first (fa fb fp fs fn : Nat → Nat) (a n ab aa : Nat) (o1 o2 o3 : Bool) (w : World)
    (HMAB : Hid (∀ w, Calls Try.prog 43 #[.agg #[.int .u64 (fa 0 : Nat), .int .u64 (fa 1 : Nat), .int .u64 (fa 2 : Nat), .int .u64 (fa 3 : Nat), .int .u64 (fa 4 : Nat), .int .u64 (fa 5 : Nat), .int .u64 (fa 6 : Nat), .int .u64 (fa 7 : Nat)], .agg #[.int .u64 (fb 0 : Nat), .int .u64 (fb 1 : Nat), .int .u64 (fb 2 : Nat), .int .u64 (fb 3 : Nat), .int .u64 (fb 4 : Nat), .int .u64 (fb 5 : Nat), .int .u64 (fb 6 : Nat), .int .u64 (fb 7 : Nat)]] w fun e w' => e = .returned (.tuple #[.agg #[.int .u64 (fp 0 : Nat), .int .u64 (fp 1 : Nat), .int .u64 (fp 2 : Nat), .int .u64 (fp 3 : Nat), .int .u64 (fp 4 : Nat), .int .u64 (fp 5 : Nat), .int .u64 (fp 6 : Nat), .int .u64 (fp 7 : Nat)], .bool (!o1)]) ∧ Below w.heap.size w w'))
    (HRAB : Hid (∀ w, Calls Try.prog 44 #[.agg #[.int .u64 (fa 0 : Nat), .int .u64 (fa 1 : Nat), .int .u64 (fa 2 : Nat), .int .u64 (fa 3 : Nat), .int .u64 (fa 4 : Nat), .int .u64 (fa 5 : Nat), .int .u64 (fa 6 : Nat), .int .u64 (fa 7 : Nat)], .agg #[.int .u64 (fb 0 : Nat), .int .u64 (fb 1 : Nat), .int .u64 (fb 2 : Nat), .int .u64 (fb 3 : Nat), .int .u64 (fb 4 : Nat), .int .u64 (fb 5 : Nat), .int .u64 (fb 6 : Nat), .int .u64 (fb 7 : Nat)]] w fun e w' => ∃ v, e = .returned v ∧ BigV w' v ab 80 ∧ Below w.heap.size w w'))
    (HWAB : Hid (∀ v w, BigV w v ab 80 → Calls Try.prog 15 #[v] w fun e w' => e = .returned (.tuple #[.agg #[.int .u64 (fp 0 : Nat), .int .u64 (fp 1 : Nat), .int .u64 (fp 2 : Nat), .int .u64 (fp 3 : Nat), .int .u64 (fp 4 : Nat), .int .u64 (fp 5 : Nat), .int .u64 (fp 6 : Nat), .int .u64 (fp 7 : Nat)], .bool o1]) ∧ Below w.heap.size w w'))
    (HSQ : Hid (∀ w, Calls Try.prog 45 #[.agg #[.int .u64 (fa 0 : Nat), .int .u64 (fa 1 : Nat), .int .u64 (fa 2 : Nat), .int .u64 (fa 3 : Nat), .int .u64 (fa 4 : Nat), .int .u64 (fa 5 : Nat), .int .u64 (fa 6 : Nat), .int .u64 (fa 7 : Nat)]] w fun e w' => e = .returned (.tuple #[.agg #[.int .u64 (fs 0 : Nat), .int .u64 (fs 1 : Nat), .int .u64 (fs 2 : Nat), .int .u64 (fs 3 : Nat), .int .u64 (fs 4 : Nat), .int .u64 (fs 5 : Nat), .int .u64 (fs 6 : Nat), .int .u64 (fs 7 : Nat)], .bool (!o2)]) ∧ Below w.heap.size w w'))
    (HRAA : Hid (∀ w, Calls Try.prog 44 #[.agg #[.int .u64 (fa 0 : Nat), .int .u64 (fa 1 : Nat), .int .u64 (fa 2 : Nat), .int .u64 (fa 3 : Nat), .int .u64 (fa 4 : Nat), .int .u64 (fa 5 : Nat), .int .u64 (fa 6 : Nat), .int .u64 (fa 7 : Nat)], .agg #[.int .u64 (fa 0 : Nat), .int .u64 (fa 1 : Nat), .int .u64 (fa 2 : Nat), .int .u64 (fa 3 : Nat), .int .u64 (fa 4 : Nat), .int .u64 (fa 5 : Nat), .int .u64 (fa 6 : Nat), .int .u64 (fa 7 : Nat)]] w fun e w' => ∃ v, e = .returned v ∧ BigV w' v aa 80 ∧ Below w.heap.size w w'))
    (HWAA : Hid (∀ v w, BigV w v aa 80 → Calls Try.prog 15 #[v] w fun e w' => e = .returned (.tuple #[.agg #[.int .u64 (fs 0 : Nat), .int .u64 (fs 1 : Nat), .int .u64 (fs 2 : Nat), .int .u64 (fs 3 : Nat), .int .u64 (fs 4 : Nat), .int .u64 (fs 5 : Nat), .int .u64 (fs 6 : Nat), .int .u64 (fs 7 : Nat)], .bool o2]) ∧ Below w.heap.size w w'))
    (HSM : Hid (∀ w, Calls Try.prog 46 #[.agg #[.int .u64 (fa 0 : Nat), .int .u64 (fa 1 : Nat), .int .u64 (fa 2 : Nat), .int .u64 (fa 3 : Nat), .int .u64 (fa 4 : Nat), .int .u64 (fa 5 : Nat), .int .u64 (fa 6 : Nat), .int .u64 (fa 7 : Nat)], .int .u64 (n : Nat)] w fun e w' => e = .returned (.tuple #[.agg #[.int .u64 (fn 0 : Nat), .int .u64 (fn 1 : Nat), .int .u64 (fn 2 : Nat), .int .u64 (fn 3 : Nat), .int .u64 (fn 4 : Nat), .int .u64 (fn 5 : Nat), .int .u64 (fn 6 : Nat), .int .u64 (fn 7 : Nat)], .bool (!o3)]) ∧ Below w.heap.size w w'))
    (HBA : Hid (∀ w, Calls Try.prog 17 #[.agg #[.int .u64 (fa 0 : Nat), .int .u64 (fa 1 : Nat), .int .u64 (fa 2 : Nat), .int .u64 (fa 3 : Nat), .int .u64 (fa 4 : Nat), .int .u64 (fa 5 : Nat), .int .u64 (fa 6 : Nat), .int .u64 (fa 7 : Nat)]] w fun e w' => ∃ v, e = .returned v ∧ BigV w' v a 40 ∧ Below w.heap.size w w'))
    (HSMA : Hid (∀ w, Calls Try.prog 28 #[.int .u64 (n : Nat)] w fun e w' => ∃ v, e = .returned v ∧ BigV w' v n 2 ∧ Below w.heap.size w w'))
    (HWAN : Hid (∀ v w, BigV w v (a * n) 42 → Calls Try.prog 15 #[v] w fun e w' => e = .returned (.tuple #[.agg #[.int .u64 (fn 0 : Nat), .int .u64 (fn 1 : Nat), .int .u64 (fn 2 : Nat), .int .u64 (fn 3 : Nat), .int .u64 (fn 4 : Nat), .int .u64 (fn 5 : Nat), .int .u64 (fn 6 : Nat), .int .u64 (fn 7 : Nat)], .bool o3]) ∧ Below w.heap.size w w'))
    (hpp : ∀ w, (Op.equalIn 10000 24 (.agg #[.int .u64 (fp 0 : Nat), .int .u64 (fp 1 : Nat), .int .u64 (fp 2 : Nat), .int .u64 (fp 3 : Nat), .int .u64 (fp 4 : Nat), .int .u64 (fp 5 : Nat), .int .u64 (fp 6 : Nat), .int .u64 (fp 7 : Nat)]) (.agg #[.int .u64 (fp 0 : Nat), .int .u64 (fp 1 : Nat), .int .u64 (fp 2 : Nat), .int .u64 (fp 3 : Nat), .int .u64 (fp 4 : Nat), .int .u64 (fp 5 : Nat), .int .u64 (fp 6 : Nat), .int .u64 (fp 7 : Nat)])).run Try.prog w = .ok true w)
    (hss : ∀ w, (Op.equalIn 10000 24 (.agg #[.int .u64 (fs 0 : Nat), .int .u64 (fs 1 : Nat), .int .u64 (fs 2 : Nat), .int .u64 (fs 3 : Nat), .int .u64 (fs 4 : Nat), .int .u64 (fs 5 : Nat), .int .u64 (fs 6 : Nat), .int .u64 (fs 7 : Nat)]) (.agg #[.int .u64 (fs 0 : Nat), .int .u64 (fs 1 : Nat), .int .u64 (fs 2 : Nat), .int .u64 (fs 3 : Nat), .int .u64 (fs 4 : Nat), .int .u64 (fs 5 : Nat), .int .u64 (fs 6 : Nat), .int .u64 (fs 7 : Nat)])).run Try.prog w = .ok true w)
    (hnn : ∀ w, (Op.equalIn 10000 24 (.agg #[.int .u64 (fn 0 : Nat), .int .u64 (fn 1 : Nat), .int .u64 (fn 2 : Nat), .int .u64 (fn 3 : Nat), .int .u64 (fn 4 : Nat), .int .u64 (fn 5 : Nat), .int .u64 (fn 6 : Nat), .int .u64 (fn 7 : Nat)]) (.agg #[.int .u64 (fn 0 : Nat), .int .u64 (fn 1 : Nat), .int .u64 (fn 2 : Nat), .int .u64 (fn 3 : Nat), .int .u64 (fn 4 : Nat), .int .u64 (fn 5 : Nat), .int .u64 (fn 6 : Nat), .int .u64 (fn 7 : Nat)])).run Try.prog w = .ok true w) :
    Calls Try.prog 6 #[.agg #[.int .u64 (fa 0 : Nat), .int .u64 (fa 1 : Nat), .int .u64 (fa 2 : Nat), .int .u64 (fa 3 : Nat), .int .u64 (fa 4 : Nat), .int .u64 (fa 5 : Nat), .int .u64 (fa 6 : Nat), .int .u64 (fa 7 : Nat)], .agg #[.int .u64 (fb 0 : Nat), .int .u64 (fb 1 : Nat), .int .u64 (fb 2 : Nat), .int .u64 (fb 3 : Nat), .int .u64 (fb 4 : Nat), .int .u64 (fb 5 : Nat), .int .u64 (fb 6 : Nat), .int .u64 (fb 7 : Nat)], .int .u64 (n : Nat)] w fun e w' => e = .returned (.bool true) ∧ Below w.heap.size w w' := by
  have HST := hide (TwoSt.start w fa fb)
  go_enter Try.func6, Try.ntmps6
  go_upto_region 1 with fail
  refine wp_gen (fun W => TwoSt w fa fb W) HST.out ?_
  rintro W0 h0
  clear HST
  have HA := hide h0.la
  have HB := hide h0.lb
  have HBL := hide h0.bel
  clear h0
  have hcHA := HA.out.1
  have hcHB := HB.out.1
  go_wp2_with fail
  refine (HMAB.out _).mono ?_
  rintro e w1 ⟨rfl, hb1⟩
  replace HA := hide (HA.out.below hb1)
  replace HB := hide (HB.out.below hb1)
  replace HBL := hide (below_trans HBL.out hb1)
  clear hcHA hcHB
  clear hb1
  go_upto_region 2 with fail
  refine wp_gen (fun W => LiesF W (w.heap.size) (fa) ∧ LiesF W (w.heap.size + 1) (fb) ∧ Below w.heap.size w W ∧ LiesF W w1.heap.size (fp)) ⟨HA.out.below (below_allocs _ _), HB.out.below (below_allocs _ _), below_trans HBL.out (below_allocs _ _), liesF_new _ _ _⟩ ?_
  rintro W1 ⟨gHA, gHB, gHBL, gH7⟩
  generalize w1.heap.size = p7 at *
  replace HA := hide gHA
  replace HB := hide gHB
  replace HBL := hide gHBL
  have H7 := hide gH7
  clear gHA gHB gHBL gH7
  have hcHA := HA.out.1
  have hcHB := HB.out.1
  go_wp2_with fail
  refine (HRAB.out _).mono ?_
  rintro e w2 ⟨v2, rfl, hv2, hb2⟩
  replace HA := hide (HA.out.below hb2)
  replace HB := hide (HB.out.below hb2)
  replace HBL := hide (below_trans HBL.out hb2)
  replace H7 := hide (H7.out.below hb2)
  have HV1 := hide hv2
  clear hv2
  clear hcHA hcHB
  clear hb2
  go_wp2_with fail
  refine (HWAB.out _ _ HV1.out).mono ?_
  rintro e w3 ⟨rfl, hb3⟩
  clear HV1
  replace HA := hide (HA.out.below hb3)
  replace HB := hide (HB.out.below hb3)
  replace HBL := hide (below_trans HBL.out hb3)
  replace H7 := hide (H7.out.below hb3)
  clear hb3
  go_upto_region 3 with fail
  refine wp_gen (fun W => LiesF W (w.heap.size) (fa) ∧ LiesF W (w.heap.size + 1) (fb) ∧ Below w.heap.size w W ∧ LiesF W (p7) (fp) ∧ LiesF W w3.heap.size (fp)) ⟨HA.out.below (below_allocs _ _), HB.out.below (below_allocs _ _), below_trans HBL.out (below_allocs _ _), H7.out.below (below_allocs _ _), liesF_new _ _ _⟩ ?_
  rintro W3 ⟨gHA, gHB, gHBL, gH7, gH9⟩
  generalize w3.heap.size = p9 at *
  replace HA := hide gHA
  replace HB := hide gHB
  replace HBL := hide gHBL
  replace H7 := hide gH7
  have H9 := hide gH9
  clear gHA gHB gHBL gH7 gH9
  have hcHA := HA.out.1
  go_wp2_with fail
  refine (HSQ.out _).mono ?_
  rintro e w4 ⟨rfl, hb4⟩
  replace HA := hide (HA.out.below hb4)
  replace HB := hide (HB.out.below hb4)
  replace HBL := hide (below_trans HBL.out hb4)
  replace H7 := hide (H7.out.below hb4)
  replace H9 := hide (H9.out.below hb4)
  clear hcHA
  clear hb4
  go_upto_region 4 with fail
  refine wp_gen (fun W => LiesF W (w.heap.size) (fa) ∧ LiesF W (w.heap.size + 1) (fb) ∧ Below w.heap.size w W ∧ LiesF W (p7) (fp) ∧ LiesF W (p9) (fp) ∧ LiesF W w4.heap.size (fs)) ⟨HA.out.below (below_allocs _ _), HB.out.below (below_allocs _ _), below_trans HBL.out (below_allocs _ _), H7.out.below (below_allocs _ _), H9.out.below (below_allocs _ _), liesF_new _ _ _⟩ ?_
  rintro W4 ⟨gHA, gHB, gHBL, gH7, gH9, gH11⟩
  generalize w4.heap.size = p11 at *
  replace HA := hide gHA
  replace HB := hide gHB
  replace HBL := hide gHBL
  replace H7 := hide gH7
  replace H9 := hide gH9
  have H11 := hide gH11
  clear gHA gHB gHBL gH7 gH9 gH11
  have hcHA := HA.out.1
  go_wp2_with fail
  refine (HRAA.out _).mono ?_
  rintro e w5 ⟨v5, rfl, hv5, hb5⟩
  replace HA := hide (HA.out.below hb5)
  replace HB := hide (HB.out.below hb5)
  replace HBL := hide (below_trans HBL.out hb5)
  replace H7 := hide (H7.out.below hb5)
  replace H9 := hide (H9.out.below hb5)
  replace H11 := hide (H11.out.below hb5)
  have HV2 := hide hv5
  clear hv5
  clear hcHA
  clear hb5
  go_wp2_with fail
  refine (HWAA.out _ _ HV2.out).mono ?_
  rintro e w6 ⟨rfl, hb6⟩
  clear HV2
  replace HA := hide (HA.out.below hb6)
  replace HB := hide (HB.out.below hb6)
  replace HBL := hide (below_trans HBL.out hb6)
  replace H7 := hide (H7.out.below hb6)
  replace H9 := hide (H9.out.below hb6)
  replace H11 := hide (H11.out.below hb6)
  clear hb6
  go_upto_region 5 with fail
  refine wp_gen (fun W => LiesF W (w.heap.size) (fa) ∧ LiesF W (w.heap.size + 1) (fb) ∧ Below w.heap.size w W ∧ LiesF W (p7) (fp) ∧ LiesF W (p9) (fp) ∧ LiesF W (p11) (fs) ∧ LiesF W w6.heap.size (fs)) ⟨HA.out.below (below_allocs _ _), HB.out.below (below_allocs _ _), below_trans HBL.out (below_allocs _ _), H7.out.below (below_allocs _ _), H9.out.below (below_allocs _ _), H11.out.below (below_allocs _ _), liesF_new _ _ _⟩ ?_
  rintro W6 ⟨gHA, gHB, gHBL, gH7, gH9, gH11, gH13⟩
  generalize w6.heap.size = p13 at *
  replace HA := hide gHA
  replace HB := hide gHB
  replace HBL := hide gHBL
  replace H7 := hide gH7
  replace H9 := hide gH9
  replace H11 := hide gH11
  have H13 := hide gH13
  clear gHA gHB gHBL gH7 gH9 gH11 gH13
  have hcHA := HA.out.1
  go_wp2_with fail
  refine (HSM.out _).mono ?_
  rintro e w7 ⟨rfl, hb7⟩
  replace HA := hide (HA.out.below hb7)
  replace HB := hide (HB.out.below hb7)
  replace HBL := hide (below_trans HBL.out hb7)
  replace H7 := hide (H7.out.below hb7)
  replace H9 := hide (H9.out.below hb7)
  replace H11 := hide (H11.out.below hb7)
  replace H13 := hide (H13.out.below hb7)
  clear hcHA
  clear hb7
  go_upto_region 6 with fail
  refine wp_gen (fun W => LiesF W (w.heap.size) (fa) ∧ LiesF W (w.heap.size + 1) (fb) ∧ Below w.heap.size w W ∧ LiesF W (p7) (fp) ∧ LiesF W (p9) (fp) ∧ LiesF W (p11) (fs) ∧ LiesF W (p13) (fs) ∧ LiesF W w7.heap.size (fn)) ⟨HA.out.below (below_allocs _ _), HB.out.below (below_allocs _ _), below_trans HBL.out (below_allocs _ _), H7.out.below (below_allocs _ _), H9.out.below (below_allocs _ _), H11.out.below (below_allocs _ _), H13.out.below (below_allocs _ _), liesF_new _ _ _⟩ ?_
  rintro W7 ⟨gHA, gHB, gHBL, gH7, gH9, gH11, gH13, gH15⟩
  generalize w7.heap.size = p15 at *
  replace HA := hide gHA
  replace HB := hide gHB
  replace HBL := hide gHBL
  replace H7 := hide gH7
  replace H9 := hide gH9
  replace H11 := hide gH11
  replace H13 := hide gH13
  have H15 := hide gH15
  clear gHA gHB gHBL gH7 gH9 gH11 gH13 gH15
  have hcHA := HA.out.1
  go_wp2_with fail
  refine (HBA.out _).mono ?_
  rintro e w8 ⟨v8, rfl, hv8, hb8⟩
  replace HA := hide (HA.out.below hb8)
  replace HB := hide (HB.out.below hb8)
  replace HBL := hide (below_trans HBL.out hb8)
  replace H7 := hide (H7.out.below hb8)
  replace H9 := hide (H9.out.below hb8)
  replace H11 := hide (H11.out.below hb8)
  replace H13 := hide (H13.out.below hb8)
  replace H15 := hide (H15.out.below hb8)
  have HV3 := hide hv8
  clear hv8
  clear hcHA
  clear hb8
  go_wp2_with fail
  refine (HSMA.out _).mono ?_
  rintro e w9 ⟨v9, rfl, hv9, hb9⟩
  replace HA := hide (HA.out.below hb9)
  replace HB := hide (HB.out.below hb9)
  replace HBL := hide (below_trans HBL.out hb9)
  replace H7 := hide (H7.out.below hb9)
  replace H9 := hide (H9.out.below hb9)
  replace H11 := hide (H11.out.below hb9)
  replace H13 := hide (H13.out.below hb9)
  replace H15 := hide (H15.out.below hb9)
  replace HV3 := hide (HV3.out.below hb9)
  have HV4 := hide hv9
  clear hv9
  clear hb9
  go_wp2_with fail
  refine (refMul_any a n 40 2 _ _ _ HV3.out HV4.out (by omega) (by omega)).mono ?_
  rintro e w10 ⟨v10, rfl, hv10, hb10⟩
  clear HV3
  clear HV4
  replace HA := hide (HA.out.below hb10)
  replace HB := hide (HB.out.below hb10)
  replace HBL := hide (below_trans HBL.out hb10)
  replace H7 := hide (H7.out.below hb10)
  replace H9 := hide (H9.out.below hb10)
  replace H11 := hide (H11.out.below hb10)
  replace H13 := hide (H13.out.below hb10)
  replace H15 := hide (H15.out.below hb10)
  have HV5 := hide hv10
  clear hv10
  clear hb10
  go_wp2_with fail
  refine (HWAN.out _ _ HV5.out).mono ?_
  rintro e w11 ⟨rfl, hb11⟩
  clear HV5
  replace HA := hide (HA.out.below hb11)
  replace HB := hide (HB.out.below hb11)
  replace HBL := hide (below_trans HBL.out hb11)
  replace H7 := hide (H7.out.below hb11)
  replace H9 := hide (H9.out.below hb11)
  replace H11 := hide (H11.out.below hb11)
  replace H13 := hide (H13.out.below hb11)
  replace H15 := hide (H15.out.below hb11)
  clear hb11
  go_upto_region 7 with fail
  refine wp_gen (fun W => LiesF W (w.heap.size) (fa) ∧ LiesF W (w.heap.size + 1) (fb) ∧ Below w.heap.size w W ∧ LiesF W (p7) (fp) ∧ LiesF W (p9) (fp) ∧ LiesF W (p11) (fs) ∧ LiesF W (p13) (fs) ∧ LiesF W (p15) (fn) ∧ LiesF W w11.heap.size (fn)) ⟨HA.out.below (below_allocs _ _), HB.out.below (below_allocs _ _), below_trans HBL.out (below_allocs _ _), H7.out.below (below_allocs _ _), H9.out.below (below_allocs _ _), H11.out.below (below_allocs _ _), H13.out.below (below_allocs _ _), H15.out.below (below_allocs _ _), liesF_new _ _ _⟩ ?_
  rintro W11 ⟨gHA, gHB, gHBL, gH7, gH9, gH11, gH13, gH15, gH17⟩
  generalize w11.heap.size = p17 at *
  replace HA := hide gHA
  replace HB := hide gHB
  replace HBL := hide gHBL
  replace H7 := hide gH7
  replace H9 := hide gH9
  replace H11 := hide gH11
  replace H13 := hide gH13
  replace H15 := hide gH15
  have H17 := hide gH17
  clear gHA gHB gHBL gH7 gH9 gH11 gH13 gH15 gH17
  have hcH7 := H7.out.1
  have hcH9 := H9.out.1
  have hcH11 := H11.out.1
  have hcH13 := H13.out.1
  have hcH15 := H15.out.1
  have hcH17 := H17.out.1
  go_wp2_with fail
  refine (awake3_any _).mono ?_
  rintro e w' ⟨rfl, hb⟩
  replace HBL := hide (below_trans HBL.out hb)
  clear hb
  clear hcH7 hcH9 hcH11 hcH13 hcH15 hcH17
  go_wp2
  go_ret
  exact ⟨rfl, HBL.out⟩

theorem nlt_le (x y : Nat) : decide (x < y) = !decide (y ≤ x) := by
  rw [Bool.eq_iff_iff]; simp

theorem prodMuls_walk (a b n : Nat) (ha : a < QQ) (hb : b < QQ) (hn : n < 18446744073709551616) (w : World) :
    Calls Try.prog 6 #[.agg #[.int .u64 (dgl (a) 0 : Nat), .int .u64 (dgl (a) 1 : Nat), .int .u64 (dgl (a) 2 : Nat), .int .u64 (dgl (a) 3 : Nat), .int .u64 (dgl (a) 4 : Nat), .int .u64 (dgl (a) 5 : Nat), .int .u64 (dgl (a) 6 : Nat), .int .u64 (dgl (a) 7 : Nat)], .agg #[.int .u64 (dgl (b) 0 : Nat), .int .u64 (dgl (b) 1 : Nat), .int .u64 (dgl (b) 2 : Nat), .int .u64 (dgl (b) 3 : Nat), .int .u64 (dgl (b) 4 : Nat), .int .u64 (dgl (b) 5 : Nat), .int .u64 (dgl (b) 6 : Nat), .int .u64 (dgl (b) 7 : Nat)], .int .u64 (n : Nat)] w fun e w' => e = .returned (.bool true) ∧ Below w.heap.size w w' := by
  have hM := fun w => prodMul_any a b ha hb w
  have hS := fun w => prodSquare_any a ha w
  have hL := fun w => prodSmall_any a n ha hn w
  rw [nlt_le] at hM hS hL
  rw [Nat.mul_comm n a] at hL
  exact prodMuls_first (dgl a) (dgl b) (dgl (a * b)) (dgl (a * a)) (dgl (a * n)) a n (a * b) (a * a) _ _ _ w hM (fun w => ref3Mul_any a b ha hb w) (fun v w h => refWide_any _ _ v w h) hS (fun w => ref3Mul_any a a ha ha w) (fun v w h => refWide_any _ _ v w h)
    hL (fun w => refBig_any a ha w) (fun w => small_any n hn w) (fun v w h => refWide_any _ _ v w h) (fun w => wide_sameF _ w) (fun w => wide_sameF _ w) (fun w => wide_sameF _ w)

end Go.Proofs.Ytenbomfoihajhaa

/- For all wides and all limbs the law radicandlaw03.ProdMuls returns true, and its arguments read afterwards as they read before. No condition. -/
namespace Go.Proofs.Ytenbomfoihajhaa.prodMuls
open Go.ChangeShapes Go.WideShapes Go.ChangeAt Go.RowKit Go.Proofs.Ytenbomfoihajhaa

theorem own : ownKnob Try.prog.godebug = none := by kernel_rfl
theorem laidOut : laidOutB Try.prog = true := by kernel_rfl

set_option maxRecDepth 100000 in
theorem lifted (os : Os) (started : os.Started) (H : Type) (enc : TypeId × Value → H) :
    ReturnsInHanded {} Try.checked os 6 .any (Rows.prodMulsSpec.pre6 enc Try.prog Try.f6 Rows.prodMulsRow.domain false) (Rows.prodMulsSpec.post enc Try.prog Try.f6 false true false false) := by
  refine returnsInHanded_of_change (C := Try.checked) own started (by kernel_rfl) Try.func6
    (ChangeSpec.witness6 (enc := enc) (C := Try.checked) false ⟨#[], #[.agg #[.int .u64 0, .int .u64 0, .int .u64 0, .int .u64 0, .int .u64 0, .int .u64 0, .int .u64 0, .int .u64 0], .agg #[.int .u64 0, .int .u64 0, .int .u64 0, .int .u64 0, .int .u64 0, .int .u64 0, .int .u64 0, .int .u64 0], .int .u64 0], []⟩ 40 (by kernel_rfl) (by kernel_rfl) (by kernel_rfl) (by kernel_rfl)) ?_
  intro W base args ds gs before hval0 hW hcnd _
  have hval : ∀ (j : Nat) t v, Try.f6.params[j]? = some t → args[j]? = some v → Value.okWide Try.prog W .any base t v := hval0
  have hW' := hW
  obtain ⟨p, q, hA0, hV, rfl, hfz, hnd⟩ := hW
  have hA : DataW.TrodAll enc Try.prog W 0 (fun _ => true) true Try.f6.params.toList args.toList ds p := hA0
  rw [Try.params6] at hA hval
  obtain ⟨v0, vs0, d0, ds0, p0, q0, hargs, rfl, rfl, h0, r0⟩ := trodAll_cons hA
  obtain ⟨v1, vs1, d1, ds1, p1, q1, rfl, rfl, rfl, h1, r1⟩ := trodAll_cons r0
  obtain ⟨v2, vs2, d2, ds2, p2, q2, rfl, rfl, rfl, h2, r2⟩ := trodAll_cons r1
  obtain ⟨rfl, rfl, rfl⟩ := trodAll_nil r2
  obtain rfl : args = #[v0, v1, v2] := by cases args; simp_all
  obtain ⟨rfl, rfl⟩ := trodVars_none hV
  have k0 := h0
  have lt0 : ∀ x ∈ p0, x.block < W.heap.size := by obtain ⟨m, hm⟩ := k0; exact DataW.trod_lt m _ _ _ hm
  have k1 := h1
  have lt1 : ∀ x ∈ p1, x.block < W.heap.size := by obtain ⟨m, hm⟩ := k1; exact DataW.trod_lt m _ _ _ hm
  have k2 := h2
  have lt2 : ∀ x ∈ p2, x.block < W.heap.size := by obtain ⟨m, hm⟩ := k2; exact DataW.trod_lt m _ _ _ hm
  obtain ⟨x0, hx0, rfl⟩ := wide_of_trod (hval 0 24 v0 rfl rfl) h0
  obtain ⟨x1, hx1, rfl⟩ := wide_of_trod (hval 1 24 v1 rfl rfl) h1
  obtain ⟨a2, rfl, rfl, rfl, wf2⟩ := open_int Try.underlying22 (hval 2 22 v2 rfl rfl) h2
  clear hA0 hval0
  obtain ⟨n2, rfl, hn2⟩ := u64_nat wf2
  refine (prodMuls_walk x0 x1 n2 hx0 hx1 hn2 W).mono fun e W' ⟨he, bel⟩ => ?_
  subst he
  exact ⟨_, rfl, _, _, _, [], _, [], hW', trodAll_mk1 (shut_bool Try.underlying4 _), (trodAll_cons_mk (Below.trod laidOut (by kernel_rfl) (of_decide_eq_true (by kernel_rfl)) k0 bel lt0) (trodAll_cons_mk (Below.trod laidOut (by kernel_rfl) (of_decide_eq_true (by kernel_rfl)) k1 bel lt1) (trodAll_cons_mk (Below.trod laidOut (by kernel_rfl) (of_decide_eq_true (by kernel_rfl)) k2 bel lt2) trodAll_mk0))), rfl, bel.frame _, fun h => by cases h⟩

theorem over : Rows.prodMulsRow.holds Try.pinned (OpenSpec.ofChange Rows.prodMulsSpec) :=
  OpenClaim.holds_of_wide 6 Try.f6 rfl rfl rfl rfl rfl rfl rfl ⟨rfl, rfl, rfl, rfl, rfl⟩ rfl rfl rfl rfl rfl (by kernel_rfl) Try.func6 (by kernel_rfl)
    (of_decide_eq_true (by kernel_rfl)) (by unfold Func.isWrapper; first | (rw [if_pos (by decide +kernel)]; kernel_rfl) | (rw [if_neg (by decide +kernel)]; exact ⟨rfl, rfl⟩))
    (fun os started H enc _ => lifted os started H enc)

theorem proved : Rows.ProdMulsSaid := over
#print axioms proved
end Go.Proofs.Ytenbomfoihajhaa.prodMuls

