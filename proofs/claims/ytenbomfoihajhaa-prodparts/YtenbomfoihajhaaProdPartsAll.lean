/- For all wides and all ints the law radicandlaw03.ProdParts returns true, and its arguments read afterwards as they read before. No condition. -/
import Derived.Test.YtenbomfoihajhaaBaseO
import Derived.Test.YtenbomfoihajhaaRows
import Derived.WalkKit
import Derived.ProofKit
import Derived.OpenShut
import Derived.ShutString
import Derived.ChangeOld
import Derived.Below
/- For all wides and all ints the law radicandlaw03.ProdParts returns true. -/
set_option linter.unusedVariables false
set_option linter.unusedSimpArgs false
set_option maxRecDepth 8000
namespace Go.Proofs.Ytenbomfoihajhaa
open Go.RowKit Plain

set_option maxHeartbeats 4000000 in
theorem prodParts_far (a b : Nat) (place : Int) (hp : 14 < place) (w : World) :
    Calls Try.prog 8 #[.agg #[.int .u64 (dgl (a) 0 : Nat), .int .u64 (dgl (a) 1 : Nat), .int .u64 (dgl (a) 2 : Nat), .int .u64 (dgl (a) 3 : Nat), .int .u64 (dgl (a) 4 : Nat), .int .u64 (dgl (a) 5 : Nat), .int .u64 (dgl (a) 6 : Nat), .int .u64 (dgl (a) 7 : Nat)], .agg #[.int .u64 (dgl (b) 0 : Nat), .int .u64 (dgl (b) 1 : Nat), .int .u64 (dgl (b) 2 : Nat), .int .u64 (dgl (b) 3 : Nat), .int .u64 (dgl (b) 4 : Nat), .int .u64 (dgl (b) 5 : Nat), .int .u64 (dgl (b) 6 : Nat), .int .u64 (dgl (b) 7 : Nat)], .int .i64 place] w fun e w' => e = .returned (.bool true) ∧ Below w.heap.size w w' := by
  have HPT := hide (fun w => prodPart_far a b place hp w)
  have HST := hide (TwoSt.start w (dgl a) (dgl b))
  have hzz : ∀ w, (Op.equalIn 10000 24 (.agg #[.int .u64 0, .int .u64 0, .int .u64 0, .int .u64 0, .int .u64 0, .int .u64 0, .int .u64 0, .int .u64 0]) (.agg #[.int .u64 0, .int .u64 0, .int .u64 0, .int .u64 0, .int .u64 0, .int .u64 0, .int .u64 0, .int .u64 0])).run Try.prog w = .ok true w := fun w => wide_sameF (fun _ => 0) w
  go_enter Try.func8, Try.ntmps8
  go_upto_region 1 with fail
  refine wp_gen (fun W => TwoSt w (dgl a) (dgl b) W) HST.out ?_
  rintro W0 h0
  clear HST
  have hca := h0.la.1
  have hcb := h0.lb.1
  have HBL := hide h0.bel
  clear h0
  go_wp2_with fail
  refine (HPT.out _).mono ?_
  rintro e w1 ⟨rfl, hb1⟩
  replace HBL := hide (below_trans HBL.out hb1)
  clear hb1 hca hcb
  go_upto_region 2 with fail
  refine wp_gen (fun W => Below w.heap.size w W ∧ LiesF W w1.heap.size (fun _ => 0)) ⟨below_trans HBL.out (below_allocs _ _), liesF_new _ (fun _ => 0) _⟩ ?_
  rintro W1 ⟨h1, h2⟩
  generalize w1.heap.size = p7 at *
  replace HBL := hide h1
  have hc7 : ∀ i, i < 8 → W1.cell? ⟨p7, i, none⟩ = some (.int .u64 0) := h2.1
  clear h1 h2
  have hmx : max 0 place = place := by omega
  go_wp2_with fail
  refine (awake3_any _).mono ?_
  rintro e w2 ⟨rfl, hb2⟩
  replace HBL := hide (below_trans HBL.out hb2)
  clear hb2 hc7
  go_wp2
  go_ret
  exact ⟨rfl, HBL.out⟩

set_option maxHeartbeats 8000000 in
theorem prodParts_near (a b T low ab pw k : Nat) (place c1 c2 : Int) (w : World) (hk14 : k ≤ 14)
    (HKK : Hid ((k : Int) = max 0 place))
    (HPT : Hid (∀ w, Calls Try.prog 50 #[.agg #[.int .u64 (dgl (a) 0 : Nat), .int .u64 (dgl (a) 1 : Nat), .int .u64 (dgl (a) 2 : Nat), .int .u64 (dgl (a) 3 : Nat), .int .u64 (dgl (a) 4 : Nat), .int .u64 (dgl (a) 5 : Nat), .int .u64 (dgl (a) 6 : Nat), .int .u64 (dgl (a) 7 : Nat)], .agg #[.int .u64 (dgl (b) 0 : Nat), .int .u64 (dgl (b) 1 : Nat), .int .u64 (dgl (b) 2 : Nat), .int .u64 (dgl (b) 3 : Nat), .int .u64 (dgl (b) 4 : Nat), .int .u64 (dgl (b) 5 : Nat), .int .u64 (dgl (b) 6 : Nat), .int .u64 (dgl (b) 7 : Nat)], .int .i64 place] w fun e w' => e = .returned (.agg #[.int .u64 (dgl (T) 0 : Nat), .int .u64 (dgl (T) 1 : Nat), .int .u64 (dgl (T) 2 : Nat), .int .u64 (dgl (T) 3 : Nat), .int .u64 (dgl (T) 4 : Nat), .int .u64 (dgl (T) 5 : Nat), .int .u64 (dgl (T) 6 : Nat), .int .u64 (dgl (T) 7 : Nat)]) ∧ Below w.heap.size w w'))
    (HRP : Hid (∀ w, Calls Try.prog 51 #[.agg #[.int .u64 (dgl (a) 0 : Nat), .int .u64 (dgl (a) 1 : Nat), .int .u64 (dgl (a) 2 : Nat), .int .u64 (dgl (a) 3 : Nat), .int .u64 (dgl (a) 4 : Nat), .int .u64 (dgl (a) 5 : Nat), .int .u64 (dgl (a) 6 : Nat), .int .u64 (dgl (a) 7 : Nat)], .agg #[.int .u64 (dgl (b) 0 : Nat), .int .u64 (dgl (b) 1 : Nat), .int .u64 (dgl (b) 2 : Nat), .int .u64 (dgl (b) 3 : Nat), .int .u64 (dgl (b) 4 : Nat), .int .u64 (dgl (b) 5 : Nat), .int .u64 (dgl (b) 6 : Nat), .int .u64 (dgl (b) 7 : Nat)], .int .i64 (k : Nat)] w fun e w' => ∃ v, e = .returned v ∧ BigV w' v T 104 ∧ Below w.heap.size w w'))
    (o1 : Bool) (HWT : Hid (∀ v w, BigV w v T 104 → Calls Try.prog 15 #[v] w fun e w' => e = .returned (.tuple #[.agg #[.int .u64 (dgl (T) 0 : Nat), .int .u64 (dgl (T) 1 : Nat), .int .u64 (dgl (T) 2 : Nat), .int .u64 (dgl (T) 3 : Nat), .int .u64 (dgl (T) 4 : Nat), .int .u64 (dgl (T) 5 : Nat), .int .u64 (dgl (T) 6 : Nat), .int .u64 (dgl (T) 7 : Nat)], .bool o1]) ∧ Below w.heap.size w w'))
    (HLOW : Hid (∀ v w, BigV w v T 104 → ∀ x : Int, x = ((64 * k : Nat) : Int) → Calls Try.prog 16 #[v, .int .i64 x] w fun e w' => ∃ v, e = .returned v ∧ BigV w' v low 200 ∧ Below w.heap.size w w'))
    (HMUL : Hid (∀ w, Calls Try.prog 44 #[.agg #[.int .u64 (dgl (a) 0 : Nat), .int .u64 (dgl (a) 1 : Nat), .int .u64 (dgl (a) 2 : Nat), .int .u64 (dgl (a) 3 : Nat), .int .u64 (dgl (a) 4 : Nat), .int .u64 (dgl (a) 5 : Nat), .int .u64 (dgl (a) 6 : Nat), .int .u64 (dgl (a) 7 : Nat)], .agg #[.int .u64 (dgl (b) 0 : Nat), .int .u64 (dgl (b) 1 : Nat), .int .u64 (dgl (b) 2 : Nat), .int .u64 (dgl (b) 3 : Nat), .int .u64 (dgl (b) 4 : Nat), .int .u64 (dgl (b) 5 : Nat), .int .u64 (dgl (b) 6 : Nat), .int .u64 (dgl (b) 7 : Nat)]] w fun e w' => ∃ v, e = .returned v ∧ BigV w' v ab 80 ∧ Below w.heap.size w w'))
    (HSMK : Hid (∀ w, Calls Try.prog 28 #[.int .u64 (k : Nat)] w fun e w' => ∃ v, e = .returned v ∧ BigV w' v k 2 ∧ Below w.heap.size w w'))
    (HPOW : Hid (∀ x : Int, x = ((64 * k + 64 : Nat) : Int) → ∀ w, Calls Try.prog 26 #[.int .i64 x] w fun e w' => ∃ v, e = .returned v ∧ BigV w' v pw 100 ∧ Below w.heap.size w w'))
    (HC1 : Hid (∀ x y w, BigV w x low 200 → BigV w y ab 80 → Calls Try.prog 21 #[x, y] w fun e w' => e = .returned (.int .i64 c1) ∧ w' = w)) (hc1 : c1 ≤ 0)
    (HC2 : Hid (∀ x y w, BigV w x ab 80 → BigV w y (low + k * pw) 201 → Calls Try.prog 21 #[x, y] w fun e w' => e = .returned (.int .i64 c2) ∧ w' = w)) (hc2 : 0 < k → c2 < 0) :
    Calls Try.prog 8 #[.agg #[.int .u64 (dgl (a) 0 : Nat), .int .u64 (dgl (a) 1 : Nat), .int .u64 (dgl (a) 2 : Nat), .int .u64 (dgl (a) 3 : Nat), .int .u64 (dgl (a) 4 : Nat), .int .u64 (dgl (a) 5 : Nat), .int .u64 (dgl (a) 6 : Nat), .int .u64 (dgl (a) 7 : Nat)], .agg #[.int .u64 (dgl (b) 0 : Nat), .int .u64 (dgl (b) 1 : Nat), .int .u64 (dgl (b) 2 : Nat), .int .u64 (dgl (b) 3 : Nat), .int .u64 (dgl (b) 4 : Nat), .int .u64 (dgl (b) 5 : Nat), .int .u64 (dgl (b) 6 : Nat), .int .u64 (dgl (b) 7 : Nat)], .int .i64 place] w fun e w' => e = .returned (.bool true) ∧ Below w.heap.size w w' := by
  have HST := hide (TwoSt.start w (dgl a) (dgl b))
  have htt := fun w => wide_same T w
  have HX1 := hide (show (64 : Int) * (k : Int) = ((64 * k : Nat) : Int) by omega)
  have HX2 := hide (show (64 : Int) * (k : Int) + 64 = ((64 * k + 64 : Nat) : Int) by omega)
  have hk14' : (k : Int) ≤ 14 := by omega
  have hkn : ¬ 14 < (k : Int) := by omega
  go_enter Try.func8, Try.ntmps8
  go_upto_region 1 with fail
  refine wp_gen (fun W => TwoSt w (dgl a) (dgl b) W) HST.out ?_
  rintro W0 h0
  clear HST
  have hca := h0.la.1
  have hcb := h0.lb.1
  have HA := hide h0.la
  have HB := hide h0.lb
  have HBL := hide h0.bel
  clear h0
  go_wp2_with fail
  refine (HPT.out _).mono ?_
  rintro e w1 ⟨rfl, hb1⟩
  replace HA := hide (HA.out.below hb1)
  replace HB := hide (HB.out.below hb1)
  replace HBL := hide (below_trans HBL.out hb1)
  clear hb1 hca hcb
  go_upto_region 2 with fail
  refine wp_gen (fun W => LiesF W w.heap.size (dgl a) ∧ LiesF W (w.heap.size + 1) (dgl b) ∧ Below w.heap.size w W ∧ LiesF W w1.heap.size (dgl T)) ⟨HA.out.alloc _, HB.out.alloc _, below_trans HBL.out (below_allocs _ _), liesF_new _ _ _⟩ ?_
  rintro W1 ⟨h1, h2, h3, h4⟩
  generalize w1.heap.size = p7 at *
  go_cut [8] (fun x wx => x = .int .i64 (k : Nat) ∧ wx = W1)
  case first =>
    go_wp2
    all_goals
      go_meet
      exact ⟨by rw [HKK.out]; first | done | (congr 1; omega), rfl⟩
  case rest =>
    obtain ⟨rfl, rfl⟩ := hcut
    replace HA := hide h1
    replace HB := hide h2
    replace HBL := hide h3
    have H7 := hide h4
    clear h1 h2 h3 h4
    by_cases hk0 : k = 0
    · have hk0' : ((k : Int) == 0) = true := by rw [beq_iff_eq]; omega
      clear hk0 hc2
      have hcHA := HA.out.1
      have hcHB := HB.out.1
      go_wp2_with fail
      refine (HRP.out _).mono ?_
      rintro e w11 ⟨v11, rfl, hv11, hb11⟩
      replace HA := hide (HA.out.below hb11)
      replace HB := hide (HB.out.below hb11)
      replace HBL := hide (below_trans HBL.out hb11)
      replace H7 := hide (H7.out.below hb11)
      have HV1 := hide hv11
      clear hv11
      clear hcHA hcHB
      clear hb11
      go_wp2_with fail
      refine (HWT.out _ _ HV1.out).mono ?_
      rintro e w12 ⟨rfl, hb12⟩
      replace HA := hide (HA.out.below hb12)
      replace HB := hide (HB.out.below hb12)
      replace HBL := hide (below_trans HBL.out hb12)
      replace H7 := hide (H7.out.below hb12)
      replace HV1 := hide (HV1.out.below hb12)
      clear hb12
      go_upto_region 7 with fail
      refine wp_gen (fun W => LiesF W (w.heap.size) (dgl a) ∧ LiesF W (w.heap.size + 1) (dgl b) ∧ Below w.heap.size w W ∧ LiesF W (p7) (dgl T) ∧ BigV W v11 (T) (104) ∧ LiesF W w12.heap.size (dgl T)) ⟨HA.out.below (below_allocs _ _), HB.out.below (below_allocs _ _), below_trans HBL.out (below_allocs _ _), H7.out.below (below_allocs _ _), HV1.out.below (below_allocs _ _), liesF_new _ _ _⟩ ?_
      rintro W12 ⟨gHA, gHB, gHBL, gH7, gHV1, gH10⟩
      generalize w12.heap.size = p10 at *
      replace HA := hide gHA
      replace HB := hide gHB
      replace HBL := hide gHBL
      replace H7 := hide gH7
      replace HV1 := hide gHV1
      have H10 := hide gH10
      clear gHA gHB gHBL gH7 gHV1 gH10
      go_wp2_with fail
      refine (HLOW.out _ _ HV1.out _ HX1.out).mono ?_
      rintro e w13 ⟨v13, rfl, hv13, hb13⟩
      clear HV1
      replace HA := hide (HA.out.below hb13)
      replace HB := hide (HB.out.below hb13)
      replace HBL := hide (below_trans HBL.out hb13)
      replace H7 := hide (H7.out.below hb13)
      replace H10 := hide (H10.out.below hb13)
      have HV2 := hide hv13
      clear hv13
      clear hb13
      have hcHA := HA.out.1
      have hcHB := HB.out.1
      go_wp2_with fail
      refine (HMUL.out _).mono ?_
      rintro e w14 ⟨v14, rfl, hv14, hb14⟩
      replace HA := hide (HA.out.below hb14)
      replace HB := hide (HB.out.below hb14)
      replace HBL := hide (below_trans HBL.out hb14)
      replace H7 := hide (H7.out.below hb14)
      replace H10 := hide (H10.out.below hb14)
      replace HV2 := hide (HV2.out.below hb14)
      have HV3 := hide hv14
      clear hv14
      clear hcHA hcHB
      clear hb14
      go_wp2_with fail
      refine (HSMK.out _).mono ?_
      rintro e w15 ⟨v15, rfl, hv15, hb15⟩
      replace HA := hide (HA.out.below hb15)
      replace HB := hide (HB.out.below hb15)
      replace HBL := hide (below_trans HBL.out hb15)
      replace H7 := hide (H7.out.below hb15)
      replace H10 := hide (H10.out.below hb15)
      replace HV2 := hide (HV2.out.below hb15)
      replace HV3 := hide (HV3.out.below hb15)
      have HV4 := hide hv15
      clear hv15
      clear hb15
      go_wp2_with fail
      refine (HPOW.out _ HX2.out _).mono ?_
      rintro e w16 ⟨v16, rfl, hv16, hb16⟩
      replace HA := hide (HA.out.below hb16)
      replace HB := hide (HB.out.below hb16)
      replace HBL := hide (below_trans HBL.out hb16)
      replace H7 := hide (H7.out.below hb16)
      replace H10 := hide (H10.out.below hb16)
      replace HV2 := hide (HV2.out.below hb16)
      replace HV3 := hide (HV3.out.below hb16)
      replace HV4 := hide (HV4.out.below hb16)
      have HV5 := hide hv16
      clear hv16
      clear hb16
      go_wp2_with fail
      refine (refMul_any k pw 2 100 _ _ _ HV4.out HV5.out (by omega) (by omega)).mono ?_
      rintro e w17 ⟨v17, rfl, hv17, hb17⟩
      clear HV4
      clear HV5
      replace HA := hide (HA.out.below hb17)
      replace HB := hide (HB.out.below hb17)
      replace HBL := hide (below_trans HBL.out hb17)
      replace H7 := hide (H7.out.below hb17)
      replace H10 := hide (H10.out.below hb17)
      replace HV2 := hide (HV2.out.below hb17)
      replace HV3 := hide (HV3.out.below hb17)
      have HV6 := hide hv17
      clear hv17
      clear hb17
      have hcH7 := H7.out.1
      have hcH10 := H10.out.1
      go_wp2_with fail
      refine (HC1.out _ _ _ HV2.out HV3.out).mono ?_
      rintro e w18 ⟨rfl, hb18⟩
      subst hb18
      clear hcH7 hcH10
      go_wp2_with fail
      refine (awake3_any _).mono ?_
      rintro e w19 ⟨rfl, hb19⟩
      replace HA := hide (HA.out.below hb19)
      replace HB := hide (HB.out.below hb19)
      replace HBL := hide (below_trans HBL.out hb19)
      replace H7 := hide (H7.out.below hb19)
      replace H10 := hide (H10.out.below hb19)
      replace HV2 := hide (HV2.out.below hb19)
      replace HV3 := hide (HV3.out.below hb19)
      replace HV6 := hide (HV6.out.below hb19)
      clear hb19
      go_wp2
      go_ret
      exact ⟨rfl, HBL.out⟩
    · have hk0' : ((k : Int) == 0) = false := by rw [beq_eq_false_iff_ne]; omega
      have hc2' := hc2 (by omega)
      clear hk0 hc2
      have hcHA := HA.out.1
      have hcHB := HB.out.1
      go_wp2_with fail
      refine (HRP.out _).mono ?_
      rintro e w11 ⟨v11, rfl, hv11, hb11⟩
      replace HA := hide (HA.out.below hb11)
      replace HB := hide (HB.out.below hb11)
      replace HBL := hide (below_trans HBL.out hb11)
      replace H7 := hide (H7.out.below hb11)
      have HV1 := hide hv11
      clear hv11
      clear hcHA hcHB
      clear hb11
      go_wp2_with fail
      refine (HWT.out _ _ HV1.out).mono ?_
      rintro e w12 ⟨rfl, hb12⟩
      replace HA := hide (HA.out.below hb12)
      replace HB := hide (HB.out.below hb12)
      replace HBL := hide (below_trans HBL.out hb12)
      replace H7 := hide (H7.out.below hb12)
      replace HV1 := hide (HV1.out.below hb12)
      clear hb12
      go_upto_region 7 with fail
      refine wp_gen (fun W => LiesF W (w.heap.size) (dgl a) ∧ LiesF W (w.heap.size + 1) (dgl b) ∧ Below w.heap.size w W ∧ LiesF W (p7) (dgl T) ∧ BigV W v11 (T) (104) ∧ LiesF W w12.heap.size (dgl T)) ⟨HA.out.below (below_allocs _ _), HB.out.below (below_allocs _ _), below_trans HBL.out (below_allocs _ _), H7.out.below (below_allocs _ _), HV1.out.below (below_allocs _ _), liesF_new _ _ _⟩ ?_
      rintro W12 ⟨gHA, gHB, gHBL, gH7, gHV1, gH10⟩
      generalize w12.heap.size = p10 at *
      replace HA := hide gHA
      replace HB := hide gHB
      replace HBL := hide gHBL
      replace H7 := hide gH7
      replace HV1 := hide gHV1
      have H10 := hide gH10
      clear gHA gHB gHBL gH7 gHV1 gH10
      go_wp2_with fail
      refine (HLOW.out _ _ HV1.out _ HX1.out).mono ?_
      rintro e w13 ⟨v13, rfl, hv13, hb13⟩
      clear HV1
      replace HA := hide (HA.out.below hb13)
      replace HB := hide (HB.out.below hb13)
      replace HBL := hide (below_trans HBL.out hb13)
      replace H7 := hide (H7.out.below hb13)
      replace H10 := hide (H10.out.below hb13)
      have HV2 := hide hv13
      clear hv13
      clear hb13
      have hcHA := HA.out.1
      have hcHB := HB.out.1
      go_wp2_with fail
      refine (HMUL.out _).mono ?_
      rintro e w14 ⟨v14, rfl, hv14, hb14⟩
      replace HA := hide (HA.out.below hb14)
      replace HB := hide (HB.out.below hb14)
      replace HBL := hide (below_trans HBL.out hb14)
      replace H7 := hide (H7.out.below hb14)
      replace H10 := hide (H10.out.below hb14)
      replace HV2 := hide (HV2.out.below hb14)
      have HV3 := hide hv14
      clear hv14
      clear hcHA hcHB
      clear hb14
      go_wp2_with fail
      refine (HSMK.out _).mono ?_
      rintro e w15 ⟨v15, rfl, hv15, hb15⟩
      replace HA := hide (HA.out.below hb15)
      replace HB := hide (HB.out.below hb15)
      replace HBL := hide (below_trans HBL.out hb15)
      replace H7 := hide (H7.out.below hb15)
      replace H10 := hide (H10.out.below hb15)
      replace HV2 := hide (HV2.out.below hb15)
      replace HV3 := hide (HV3.out.below hb15)
      have HV4 := hide hv15
      clear hv15
      clear hb15
      go_wp2_with fail
      refine (HPOW.out _ HX2.out _).mono ?_
      rintro e w16 ⟨v16, rfl, hv16, hb16⟩
      replace HA := hide (HA.out.below hb16)
      replace HB := hide (HB.out.below hb16)
      replace HBL := hide (below_trans HBL.out hb16)
      replace H7 := hide (H7.out.below hb16)
      replace H10 := hide (H10.out.below hb16)
      replace HV2 := hide (HV2.out.below hb16)
      replace HV3 := hide (HV3.out.below hb16)
      replace HV4 := hide (HV4.out.below hb16)
      have HV5 := hide hv16
      clear hv16
      clear hb16
      go_wp2_with fail
      refine (refMul_any k pw 2 100 _ _ _ HV4.out HV5.out (by omega) (by omega)).mono ?_
      rintro e w17 ⟨v17, rfl, hv17, hb17⟩
      clear HV4
      clear HV5
      replace HA := hide (HA.out.below hb17)
      replace HB := hide (HB.out.below hb17)
      replace HBL := hide (below_trans HBL.out hb17)
      replace H7 := hide (H7.out.below hb17)
      replace H10 := hide (H10.out.below hb17)
      replace HV2 := hide (HV2.out.below hb17)
      replace HV3 := hide (HV3.out.below hb17)
      have HV6 := hide hv17
      clear hv17
      clear hb17
      have hcH7 := H7.out.1
      have hcH10 := H10.out.1
      go_wp2_with fail
      refine (HC1.out _ _ _ HV2.out HV3.out).mono ?_
      rintro e w18 ⟨rfl, hb18⟩
      subst hb18
      clear hcH7 hcH10
      go_wp2_with fail
      refine (refAdd_any low (k * pw) 200 102 _ _ _ HV2.out HV6.out (by omega) (by omega)).mono ?_
      rintro e w19 ⟨v19, rfl, hv19, hb19⟩
      replace HA := hide (HA.out.below hb19)
      replace HB := hide (HB.out.below hb19)
      replace HBL := hide (below_trans HBL.out hb19)
      replace H7 := hide (H7.out.below hb19)
      replace H10 := hide (H10.out.below hb19)
      replace HV2 := hide (HV2.out.below hb19)
      replace HV3 := hide (HV3.out.below hb19)
      replace HV6 := hide (HV6.out.below hb19)
      have HV7 := hide hv19
      clear hv19
      clear hb19
      go_wp2_with fail
      refine (HC2.out _ _ _ HV3.out HV7.out).mono ?_
      rintro e w20 ⟨rfl, hb20⟩
      subst hb20
      go_wp2_with fail
      refine (awake3_any _).mono ?_
      rintro e w21 ⟨rfl, hb21⟩
      replace HA := hide (HA.out.below hb21)
      replace HB := hide (HB.out.below hb21)
      replace HBL := hide (below_trans HBL.out hb21)
      replace H7 := hide (H7.out.below hb21)
      replace H10 := hide (H10.out.below hb21)
      replace HV2 := hide (HV2.out.below hb21)
      replace HV3 := hide (HV3.out.below hb21)
      replace HV6 := hide (HV6.out.below hb21)
      replace HV7 := hide (HV7.out.below hb21)
      clear hb21
      go_wp2
      go_ret
      exact ⟨rfl, HBL.out⟩

theorem prodParts_walk (a b : Nat) (place : Int) (ha : a < QQ) (hb : b < QQ) (w : World) :
    Calls Try.prog 8 #[.agg #[.int .u64 (dgl (a) 0 : Nat), .int .u64 (dgl (a) 1 : Nat), .int .u64 (dgl (a) 2 : Nat), .int .u64 (dgl (a) 3 : Nat), .int .u64 (dgl (a) 4 : Nat), .int .u64 (dgl (a) 5 : Nat), .int .u64 (dgl (a) 6 : Nat), .int .u64 (dgl (a) 7 : Nat)], .agg #[.int .u64 (dgl (b) 0 : Nat), .int .u64 (dgl (b) 1 : Nat), .int .u64 (dgl (b) 2 : Nat), .int .u64 (dgl (b) 3 : Nat), .int .u64 (dgl (b) 4 : Nat), .int .u64 (dgl (b) 5 : Nat), .int .u64 (dgl (b) 6 : Nat), .int .u64 (dgl (b) 7 : Nat)], .int .i64 place] w fun e w' => e = .returned (.bool true) ∧ Below w.heap.size w w' := by
  by_cases hp : 14 < place
  · exact prodParts_far a b place hp w
  · obtain ⟨k, hk⟩ : ∃ k : Nat, (k : Int) = max place 0 := ⟨(max place 0).toNat, by omega⟩
    have hk14 : k ≤ 14 := by omega
    obtain ⟨h1, h0, h2⟩ := part_le a b k ha hb
    rw [← allT_up] at h1 h2
    have e64 : LW ^ k = 2 ^ (64 * k) := LLpow k
    have e65 : LW ^ (k + 1) = 2 ^ (64 * k + 64) := LLpow (k + 1)
    rw [e64] at h1 h2
    rw [e65] at h2
    refine prodParts_near a b (allT a b k 8) (allT a b k 8 * 2 ^ (64 * k)) (a * b) (2 ^ (64 * k + 64)) k place (cmpN (allT a b k 8 * 2 ^ (64 * k)) (a * b)) (cmpN (a * b) (allT a b k 8 * 2 ^ (64 * k) + k * 2 ^ (64 * k + 64))) w hk14 (show (k : Int) = max 0 place by omega)
      (fun w => prodPart_any a b k place hk (by omega) w) (fun w => ref3Part_any a b k hk14 w) _ (fun v w h => refWide_any _ _ v w h)
      (fun v w h x hx => (refShl_int _ 104 (64 * k) x v w h (by omega) (by omega) hx).mono fun e w' ⟨v, h1, h2, h3⟩ => ⟨v, h1, h2.mono (by omega), h3⟩) (fun w => ref3Mul_any a b ha hb w) (fun w => small_any k (by omega) w)
      (fun x hx w => (refPower_int (64 * k + 64) _ x (by omega) rfl hx w).mono fun e w' ⟨v, h1, h2, h3⟩ => ⟨v, h1, h2.mono (by omega), h3⟩) (fun x y w hx hy => cmp_any _ _ _ _ x y w hx hy) ?_ (fun x y w hx hy => cmp_any _ _ _ _ x y w hx hy) ?_
    · unfold cmpN
      split
      · omega
      · rw [if_neg (by omega)]; omega
    · intro hk0
      have := h2 (by omega)
      unfold cmpN
      rw [if_pos this]; omega

end Go.Proofs.Ytenbomfoihajhaa

/- For all wides and all ints the law radicandlaw03.ProdParts returns true, and its arguments read afterwards as they read before. No condition. -/
namespace Go.Proofs.Ytenbomfoihajhaa.prodParts
open Go.ChangeShapes Go.WideShapes Go.ChangeAt Go.RowKit Go.Proofs.Ytenbomfoihajhaa

theorem own : ownKnob Try.prog.godebug = none := by kernel_rfl
theorem laidOut : laidOutB Try.prog = true := by kernel_rfl

set_option maxRecDepth 100000 in
theorem lifted (os : Os) (started : os.Started) (H : Type) (enc : TypeId × Value → H) :
    ReturnsInHanded {} Try.checked os 8 .any (Rows.prodPartsSpec.pre6 enc Try.prog Try.f8 Rows.prodPartsRow.domain false) (Rows.prodPartsSpec.post enc Try.prog Try.f8 false true false false) := by
  refine returnsInHanded_of_change (C := Try.checked) own started (by kernel_rfl) Try.func8
    (ChangeSpec.witness6 (enc := enc) (C := Try.checked) false ⟨#[], #[.agg #[.int .u64 0, .int .u64 0, .int .u64 0, .int .u64 0, .int .u64 0, .int .u64 0, .int .u64 0, .int .u64 0], .agg #[.int .u64 0, .int .u64 0, .int .u64 0, .int .u64 0, .int .u64 0, .int .u64 0, .int .u64 0, .int .u64 0], .int .i64 0], []⟩ 40 (by kernel_rfl) (by kernel_rfl) (by kernel_rfl) (by kernel_rfl)) ?_
  intro W base args ds gs before hval0 hW hcnd _
  have hval : ∀ (j : Nat) t v, Try.f8.params[j]? = some t → args[j]? = some v → Value.okWide Try.prog W .any base t v := hval0
  have hW' := hW
  obtain ⟨p, q, hA0, hV, rfl, hfz, hnd⟩ := hW
  have hA : DataW.TrodAll enc Try.prog W 0 (fun _ => true) true Try.f8.params.toList args.toList ds p := hA0
  rw [Try.params8] at hA hval
  obtain ⟨v0, vs0, d0, ds0, p0, q0, hargs, rfl, rfl, h0, r0⟩ := trodAll_cons hA
  obtain ⟨v1, vs1, d1, ds1, p1, q1, rfl, rfl, rfl, h1, r1⟩ := trodAll_cons r0
  obtain ⟨v2, vs2, d2, ds2, p2, q2, rfl, rfl, rfl, h2, r2⟩ := trodAll_cons r1
  obtain ⟨rfl, rfl, rfl⟩ := trodAll_nil r2
  obtain rfl : args = #[v0, v1, v2] := by cases args; simp_all
  obtain ⟨rfl, rfl⟩ := trodVars_none hV
  have k0 := h0
  have lt0 : ∀ x ∈ p0, x.block < W.heap.size := by obtain ⟨m, hm⟩ := k0; exact DataW.trod_lt m _ _ _ hm
  have k1 := h1
  have lt1 : ∀ x ∈ p1, x.block < W.heap.size := by obtain ⟨m, hm⟩ := k1; exact DataW.trod_lt m _ _ _ hm
  have k2 := h2
  have lt2 : ∀ x ∈ p2, x.block < W.heap.size := by obtain ⟨m, hm⟩ := k2; exact DataW.trod_lt m _ _ _ hm
  obtain ⟨x0, hx0, rfl⟩ := wide_of_trod (hval 0 24 v0 rfl rfl) h0
  obtain ⟨x1, hx1, rfl⟩ := wide_of_trod (hval 1 24 v1 rfl rfl) h1
  obtain ⟨a2, rfl, rfl, rfl, wf2⟩ := open_int Try.underlying3 (hval 2 3 v2 rfl rfl) h2
  clear hA0 hval0
  refine (prodParts_walk x0 x1 a2 hx0 hx1 W).mono fun e W' ⟨he, bel⟩ => ?_
  subst he
  exact ⟨_, rfl, _, _, _, [], _, [], hW', trodAll_mk1 (shut_bool Try.underlying4 _), (trodAll_cons_mk (Below.trod laidOut (by kernel_rfl) (of_decide_eq_true (by kernel_rfl)) k0 bel lt0) (trodAll_cons_mk (Below.trod laidOut (by kernel_rfl) (of_decide_eq_true (by kernel_rfl)) k1 bel lt1) (trodAll_cons_mk (Below.trod laidOut (by kernel_rfl) (of_decide_eq_true (by kernel_rfl)) k2 bel lt2) trodAll_mk0))), rfl, bel.frame _, fun h => by cases h⟩

theorem over : Rows.prodPartsRow.holds Try.pinned (OpenSpec.ofChange Rows.prodPartsSpec) :=
  OpenClaim.holds_of_wide 8 Try.f8 rfl rfl rfl rfl rfl rfl rfl ⟨rfl, rfl, rfl, rfl, rfl⟩ rfl rfl rfl rfl rfl (by kernel_rfl) Try.func8 (by kernel_rfl)
    (of_decide_eq_true (by kernel_rfl)) (by unfold Func.isWrapper; first | (rw [if_pos (by decide +kernel)]; kernel_rfl) | (rw [if_neg (by decide +kernel)]; exact ⟨rfl, rfl⟩))
    (fun os started H enc _ => lifted os started H enc)

theorem proved : Rows.ProdPartsSaid := over
#print axioms proved
end Go.Proofs.Ytenbomfoihajhaa.prodParts

