/- For all words, all ints and all texts the law radicandlaw04.DigitsWords returns true, and its arguments read afterwards as they read before. No condition. -/
import Derived.Test.YtjklehlkgccmnaaBaseW
import Derived.Test.YtjklehlkgccmnaaRows
import Derived.Test.YtjklehlkgccmnaaBaseZ
import Derived.WalkKit
import Derived.ProofKit
import Derived.OpenShut
import Derived.ShutString
import Derived.ChangeOld
import Derived.Below
import Derived.ChangeMaps5
/- For all words, all ints and all texts the law radicandlaw04.DigitsWords returns true. -/
set_option linter.unusedVariables false
set_option linter.unusedSimpArgs false
set_option maxRecDepth 8000
namespace Go.Proofs.Ytjklehlkgccmnaa
open Go.RowKit Plain

set_option maxHeartbeats 1000000 in
theorem digitsWords_long (hi lo : Nat) (b : Int) (s : ByteArray) (hs : s.size ≤ 9223372036854775807) (hl : 100 < s.size) (w : World) :
    Calls Try.prog 6 #[.agg #[.int .u64 (hi : Nat), .int .u64 (lo : Nat)], .int .i64 b, .string s] w fun e w' => e = .returned (.bool true) ∧ Below w.heap.size w w' := by
  have hl' : (100 : Int) < (s.size : Int) := by omega
  have hs' : (s.size : Int) ≤ 9223372036854775807 := by omega
  have HBL := hide (below_allocs w (.cells #[.int .u64 (hi : Nat), .int .u64 (lo : Nat)] 39))
  go_enter Try.func6, Try.ntmps6
  go_wp2_with fail
  refine (awake4_any _).mono ?_
  rintro e w' ⟨rfl, hb⟩
  replace HBL := hide (below_trans HBL.out hb)
  clear hb
  go_wp2
  go_ret
  exact ⟨rfl, HBL.out⟩

theorem word_none2 (w : World) : (Op.equalIn 10000 39 (.agg #[.int .u64 0, .int .u64 0]) (.agg #[.int .u64 0, .int .u64 0])).run Try.prog w = .ok true w := word_same 0 0 w

set_option maxHeartbeats 1000000 in
theorem digitsWords_arg (hi lo : Nat) (b : Int) (s : ByteArray) (hs : s.size ≤ 100) (hb : ¬ Wordly b) (h1 : -9223372036854775808 ≤ b) (h2 : b ≤ 9223372036854775807) (w : World) :
    Calls Try.prog 6 #[.agg #[.int .u64 (hi : Nat), .int .u64 (lo : Nat)], .int .i64 b, .string s] w fun e w' => e = .returned (.bool true) ∧ Below w.heap.size w w' := by
  have hl : ¬ (100 : Int) < (s.size : Int) := by omega
  have HW := hide (fun w => word_none hi lo b hb h1 h2 w)
  have HPT := hide (fun w => parseWord_arg ⟨#[]⟩ b hb h1 h2 w)
  have HPS := hide (fun w => parseWord_arg s b hb h1 h2 w)
  have hzz := fun w => word_none2 w
  have H3 := hide (wd2_new w hi lo 39)
  have HBL := hide (below_allocs w (.cells #[.int .u64 (hi : Nat), .int .u64 (lo : Nat)] 39))
  by_cases k1 : b < 4
  · clear hb
    go_enter Try.func6, Try.ntmps6
    have hcH3 := H3.out.c0
    have hdH3 := H3.out.c1
    go_wp2_with fail
    refine (HW.out _).mono ?_
    rintro e w1 ⟨rfl, hb1⟩
    replace H3 := hide (H3.out.below hb1)
    replace HBL := hide (below_trans HBL.out hb1)
    clear hcH3 hdH3
    clear hb1
    go_wp2_with fail
    refine (HPT.out _).mono ?_
    rintro e w2 ⟨rfl, hb2⟩
    replace H3 := hide (H3.out.below hb2)
    replace HBL := hide (below_trans HBL.out hb2)
    clear hb2
    go_upto_region 5 with fail
    refine wp_gen (fun W => Wd2 W w.heap.size hi lo ∧ Below w.heap.size w W ∧ Wd2 W w2.heap.size (0) (0)) ⟨H3.out.below (below_allocs _ _), below_trans HBL.out (below_allocs _ _), wd2_new _ _ _ _⟩ ?_
    rintro W2 ⟨gH3, gHBL, gH8⟩
    generalize w2.heap.size = p8 at *
    replace H3 := hide gH3
    replace HBL := hide gHBL
    have H8 := hide gH8
    clear gH3 gHBL gH8
    go_wp2_with fail
    refine (HPS.out _).mono ?_
    rintro e w3 ⟨rfl, hb3⟩
    replace H3 := hide (H3.out.below hb3)
    replace HBL := hide (below_trans HBL.out hb3)
    replace H8 := hide (H8.out.below hb3)
    clear hb3
    go_upto_region 6 with fail
    refine wp_gen (fun W => Wd2 W w.heap.size hi lo ∧ Below w.heap.size w W ∧ Wd2 W (p8) (0) (0) ∧ Wd2 W w3.heap.size (0) (0)) ⟨H3.out.below (below_allocs _ _), below_trans HBL.out (below_allocs _ _), H8.out.below (below_allocs _ _), wd2_new _ _ _ _⟩ ?_
    rintro W3 ⟨gH3, gHBL, gH8, gH10⟩
    generalize w3.heap.size = p10 at *
    replace H3 := hide gH3
    replace HBL := hide gHBL
    replace H8 := hide gH8
    have H10 := hide gH10
    clear gH3 gHBL gH8 gH10
    clear HW HPT HPS
    have hcH8 := H8.out.c0
    have hdH8 := H8.out.c1
    have hcH10 := H10.out.c0
    have hdH10 := H10.out.c1
    go_wp2_with fail
    refine (awake4_any _).mono ?_
    rintro e w' ⟨rfl, hb⟩
    replace HBL := hide (below_trans HBL.out hb)
    clear hb
    clear hcH8 hdH8
    clear hcH10 hdH10
    go_wp2
    go_ret
    exact ⟨rfl, HBL.out⟩
  · by_cases k2 : 128 < b
    · clear hb
      go_enter Try.func6, Try.ntmps6
      have hcH3 := H3.out.c0
      have hdH3 := H3.out.c1
      go_wp2_with fail
      refine (HW.out _).mono ?_
      rintro e w1 ⟨rfl, hb1⟩
      replace H3 := hide (H3.out.below hb1)
      replace HBL := hide (below_trans HBL.out hb1)
      clear hcH3 hdH3
      clear hb1
      go_wp2_with fail
      refine (HPT.out _).mono ?_
      rintro e w2 ⟨rfl, hb2⟩
      replace H3 := hide (H3.out.below hb2)
      replace HBL := hide (below_trans HBL.out hb2)
      clear hb2
      go_upto_region 5 with fail
      refine wp_gen (fun W => Wd2 W w.heap.size hi lo ∧ Below w.heap.size w W ∧ Wd2 W w2.heap.size (0) (0)) ⟨H3.out.below (below_allocs _ _), below_trans HBL.out (below_allocs _ _), wd2_new _ _ _ _⟩ ?_
      rintro W2 ⟨gH3, gHBL, gH8⟩
      generalize w2.heap.size = p8 at *
      replace H3 := hide gH3
      replace HBL := hide gHBL
      have H8 := hide gH8
      clear gH3 gHBL gH8
      go_wp2_with fail
      refine (HPS.out _).mono ?_
      rintro e w3 ⟨rfl, hb3⟩
      replace H3 := hide (H3.out.below hb3)
      replace HBL := hide (below_trans HBL.out hb3)
      replace H8 := hide (H8.out.below hb3)
      clear hb3
      go_upto_region 6 with fail
      refine wp_gen (fun W => Wd2 W w.heap.size hi lo ∧ Below w.heap.size w W ∧ Wd2 W (p8) (0) (0) ∧ Wd2 W w3.heap.size (0) (0)) ⟨H3.out.below (below_allocs _ _), below_trans HBL.out (below_allocs _ _), H8.out.below (below_allocs _ _), wd2_new _ _ _ _⟩ ?_
      rintro W3 ⟨gH3, gHBL, gH8, gH10⟩
      generalize w3.heap.size = p10 at *
      replace H3 := hide gH3
      replace HBL := hide gHBL
      replace H8 := hide gH8
      have H10 := hide gH10
      clear gH3 gHBL gH8 gH10
      clear HW HPT HPS
      have hcH8 := H8.out.c0
      have hdH8 := H8.out.c1
      have hcH10 := H10.out.c0
      have hdH10 := H10.out.c1
      go_wp2_with fail
      refine (awake4_any _).mono ?_
      rintro e w' ⟨rfl, hb⟩
      replace HBL := hide (below_trans HBL.out hb)
      clear hb
      clear hcH8 hdH8
      clear hcH10 hdH10
      go_wp2
      go_ret
      exact ⟨rfl, HBL.out⟩
    · have k3 : (b % 4 != 0) = true := by
        rw [bne_iff_ne]
        exact fun h => hb ⟨by omega, by omega, h⟩
      clear hb
      go_enter Try.func6, Try.ntmps6
      have hcH3 := H3.out.c0
      have hdH3 := H3.out.c1
      go_wp2_with fail
      refine (HW.out _).mono ?_
      rintro e w1 ⟨rfl, hb1⟩
      replace H3 := hide (H3.out.below hb1)
      replace HBL := hide (below_trans HBL.out hb1)
      clear hcH3 hdH3
      clear hb1
      go_wp2_with fail
      refine (HPT.out _).mono ?_
      rintro e w2 ⟨rfl, hb2⟩
      replace H3 := hide (H3.out.below hb2)
      replace HBL := hide (below_trans HBL.out hb2)
      clear hb2
      go_upto_region 5 with fail
      refine wp_gen (fun W => Wd2 W w.heap.size hi lo ∧ Below w.heap.size w W ∧ Wd2 W w2.heap.size (0) (0)) ⟨H3.out.below (below_allocs _ _), below_trans HBL.out (below_allocs _ _), wd2_new _ _ _ _⟩ ?_
      rintro W2 ⟨gH3, gHBL, gH8⟩
      generalize w2.heap.size = p8 at *
      replace H3 := hide gH3
      replace HBL := hide gHBL
      have H8 := hide gH8
      clear gH3 gHBL gH8
      go_wp2_with fail
      refine (HPS.out _).mono ?_
      rintro e w3 ⟨rfl, hb3⟩
      replace H3 := hide (H3.out.below hb3)
      replace HBL := hide (below_trans HBL.out hb3)
      replace H8 := hide (H8.out.below hb3)
      clear hb3
      go_upto_region 6 with fail
      refine wp_gen (fun W => Wd2 W w.heap.size hi lo ∧ Below w.heap.size w W ∧ Wd2 W (p8) (0) (0) ∧ Wd2 W w3.heap.size (0) (0)) ⟨H3.out.below (below_allocs _ _), below_trans HBL.out (below_allocs _ _), H8.out.below (below_allocs _ _), wd2_new _ _ _ _⟩ ?_
      rintro W3 ⟨gH3, gHBL, gH8, gH10⟩
      generalize w3.heap.size = p10 at *
      replace H3 := hide gH3
      replace HBL := hide gHBL
      replace H8 := hide gH8
      have H10 := hide gH10
      clear gH3 gHBL gH8 gH10
      clear HW HPT HPS
      have hcH8 := H8.out.c0
      have hdH8 := H8.out.c1
      have hcH10 := H10.out.c0
      have hdH10 := H10.out.c1
      go_wp2_with fail
      refine (awake4_any _).mono ?_
      rintro e w' ⟨rfl, hb⟩
      replace HBL := hide (below_trans HBL.out hb)
      clear hb
      clear hcH8 hdH8
      clear hcH10 hdH10
      go_wp2
      go_ret
      exact ⟨rfl, HBL.out⟩

set_option maxHeartbeats 400000 in
theorem digitsWords_some (hi lo n a c x q q2 h0 : Nat) (f : Int) (s : ByteArray) (hs : s.size ≤ 100) (hn1 : 1 ≤ n) (hn : n ≤ 32) (w : World)
    (HW : Hid (∀ w, Calls Try.prog 16 #[.agg #[.int .u64 (hi : Nat), .int .u64 (lo : Nat)], .int .i64 (4 * (n : Int))] w fun e w' => e = .returned (.string (textN 16 c n)) ∧ Below w.heap.size w w'))
    (HPT : Hid (∀ w, Calls Try.prog 17 #[.string (textN 16 c n), .int .i64 (4 * (n : Int))] w fun e w' => e = .returned (.tuple #[.agg #[.int .u64 (dgl c 1 : Nat), .int .u64 (dgl c 0 : Nat)], .int .i64 0]) ∧ Below w.heap.size w w'))
    (HPS : Hid (∀ w, Calls Try.prog 17 #[.string s, .int .i64 (4 * (n : Int))] w fun e w' => e = .returned (.tuple #[.agg #[.int .u64 (dgl x 1 : Nat), .int .u64 (dgl x 0 : Nat)], .int .i64 f]) ∧ Below w.heap.size w w'))
    (HBG : Hid (∀ w, Calls Try.prog 11 #[.agg #[.int .u64 (lo : Nat), .int .u64 (hi : Nat), .int .u64 0, .int .u64 0, .int .u64 0, .int .u64 0, .int .u64 0, .int .u64 0]] w fun e w' => ∃ v, e = .returned v ∧ BigV w' v a 40 ∧ Below w.heap.size w w'))
    (HSR : Hid (∀ v w, BigV w v a 40 → Calls Try.prog 20 #[v, .int .i64 (4 * (n : Int))] w fun e w' => ∃ v, e = .returned v ∧ BigV w' v q 40 ∧ Below w.heap.size w w'))
    (HSL : Hid (∀ v w, BigV w v q 40 → Calls Try.prog 19 #[v, .int .i64 (4 * (n : Int))] w fun e w' => ∃ v, e = .returned v ∧ BigV w' v q2 100 ∧ Below w.heap.size w w'))
    (HSU : Hid (∀ v u w, BigV w v a 40 → BigV w u q2 100 → Calls Try.prog 18 #[v, u] w fun e w' => ∃ v, e = .returned v ∧ BigV w' v c 40 ∧ Below w.heap.size w w'))
    (HHX : Hid (∀ v w, BigV w v c 40 → Calls Try.prog 10 #[v] w fun e w' => e = .returned (.string (textN 16 c h0)) ∧ Below w.heap.size w w'))
    (HWD : Hid (∀ v w, BigV w v c 40 → Calls Try.prog 21 #[v] w fun e w' => e = .returned (.tuple #[.agg #[.int .u64 (dgl (c) 0 : Nat), .int .u64 (dgl (c) 1 : Nat), .int .u64 (dgl (c) 2 : Nat), .int .u64 (dgl (c) 3 : Nat), .int .u64 (dgl (c) 4 : Nat), .int .u64 (dgl (c) 5 : Nat), .int .u64 (dgl (c) 6 : Nat), .int .u64 (dgl (c) 7 : Nat)], .bool (decide (QQ ≤ c))]) ∧ Below w.heap.size w w'))
    (HPAD : Hid (∀ j, h0 ≤ j → textN 16 c (j + 1) = ⟨#[48]⟩ ++ textN 16 c j)) (HH0 : Hid (h0 ≤ n))
    (HX : Hid ((s.size ≠ n ∧ x = 0 ∧ f = 2) ∨ (s.size = n ∧ Told (goodN 16 s s.size) 16 s x f))) :
    Calls Try.prog 6 #[.agg #[.int .u64 (hi : Nat), .int .u64 (lo : Nat)], .int .i64 (4 * (n : Int)), .string s] w fun e w' => e = .returned (.bool true) ∧ Below w.heap.size w w' := by
  have hl : ¬ (100 : Int) < (s.size : Int) := by omega
  have hzz := fun w => word_none2 w
  have hcc := fun w => word_same (dgl c 1) (dgl c 0) w
  have hxx := fun w => word_same (dgl x 1) (dgl x 0) w
  have H3 := hide (wd2_new w hi lo 39)
  have HBL := hide (below_allocs w (.cells #[.int .u64 (hi : Nat), .int .u64 (lo : Nat)] 39))
  have hq : (4 * (n : Int)) / 4 = (n : Int) := by omega
  have hn3 : (n : Int) ≤ 32 := by omega
  have k1 : ¬ 4 * (n : Int) < 4 := by omega
  have k2 : ¬ 128 < 4 * (n : Int) := by omega
  have k3 : (4 * (n : Int) % 4 != 0) = false := by rw [bne_eq_false_iff_eq]; omega
  go_enter Try.func6, Try.ntmps6
  have hcH3 := H3.out.c0
  have hdH3 := H3.out.c1
  go_wp2_with fail
  refine (HW.out _).mono ?_
  rintro e w1 ⟨rfl, hb1⟩
  replace H3 := hide (H3.out.below hb1)
  replace HBL := hide (below_trans HBL.out hb1)
  clear hcH3 hdH3
  clear hb1
  go_wp2_with fail
  refine (HPT.out _).mono ?_
  rintro e w2 ⟨rfl, hb2⟩
  replace H3 := hide (H3.out.below hb2)
  replace HBL := hide (below_trans HBL.out hb2)
  clear hb2
  go_upto_region 5 with fail
  refine wp_gen (fun W => Wd2 W w.heap.size hi lo ∧ Below w.heap.size w W ∧ Wd2 W w2.heap.size (dgl c 1) (dgl c 0)) ⟨H3.out.below (below_allocs _ _), below_trans HBL.out (below_allocs _ _), wd2_new _ _ _ _⟩ ?_
  rintro W2 ⟨gH3, gHBL, gH8⟩
  generalize w2.heap.size = p8 at *
  replace H3 := hide gH3
  replace HBL := hide gHBL
  have H8 := hide gH8
  clear gH3 gHBL gH8
  go_wp2_with fail
  refine (HPS.out _).mono ?_
  rintro e w3 ⟨rfl, hb3⟩
  replace H3 := hide (H3.out.below hb3)
  replace HBL := hide (below_trans HBL.out hb3)
  replace H8 := hide (H8.out.below hb3)
  clear hb3
  go_upto_region 6 with fail
  refine wp_gen (fun W => Wd2 W w.heap.size hi lo ∧ Below w.heap.size w W ∧ Wd2 W (p8) (dgl c 1) (dgl c 0) ∧ Wd2 W w3.heap.size (dgl x 1) (dgl x 0)) ⟨H3.out.below (below_allocs _ _), below_trans HBL.out (below_allocs _ _), H8.out.below (below_allocs _ _), wd2_new _ _ _ _⟩ ?_
  rintro W3 ⟨gH3, gHBL, gH8, gH10⟩
  generalize w3.heap.size = p10 at *
  replace H3 := hide gH3
  replace HBL := hide gHBL
  replace H8 := hide gH8
  have H10 := hide gH10
  clear gH3 gHBL gH8 gH10
  have hcH3 := H3.out.c0
  have hdH3 := H3.out.c1
  go_wp2_with fail
  refine (HBG.out _).mono ?_
  rintro e w4 ⟨v4, rfl, hv4, hb4⟩
  replace H3 := hide (H3.out.below hb4)
  replace HBL := hide (below_trans HBL.out hb4)
  replace H8 := hide (H8.out.below hb4)
  replace H10 := hide (H10.out.below hb4)
  have HV1 := hide hv4
  clear hv4
  clear hcH3 hdH3
  clear hb4
  go_wp2_with fail
  refine (HSR.out _ _ HV1.out).mono ?_
  rintro e w5 ⟨v5, rfl, hv5, hb5⟩
  replace H3 := hide (H3.out.below hb5)
  replace HBL := hide (below_trans HBL.out hb5)
  replace H8 := hide (H8.out.below hb5)
  replace H10 := hide (H10.out.below hb5)
  replace HV1 := hide (HV1.out.below hb5)
  have HV2 := hide hv5
  clear hv5
  clear hb5
  go_wp2_with fail
  refine (HSL.out _ _ HV2.out).mono ?_
  rintro e w6 ⟨v6, rfl, hv6, hb6⟩
  clear HV2
  replace H3 := hide (H3.out.below hb6)
  replace HBL := hide (below_trans HBL.out hb6)
  replace H8 := hide (H8.out.below hb6)
  replace H10 := hide (H10.out.below hb6)
  replace HV1 := hide (HV1.out.below hb6)
  have HV3 := hide hv6
  clear hv6
  clear hb6
  go_wp2_with fail
  refine (HSU.out _ _ _ HV1.out HV3.out).mono ?_
  rintro e w7 ⟨v7, rfl, hv7, hb7⟩
  clear HV1
  clear HV3
  replace H3 := hide (H3.out.below hb7)
  replace HBL := hide (below_trans HBL.out hb7)
  replace H8 := hide (H8.out.below hb7)
  replace H10 := hide (H10.out.below hb7)
  have HV4 := hide hv7
  clear hv7
  clear hb7
  go_wp2_with fail
  refine (HHX.out _ _ HV4.out).mono ?_
  rintro e w8 ⟨rfl, hb8⟩
  replace H3 := hide (H3.out.below hb8)
  replace HBL := hide (below_trans HBL.out hb8)
  replace H8 := hide (H8.out.below hb8)
  replace H10 := hide (H10.out.below hb8)
  replace HV4 := hide (HV4.out.below hb8)
  clear hb8
  go_wp2
  go_loop [14] (fun u => ∃ j : Nat, h0 ≤ j ∧ j ≤ n ∧ u = .string (textN 16 c j)) (fun u => n - lenS u)
  case atStart => exact ⟨h0, Nat.le_refl _, HH0.out, rfl⟩
  case round =>
    obtain ⟨j, hj0, hj, rfl⟩ := hrel
    have hjs := textN_size 16 c j
    have HJS := hide hjs
    by_cases hlt : j < n
    · have hlt' : ((textN 16 c j).size : Int) < (n : Int) := by omega
      have HPD := hide (HPAD.out j hj0)
      have hts : (textN 16 c j).size ≤ 32 := by omega
      have HJT := hide (textN_size 16 c (j + 1))
      clear hjs HPAD
      generalize hT : textN 16 c j = T at *
      clear hT
      go_wp2
      go_round
      case rel => exact ⟨j + 1, by omega, by omega, congrArg Value.string HPD.out.symm⟩
      case measure =>
        rw [show lenS (.string (⟨#[48]⟩ ++ T)) = j + 1 from by rw [← HPD.out]; exact HJT.out]
        show n - (j + 1) < n - T.size
        rw [HJS.out]
        omega
    · have hjn : j = n := by omega
      subst hjn
      have hlt' : ¬ ((textN 16 c j).size : Int) < (j : Int) := by omega
      clear hjs hj0 hj hlt HPAD HH0
      generalize textN 16 c j = T at *
      go_wp2_with fail
      refine (HWD.out _ _ HV4.out).mono ?_
      rintro e w9 ⟨rfl, hb9⟩
      clear HV4
      replace H3 := hide (H3.out.below hb9)
      replace HBL := hide (below_trans HBL.out hb9)
      replace H8 := hide (H8.out.below hb9)
      replace H10 := hide (H10.out.below hb9)
      clear hb9
      go_upto_region 14 with fail
      refine wp_gen (fun W => Wd2 W w.heap.size hi lo ∧ Below w.heap.size w W ∧ Wd2 W (p8) (dgl c 1) (dgl c 0) ∧ Wd2 W (p10) (dgl x 1) (dgl x 0) ∧ LiesF W w9.heap.size (dgl c)) ⟨H3.out.below (below_allocs _ _), below_trans HBL.out (below_allocs _ _), H8.out.below (below_allocs _ _), H10.out.below (below_allocs _ _), liesF_new _ _ _⟩ ?_
      rintro W9 ⟨gH3, gHBL, gH8, gH10, gH15⟩
      generalize w9.heap.size = p15 at *
      replace H3 := hide gH3
      replace HBL := hide gHBL
      replace H8 := hide gH8
      replace H10 := hide gH10
      have H15 := hide gH15
      clear gH3 gHBL gH8 gH10 gH15
      have hcH8 := H8.out.c0
      have hdH8 := H8.out.c1
      have hcH15 := H15.out.1
      go_upto_region 16 with fail
      clear hcH8 hdH8
      clear hcH15
      rcases HX.out with ⟨g1, g2, g3⟩ | ⟨g1, hT⟩
      · subst g2 g3
        have hne : (((s.size : Nat) : Int) != (j : Int)) = true := by rw [bne_iff_ne]; omega
        simp only [dgl_zero] at H10
        clear HX g1
        have hcH10 := H10.out.c0
        have hdH10 := H10.out.c1
        go_wp2_with fail
        refine (awake4_any _).mono ?_
        rintro e w' ⟨rfl, hb⟩
        replace HBL := hide (below_trans HBL.out hb)
        clear hb
        clear hcH10 hdH10
        go_wp2
        go_ret
        exact ⟨rfl, HBL.out⟩
      · have hne : (((s.size : Nat) : Int) != (j : Int)) = false := by rw [bne_eq_false_iff_eq]; omega
        have HT := hide hT
        have HC := hide (told_code (by omega) hT)
        have hsz : 0 < s.size := by omega
        clear HX hT
        go_wp2
        go_loop [17] (fun u => ∃ (k : Nat) (t : ByteArray), u = .string t ∧ Hid (Strip s k t) ∧ 0 < t.size) (fun u => lenS u)
        case atStart => exact ⟨0, s, rfl, strip_start s, hsz⟩
        case round =>
          obtain ⟨k, t, rfl, hst, hpos⟩ := hrel
          have htb : t.size ≤ 100 := by have := hst.out.sz; omega
          have htb' : (t.size : Int) ≤ 100 := by omega
          by_cases hone : 1 < t.size
          · have hone' : (1 : Int) < (t.size : Int) := by omega
            have hbt := byte_at t 0 hpos
            by_cases hz : byteN t 0 = 48
            · have h48 : (((byteN t 0 : Nat) : Int) == 48) = true := by rw [hz]; rfl
              have HS1 := hide (hst.out.step hone hz)
              have HSZ : Hid (lenS (.string (t.extract 1 t.size)) = t.size - 1) := by unfold Hid; show (t.extract 1 t.size).size = _; simp
              go_wp2
              go_round
              case rel => exact ⟨k + 1, _, rfl, HS1, by have := HSZ.out; have h2 : (t.extract 1 t.size).size = t.size - 1 := this; omega⟩
              case measure =>
                rw [HSZ.out]
                show t.size - 1 < t.size
                omega
            · have h48 : (((byteN t 0 : Nat) : Int) == 48) = false := by rw [beq_eq_false_iff_ne]; omega
              have HTT := hide (hst.out.told hpos (.inr hz) HT.out)
              have HRD : Hid (∀ w, Calls Try.prog 14 #[.string t, .int .i64 16] w fun e w' => e = .returned (.tuple #[.agg #[.int .u64 (dgl (x) 0 : Nat), .int .u64 (dgl (x) 1 : Nat), .int .u64 (dgl (x) 2 : Nat), .int .u64 (dgl (x) 3 : Nat), .int .u64 (dgl (x) 4 : Nat), .int .u64 (dgl (x) 5 : Nat), .int .u64 (dgl (x) 6 : Nat), .int .u64 (dgl (x) 7 : Nat)], .int .i64 f]) ∧ Below w.heap.size w w') := fun w => ref4Read_any t 16 x f (by decide) (by decide) (by omega) HTT.out w
              clear HTT hst
              go_wp2_with fail
              refine (HRD.out _).mono ?_
              rintro e w10 ⟨rfl, hb10⟩
              replace H3 := hide (H3.out.below hb10)
              replace HBL := hide (below_trans HBL.out hb10)
              replace H8 := hide (H8.out.below hb10)
              replace H10 := hide (H10.out.below hb10)
              replace H15 := hide (H15.out.below hb10)
              clear hb10
              go_upto_region 22 with fail
              refine wp_gen (fun W => Wd2 W w.heap.size hi lo ∧ Below w.heap.size w W ∧ Wd2 W (p8) (dgl c 1) (dgl c 0) ∧ Wd2 W (p10) (dgl x 1) (dgl x 0) ∧ LiesF W (p15) (dgl c) ∧ LiesF W w10.heap.size (dgl x)) ⟨H3.out.below (below_allocs _ _), below_trans HBL.out (below_allocs _ _), H8.out.below (below_allocs _ _), H10.out.below (below_allocs _ _), H15.out.below (below_allocs _ _), liesF_new _ _ _⟩ ?_
              rintro W10 ⟨gH3, gHBL, gH8, gH10, gH15, gH18⟩
              generalize w10.heap.size = p18 at *
              replace H3 := hide gH3
              replace HBL := hide gHBL
              replace H8 := hide gH8
              replace H10 := hide gH10
              replace H15 := hide gH15
              have H18 := hide gH18
              clear gH3 gHBL gH8 gH10 gH15 gH18
              rcases HC.out with g3 | ⟨g2, g3⟩
              · subst g3
                have hcH10 := H10.out.c0
                have hdH10 := H10.out.c1
                have hcH18 := H18.out.1
                go_wp2_with fail
                refine (awake4_any _).mono ?_
                rintro e w' ⟨rfl, hb⟩
                replace HBL := hide (below_trans HBL.out hb)
                clear hb
                clear hcH10 hdH10
                clear hcH18
                go_wp2
                go_ret
                exact ⟨rfl, HBL.out⟩
              · subst g2 g3
                simp only [dgl_zero] at H10
                have hcH10 := H10.out.c0
                have hdH10 := H10.out.c1
                go_wp2_with fail
                refine (awake4_any _).mono ?_
                rintro e w' ⟨rfl, hb⟩
                replace HBL := hide (below_trans HBL.out hb)
                clear hb
                clear hcH10 hdH10
                go_wp2
                go_ret
                exact ⟨rfl, HBL.out⟩
          · have hone' : ¬ (1 : Int) < (t.size : Int) := by omega
            have HTT := hide (hst.out.told hpos (.inl (by omega)) HT.out)
            have HRD : Hid (∀ w, Calls Try.prog 14 #[.string t, .int .i64 16] w fun e w' => e = .returned (.tuple #[.agg #[.int .u64 (dgl (x) 0 : Nat), .int .u64 (dgl (x) 1 : Nat), .int .u64 (dgl (x) 2 : Nat), .int .u64 (dgl (x) 3 : Nat), .int .u64 (dgl (x) 4 : Nat), .int .u64 (dgl (x) 5 : Nat), .int .u64 (dgl (x) 6 : Nat), .int .u64 (dgl (x) 7 : Nat)], .int .i64 f]) ∧ Below w.heap.size w w') := fun w => ref4Read_any t 16 x f (by decide) (by decide) (by omega) HTT.out w
            clear HTT hst
            go_wp2_with fail
            refine (HRD.out _).mono ?_
            rintro e w10 ⟨rfl, hb10⟩
            replace H3 := hide (H3.out.below hb10)
            replace HBL := hide (below_trans HBL.out hb10)
            replace H8 := hide (H8.out.below hb10)
            replace H10 := hide (H10.out.below hb10)
            replace H15 := hide (H15.out.below hb10)
            clear hb10
            go_upto_region 22 with fail
            refine wp_gen (fun W => Wd2 W w.heap.size hi lo ∧ Below w.heap.size w W ∧ Wd2 W (p8) (dgl c 1) (dgl c 0) ∧ Wd2 W (p10) (dgl x 1) (dgl x 0) ∧ LiesF W (p15) (dgl c) ∧ LiesF W w10.heap.size (dgl x)) ⟨H3.out.below (below_allocs _ _), below_trans HBL.out (below_allocs _ _), H8.out.below (below_allocs _ _), H10.out.below (below_allocs _ _), H15.out.below (below_allocs _ _), liesF_new _ _ _⟩ ?_
            rintro W10 ⟨gH3, gHBL, gH8, gH10, gH15, gH18⟩
            generalize w10.heap.size = p18 at *
            replace H3 := hide gH3
            replace HBL := hide gHBL
            replace H8 := hide gH8
            replace H10 := hide gH10
            replace H15 := hide gH15
            have H18 := hide gH18
            clear gH3 gHBL gH8 gH10 gH15 gH18
            rcases HC.out with g3 | ⟨g2, g3⟩
            · subst g3
              have hcH10 := H10.out.c0
              have hdH10 := H10.out.c1
              have hcH18 := H18.out.1
              go_wp2_with fail
              refine (awake4_any _).mono ?_
              rintro e w' ⟨rfl, hb⟩
              replace HBL := hide (below_trans HBL.out hb)
              clear hb
              clear hcH10 hdH10
              clear hcH18
              go_wp2
              go_ret
              exact ⟨rfl, HBL.out⟩
            · subst g2 g3
              simp only [dgl_zero] at H10
              have hcH10 := H10.out.c0
              have hdH10 := H10.out.c1
              go_wp2_with fail
              refine (awake4_any _).mono ?_
              rintro e w' ⟨rfl, hb⟩
              replace HBL := hide (below_trans HBL.out hb)
              clear hb
              clear hcH10 hdH10
              go_wp2
              go_ret
              exact ⟨rfl, HBL.out⟩

end Go.Proofs.Ytjklehlkgccmnaa

/- For all words, all ints and all texts the law radicandlaw04.DigitsWords returns true. -/
set_option linter.unusedVariables false
set_option linter.unusedSimpArgs false
set_option maxRecDepth 8000
namespace Go.Proofs.Ytjklehlkgccmnaa
open Go.RowKit Plain

theorem word_limbs (hi lo : Nat) (hh : hi < 18446744073709551616) (hl : lo < 18446744073709551616) :
    dgl (lo + 18446744073709551616 * hi) 0 = lo ∧ dgl (lo + 18446744073709551616 * hi) 1 = hi ∧ dgl (lo + 18446744073709551616 * hi) 2 = 0 ∧ dgl (lo + 18446744073709551616 * hi) 3 = 0 ∧ dgl (lo + 18446744073709551616 * hi) 4 = 0 ∧ dgl (lo + 18446744073709551616 * hi) 5 = 0 ∧ dgl (lo + 18446744073709551616 * hi) 6 = 0 ∧ dgl (lo + 18446744073709551616 * hi) 7 = 0 := by
  have h := (dig_two (β := 18446744073709551616) hl hh).2
  exact ⟨(h 0).symm, (h 1).symm, (h 2).symm, (h 3).symm, (h 4).symm, (h 5).symm, (h 6).symm, (h 7).symm⟩

theorem digitsWords_walk (hi lo : Nat) (hh : hi < 18446744073709551616) (hl : lo < 18446744073709551616) (b : Int) (h1 : -9223372036854775808 ≤ b) (h2 : b ≤ 9223372036854775807) (s : ByteArray) (hs : s.size ≤ 9223372036854775807) (w : World) :
    Calls Try.prog 6 #[.agg #[.int .u64 (hi : Nat), .int .u64 (lo : Nat)], .int .i64 b, .string s] w fun e w' => e = .returned (.bool true) ∧ Below w.heap.size w w' := by
  by_cases hlong : 100 < s.size
  · exact digitsWords_long hi lo b s hs hlong w
  by_cases hb : Wordly b
  · obtain ⟨n, rfl⟩ : ∃ n : Nat, b = 4 * (n : Int) := ⟨(b / 4).toNat, by have := hb.1; have := hb.2.2; omega⟩
    have hn1 : 1 ≤ n := by have := hb.1; omega
    have hn2 : n ≤ 32 := by have := hb.2.1; omega
    have hq32 : (16 : Nat) ^ 32 < QQ := by decide +kernel
    have hpn := lt_word n hn2
    obtain ⟨l0, l1, l2, l3, l4, l5, l6, l7⟩ := word_limbs hi lo hh hl
    have hW := fun w => word_some hi lo n hh hl hn1 hn2 w
    have ha : lo + 18446744073709551616 * hi < QQ := by unfold QQ; omega
    have hB := fun w => refBig_any _ ha w
    rw [l0, l1, l2, l3, l4, l5, l6, l7] at hB
    generalize lo + 18446744073709551616 * hi = a at *
    have hc : a % 16 ^ n < 16 ^ n := Nat.mod_lt _ (Nat.pow_pos (by decide))
    have hTT := told_text a n hn2
    rw [← textN_mod a n] at hTT
    have hW2 : ∀ w, Calls Try.prog 16 #[.agg #[.int .u64 (hi : Nat), .int .u64 (lo : Nat)], .int .i64 (4 * (n : Int))] w fun e w' => e = .returned (.string (textN 16 (a % 16 ^ n) n)) ∧ Below w.heap.size w w' := by
      intro w
      rw [textN_mod]
      exact hW w
    have e4 : (4 * (n : Int)) = ((4 * n : Nat) : Int) := by omega
    have hSR : ∀ v w, BigV w v a 40 → Calls Try.prog 20 #[v, .int .i64 (4 * (n : Int))] w fun e w' => ∃ v, e = .returned v ∧ BigV w' v (a / 2 ^ (4 * n)) 40 ∧ Below w.heap.size w w' := by
      intro v w h
      rw [e4]
      exact refShr_any a 40 (4 * n) v w h (by decide) (by omega)
    have hSL : ∀ v w, BigV w v (a / 2 ^ (4 * n)) 40 → Calls Try.prog 19 #[v, .int .i64 (4 * (n : Int))] w fun e w' => ∃ v, e = .returned v ∧ BigV w' v (a / 2 ^ (4 * n) * 2 ^ (4 * n)) 100 ∧ Below w.heap.size w w' := by
      intro v w h
      rw [e4]
      refine (refShl_any _ 40 (4 * n) v w h (by decide) (by omega)).mono ?_
      rintro e w' ⟨u, he, hu, hb⟩
      exact ⟨u, he, hu.mono (by omega), hb⟩
    have hSU : ∀ v u w, BigV w v a 40 → BigV w u (a / 2 ^ (4 * n) * 2 ^ (4 * n)) 100 → Calls Try.prog 18 #[v, u] w fun e w' => ∃ v, e = .returned v ∧ BigV w' v (a % 16 ^ n) 40 ∧ Below w.heap.size w w' := by
      intro v u w hv hu
      rw [← cut_mod a n]
      exact refSub_any a _ 40 100 v u w hv hu (by decide) (Nat.div_mul_le_self _ _)
    have key : ∀ (x : Nat) (f : Int), (∀ w, Calls Try.prog 17 #[.string s, .int .i64 (4 * (n : Int))] w fun e w' => e = .returned (.tuple #[.agg #[.int .u64 (dgl x 1 : Nat), .int .u64 (dgl x 0 : Nat)], .int .i64 f]) ∧ Below w.heap.size w w') →
        ((s.size ≠ n ∧ x = 0 ∧ f = 2) ∨ (s.size = n ∧ Told (goodN 16 s s.size) 16 s x f)) →
        Calls Try.prog 6 #[.agg #[.int .u64 (hi : Nat), .int .u64 (lo : Nat)], .int .i64 (4 * (n : Int)), .string s] w fun e w' => e = .returned (.bool true) ∧ Below w.heap.size w w' := by
      intro x f hPS hX
      exact digitsWords_some hi lo n a (a % 16 ^ n) x (a / 2 ^ (4 * n)) (a / 2 ^ (4 * n) * 2 ^ (4 * n)) (hexN (a % 16 ^ n)) f s (by omega) hn1 hn2 w hW2
        (fun w => parseWord_some _ n _ 0 hn1 hn2 (textN_size 16 _ n) hTT w) hPS hB hSR hSL hSU
        (fun v w h => ref4Hex_any _ (by omega) v w h) (fun v w h => refWide_any _ 40 v w h)
        (fun j hj => textN_pad (Nat.lt_of_lt_of_le (hexN_lt _) (Nat.pow_le_pow_right (by decide) hj))) (hexN_small hc hn1) hX
    by_cases hsn : s.size = n
    · obtain ⟨x, f, hT⟩ := told_ex (goodN 16 s s.size) 16 s
      exact key x f (fun w => parseWord_some s n x f hn1 hn2 hsn hT w) (.inr ⟨hsn, hT⟩)
    · refine key 0 2 (fun w => ?_) (.inl ⟨hsn, rfl, rfl⟩)
      simp only [dgl_zero]
      exact parseWord_form s n hn1 hn2 hsn (by omega) w
  · exact digitsWords_arg hi lo b s (by omega) hb h1 h2 w

end Go.Proofs.Ytjklehlkgccmnaa

/- For all words, all ints and all texts the law radicandlaw04.DigitsWords returns true, and its arguments read afterwards as they read before. No condition. -/
namespace Go.Proofs.Ytjklehlkgccmnaa.digitsWords
open Go.ChangeShapes Go.WideShapes Go.ChangeAt Go.RowKit Go.Proofs.Ytjklehlkgccmnaa

theorem own : ownKnob Try.prog.godebug = none := by kernel_rfl
theorem laidOut : laidOutB Try.prog = true := by kernel_rfl

set_option maxRecDepth 100000 in
theorem lifted (os : Os) (started : os.Started) (H : Type) (enc : TypeId × Value → H) :
    ReturnsInHanded {} Try.checked os 6 .any (Rows.digitsWordsSpec.pre6 enc Try.prog Try.f6 Rows.digitsWordsRow.domain false) (Rows.digitsWordsSpec.post enc Try.prog Try.f6 false true false false) := by
  refine returnsInHanded_of_change (C := Try.checked) own started (by kernel_rfl) Try.func6
    (ChangeSpec.witness6 (enc := enc) (C := Try.checked) false ⟨#[], #[.agg #[.int .u64 0, .int .u64 0], .int .i64 0, .string ⟨#[]⟩], []⟩ 8 (by kernel_rfl) (by kernel_rfl) (by kernel_rfl) (by kernel_rfl)) ?_
  intro W base args ds gs before hval0 hW hcnd _
  have hval : ∀ (j : Nat) t v, Try.f6.params[j]? = some t → args[j]? = some v → Value.okWide Try.prog W .any base t v := hval0
  have hW' := hW
  obtain ⟨p, q, hA0, hV, rfl, hfz, hnd⟩ := hW
  have hA : DataW.TrodAll enc Try.prog W 0 (fun _ => true) true Try.f6.params.toList args.toList ds p := hA0
  rw [Try.params6] at hA hval
  obtain ⟨v0, vs0, d0, ds0, p0, q0, hargs, rfl, rfl, h0, r0⟩ := trodAll_cons hA
  obtain ⟨v1, vs1, d1, ds1, p1, q1, rfl, rfl, rfl, h1, r1⟩ := trodAll_cons r0
  obtain ⟨v2, vs2, d2, ds2, p2, q2, rfl, rfl, rfl, h2, r2⟩ := trodAll_cons r1
  obtain ⟨rfl, rfl, rfl⟩ := trodAll_nil r2
  obtain rfl : args = #[v0, v1, v2] := by cases args; simp_all
  obtain ⟨rfl, rfl⟩ := trodVars_none hV
  have k0 := h0
  have lt0 : ∀ x ∈ p0, x.block < W.heap.size := by obtain ⟨m, hm⟩ := k0; exact DataW.trod_lt m _ _ _ hm
  have k1 := h1
  have lt1 : ∀ x ∈ p1, x.block < W.heap.size := by obtain ⟨m, hm⟩ := k1; exact DataW.trod_lt m _ _ _ hm
  have k2 := h2
  have lt2 : ∀ x ∈ p2, x.block < W.heap.size := by obtain ⟨m, hm⟩ := k2; exact DataW.trod_lt m _ _ _ hm
  obtain ⟨x0, y0, hx0, hy0, rfl⟩ := word_open (hval 0 39 v0 rfl rfl) h0
  obtain ⟨a1, rfl, rfl, rfl, wf1⟩ := open_int Try.underlying3 (hval 1 3 v1 rfl rfl) h1
  obtain ⟨s2, rfl, rfl, rfl, hm2⟩ := Go.ChangeMaps.open_string Try.underlying9 (hval 2 9 v2 rfl rfl) h2
  clear hA0 hval0
  have hb1 := i64_bd wf1
  have hs2 : s2.size ≤ 9223372036854775807 := by unfold maxLen at hm2; omega
  refine (digitsWords_walk x0 y0 hx0 hy0 a1 hb1.1 hb1.2 s2 hs2 W).mono fun e W' ⟨he, bel⟩ => ?_
  subst he
  exact ⟨_, rfl, _, _, _, [], _, [], hW', trodAll_mk1 (shut_bool Try.underlying4 _), (trodAll_cons_mk (Below.trod laidOut (by kernel_rfl) (of_decide_eq_true (by kernel_rfl)) k0 bel lt0) (trodAll_cons_mk (Below.trod laidOut (by kernel_rfl) (of_decide_eq_true (by kernel_rfl)) k1 bel lt1) (trodAll_cons_mk (Below.trod laidOut (by kernel_rfl) (of_decide_eq_true (by kernel_rfl)) k2 bel lt2) trodAll_mk0))), rfl, bel.frame _, fun h => by cases h⟩

theorem over : Rows.digitsWordsRow.holds Try.pinned (OpenSpec.ofChange Rows.digitsWordsSpec) :=
  OpenClaim.holds_of_wide 6 Try.f6 rfl rfl rfl rfl rfl rfl rfl ⟨rfl, rfl, rfl, rfl, rfl⟩ rfl rfl rfl rfl rfl (by kernel_rfl) Try.func6 (by kernel_rfl)
    (of_decide_eq_true (by kernel_rfl)) (by unfold Func.isWrapper; first | (rw [if_pos (by decide +kernel)]; kernel_rfl) | (rw [if_neg (by decide +kernel)]; exact ⟨rfl, rfl⟩))
    (fun os started H enc _ => lifted os started H enc)

theorem proved : Rows.DigitsWordsSaid := over
#print axioms proved
end Go.Proofs.Ytjklehlkgccmnaa.digitsWords

