/- For all wides and all ints the law radicandlaw11.Radix2Fractions returns true, and its arguments read afterwards as they read before. No condition. -/
import Derived.Test.YtmbbhagjfgjhgaaPartAP
import Derived.Test.YtmbbhagjfgjhgaaRows
import Derived.WalkKit
import Derived.ProofKit
import Derived.OpenShut
import Derived.ShutString
import Derived.ChangeOld
import Derived.Below
/- For all wides and all ints the law radicandlaw11.Radix2Fractions returns true. -/
set_option linter.unusedVariables false
set_option linter.unusedSimpArgs false
set_option maxRecDepth 8000
namespace Go.Proofs.Ytmbbhagjfgjhgaa
open Go.RowKit Plain

set_option maxHeartbeats 4000000 in
theorem fractions_O (n d x r s X : Nat) (by_ m : Int) (z ov : Bool)
    (hx0 : ∀ w, (Op.equalIn 10000 24 (.agg #[.int .u64 (dgl (x) 0 : Nat), .int .u64 (dgl (x) 1 : Nat), .int .u64 (dgl (x) 2 : Nat), .int .u64 (dgl (x) 3 : Nat), .int .u64 (dgl (x) 4 : Nat), .int .u64 (dgl (x) 5 : Nat), .int .u64 (dgl (x) 6 : Nat), .int .u64 (dgl (x) 7 : Nat)]) (.agg #[.int .u64 0, .int .u64 0, .int .u64 0, .int .u64 0, .int .u64 0, .int .u64 0, .int .u64 0, .int .u64 0])).run Try.prog w = .ok true w)
    (hby : by_ < 0 ∨ 100 < by_)
    (HFR : Hid (∀ w, Calls Try.prog 28 #[.agg #[.int .u64 (dgl (n) 0 : Nat), .int .u64 (dgl (n) 1 : Nat), .int .u64 (dgl (n) 2 : Nat), .int .u64 (dgl (n) 3 : Nat), .int .u64 (dgl (n) 4 : Nat), .int .u64 (dgl (n) 5 : Nat), .int .u64 (dgl (n) 6 : Nat), .int .u64 (dgl (n) 7 : Nat)], .agg #[.int .u64 (dgl (d) 0 : Nat), .int .u64 (dgl (d) 1 : Nat), .int .u64 (dgl (d) 2 : Nat), .int .u64 (dgl (d) 3 : Nat), .int .u64 (dgl (d) 4 : Nat), .int .u64 (dgl (d) 5 : Nat), .int .u64 (dgl (d) 6 : Nat), .int .u64 (dgl (d) 7 : Nat)], .int .i64 by_] w fun e w' => e = .returned (.tuple #[.agg #[.int .u64 (dgl (x) 0 : Nat), .int .u64 (dgl (x) 1 : Nat), .int .u64 (dgl (x) 2 : Nat), .int .u64 (dgl (x) 3 : Nat), .int .u64 (dgl (x) 4 : Nat), .int .u64 (dgl (x) 5 : Nat), .int .u64 (dgl (x) 6 : Nat), .int .u64 (dgl (x) 7 : Nat)], .bool false, .int .i64 4]) ∧ Below w.heap.size w w'))
    (HAW : Hid (∀ w, Calls Try.prog 17 #[] w fun e w' => e = .returned (.bool true) ∧ Below w.heap.size w w')) (w : World) :
    Calls Try.prog 6 #[.agg #[.int .u64 (dgl (n) 0 : Nat), .int .u64 (dgl (n) 1 : Nat), .int .u64 (dgl (n) 2 : Nat), .int .u64 (dgl (n) 3 : Nat), .int .u64 (dgl (n) 4 : Nat), .int .u64 (dgl (n) 5 : Nat), .int .u64 (dgl (n) 6 : Nat), .int .u64 (dgl (n) 7 : Nat)], .agg #[.int .u64 (dgl (d) 0 : Nat), .int .u64 (dgl (d) 1 : Nat), .int .u64 (dgl (d) 2 : Nat), .int .u64 (dgl (d) 3 : Nat), .int .u64 (dgl (d) 4 : Nat), .int .u64 (dgl (d) 5 : Nat), .int .u64 (dgl (d) 6 : Nat), .int .u64 (dgl (d) 7 : Nat)], .int .i64 by_] w fun e w' => e = .returned (.bool true) ∧ Below w.heap.size w w' := by
  have HS0 := hide (twSt_start n d w 24 24)
  rcases hby with hby | hby
  · go_enter Try.func6, Try.ntmps6
    have hca := HS0.out.la.1
    have hcb := HS0.out.lb.1
    go_wp2_with fail
    refine (HFR.out _).mono ?_
    rintro e w1 ⟨rfl, hb1⟩
    replace HS0 := hide (HS0.out.below hb1)
    clear hb1 hca hcb HFR
    go_upto_region 2 with fail
    refine wp_gen (fun W => TwSt n d w W ∧ LiesF W w1.heap.size (dgl x)) ⟨HS0.out.below (below_allocs _ _), liesF_new _ _ _⟩ ?_
    clear HS0
    generalize w1.heap.size = p7 at *
    rintro W2 h2
    have HS := hide h2
    clear h2
    have hcx := HS.out.2.1
    go_wp2_with fail
    refine (HAW.out _).mono ?_
    rintro e w9 ⟨rfl, hb9⟩
    replace HS := hide (show TwSt n d w w9 ∧ LiesF w9 p7 (dgl x) from ⟨HS.out.1.below hb9, HS.out.2.below hb9⟩)
    clear hb9 hcx
    have HB := hide HS.out.1.bel
    clear HS
    go_wp2
    go_ret
    exact ⟨rfl, HB.out⟩
  · have hby2 : ¬ by_ < 0 := by omega
    go_enter Try.func6, Try.ntmps6
    have hca := HS0.out.la.1
    have hcb := HS0.out.lb.1
    go_wp2_with fail
    refine (HFR.out _).mono ?_
    rintro e w1 ⟨rfl, hb1⟩
    replace HS0 := hide (HS0.out.below hb1)
    clear hb1 hca hcb HFR
    go_upto_region 2 with fail
    refine wp_gen (fun W => TwSt n d w W ∧ LiesF W w1.heap.size (dgl x)) ⟨HS0.out.below (below_allocs _ _), liesF_new _ _ _⟩ ?_
    clear HS0
    generalize w1.heap.size = p7 at *
    rintro W2 h2
    have HS := hide h2
    clear h2
    have hcx := HS.out.2.1
    go_wp2_with fail
    refine (HAW.out _).mono ?_
    rintro e w9 ⟨rfl, hb9⟩
    replace HS := hide (show TwSt n d w w9 ∧ LiesF w9 p7 (dgl x) from ⟨HS.out.1.below hb9, HS.out.2.below hb9⟩)
    clear hb9 hcx
    have HB := hide HS.out.1.bel
    clear HS
    go_wp2
    go_ret
    exact ⟨rfl, HB.out⟩

set_option maxHeartbeats 4000000 in
theorem fractions_E (n d x r s X : Nat) (by_ m : Int) (z ov : Bool)
    (hx0 : ∀ w, (Op.equalIn 10000 24 (.agg #[.int .u64 (dgl (x) 0 : Nat), .int .u64 (dgl (x) 1 : Nat), .int .u64 (dgl (x) 2 : Nat), .int .u64 (dgl (x) 3 : Nat), .int .u64 (dgl (x) 4 : Nat), .int .u64 (dgl (x) 5 : Nat), .int .u64 (dgl (x) 6 : Nat), .int .u64 (dgl (x) 7 : Nat)]) (.agg #[.int .u64 0, .int .u64 0, .int .u64 0, .int .u64 0, .int .u64 0, .int .u64 0, .int .u64 0, .int .u64 0])).run Try.prog w = .ok true w)
    (hb0 : ¬ by_ < 0) (hb1 : ¬ 100 < by_)
    (hm : (m == 0) = false)
    (HFR : Hid (∀ w, Calls Try.prog 28 #[.agg #[.int .u64 (dgl (n) 0 : Nat), .int .u64 (dgl (n) 1 : Nat), .int .u64 (dgl (n) 2 : Nat), .int .u64 (dgl (n) 3 : Nat), .int .u64 (dgl (n) 4 : Nat), .int .u64 (dgl (n) 5 : Nat), .int .u64 (dgl (n) 6 : Nat), .int .u64 (dgl (n) 7 : Nat)], .agg #[.int .u64 (dgl (d) 0 : Nat), .int .u64 (dgl (d) 1 : Nat), .int .u64 (dgl (d) 2 : Nat), .int .u64 (dgl (d) 3 : Nat), .int .u64 (dgl (d) 4 : Nat), .int .u64 (dgl (d) 5 : Nat), .int .u64 (dgl (d) 6 : Nat), .int .u64 (dgl (d) 7 : Nat)], .int .i64 by_] w fun e w' => e = .returned (.tuple #[.agg #[.int .u64 (dgl (x) 0 : Nat), .int .u64 (dgl (x) 1 : Nat), .int .u64 (dgl (x) 2 : Nat), .int .u64 (dgl (x) 3 : Nat), .int .u64 (dgl (x) 4 : Nat), .int .u64 (dgl (x) 5 : Nat), .int .u64 (dgl (x) 6 : Nat), .int .u64 (dgl (x) 7 : Nat)], .bool false, .int .i64 m]) ∧ Below w.heap.size w w'))
    (HBN : Hid (∀ w, Calls Try.prog 20 #[.agg #[.int .u64 (dgl (n) 0 : Nat), .int .u64 (dgl (n) 1 : Nat), .int .u64 (dgl (n) 2 : Nat), .int .u64 (dgl (n) 3 : Nat), .int .u64 (dgl (n) 4 : Nat), .int .u64 (dgl (n) 5 : Nat), .int .u64 (dgl (n) 6 : Nat), .int .u64 (dgl (n) 7 : Nat)]] w fun e w' => ∃ v, e = .returned v ∧ BigV w' v n 40 ∧ Below w.heap.size w w'))
    (HSL : Hid (∀ u w, BigV w u n 40 → Calls Try.prog 24 #[u, .int .i64 by_] w fun e w' => ∃ v', e = .returned v' ∧ BigV w' v' s 50 ∧ Below w.heap.size w w'))
    (HWI : Hid (∀ u w, BigV w u (s) 50 → Calls Try.prog 25 #[u] w fun e w' => e = .returned (.tuple #[.agg #[.int .u64 (dgl (X) 0 : Nat), .int .u64 (dgl (X) 1 : Nat), .int .u64 (dgl (X) 2 : Nat), .int .u64 (dgl (X) 3 : Nat), .int .u64 (dgl (X) 4 : Nat), .int .u64 (dgl (X) 5 : Nat), .int .u64 (dgl (X) 6 : Nat), .int .u64 (dgl (X) 7 : Nat)], .bool ov]) ∧ Below w.heap.size w w'))
    (HM : Hid (∀ w, Calls Try.prog 15 #[.agg #[.int .u64 (dgl (X) 0 : Nat), .int .u64 (dgl (X) 1 : Nat), .int .u64 (dgl (X) 2 : Nat), .int .u64 (dgl (X) 3 : Nat), .int .u64 (dgl (X) 4 : Nat), .int .u64 (dgl (X) 5 : Nat), .int .u64 (dgl (X) 6 : Nat), .int .u64 (dgl (X) 7 : Nat)], .agg #[.int .u64 (dgl (d) 0 : Nat), .int .u64 (dgl (d) 1 : Nat), .int .u64 (dgl (d) 2 : Nat), .int .u64 (dgl (d) 3 : Nat), .int .u64 (dgl (d) 4 : Nat), .int .u64 (dgl (d) 5 : Nat), .int .u64 (dgl (d) 6 : Nat), .int .u64 (dgl (d) 7 : Nat)]] w fun e w' => e = .returned (.int .i64 m) ∧ Below w.heap.size w w'))
    (HAW : Hid (∀ w, Calls Try.prog 17 #[] w fun e w' => e = .returned (.bool true) ∧ Below w.heap.size w w')) (w : World) :
    Calls Try.prog 6 #[.agg #[.int .u64 (dgl (n) 0 : Nat), .int .u64 (dgl (n) 1 : Nat), .int .u64 (dgl (n) 2 : Nat), .int .u64 (dgl (n) 3 : Nat), .int .u64 (dgl (n) 4 : Nat), .int .u64 (dgl (n) 5 : Nat), .int .u64 (dgl (n) 6 : Nat), .int .u64 (dgl (n) 7 : Nat)], .agg #[.int .u64 (dgl (d) 0 : Nat), .int .u64 (dgl (d) 1 : Nat), .int .u64 (dgl (d) 2 : Nat), .int .u64 (dgl (d) 3 : Nat), .int .u64 (dgl (d) 4 : Nat), .int .u64 (dgl (d) 5 : Nat), .int .u64 (dgl (d) 6 : Nat), .int .u64 (dgl (d) 7 : Nat)], .int .i64 by_] w fun e w' => e = .returned (.bool true) ∧ Below w.heap.size w w' := by
  have HS0 := hide (twSt_start n d w 24 24)
  go_enter Try.func6, Try.ntmps6
  have hca := HS0.out.la.1
  have hcb := HS0.out.lb.1
  go_wp2_with fail
  refine (HFR.out _).mono ?_
  rintro e w1 ⟨rfl, hb1⟩
  replace HS0 := hide (HS0.out.below hb1)
  clear hb1 hca hcb HFR
  go_upto_region 2 with fail
  refine wp_gen (fun W => TwSt n d w W ∧ LiesF W w1.heap.size (dgl x)) ⟨HS0.out.below (below_allocs _ _), liesF_new _ _ _⟩ ?_
  clear HS0
  generalize w1.heap.size = p7 at *
  rintro W2 h2
  have HS := hide h2
  clear h2
  have hca := HS.out.1.la.1
  have hcb := HS.out.1.lb.1
  have hcx := HS.out.2.1
  go_wp2_with fail
  refine (HBN.out _).mono ?_
  rintro e w2 ⟨u2, rfl, hu2, hb2⟩
  replace HS := hide (show TwSt n d w w2 ∧ LiesF w2 p7 (dgl x) from ⟨HS.out.1.below hb2, HS.out.2.below hb2⟩)
  clear hb2
  clear hca hcb hcx
  go_wp2_with fail
  refine (HSL.out _ _ hu2).mono ?_
  rintro e w3 ⟨u3, rfl, hu3, hb3⟩
  replace HS := hide (show TwSt n d w w3 ∧ LiesF w3 p7 (dgl x) from ⟨HS.out.1.below hb3, HS.out.2.below hb3⟩)
  clear hb3
  clear hu2
  go_wp2_with fail
  refine (HWI.out _ _ hu3).mono ?_
  rintro e w4 ⟨rfl, hb4⟩
  replace HS := hide (show TwSt n d w w4 ∧ LiesF w4 p7 (dgl x) from ⟨HS.out.1.below hb4, HS.out.2.below hb4⟩)
  clear hb4
  clear hu3
  go_upto_region 5 with fail
  refine wp_gen (fun W => TwSt n d w W ∧ LiesF W p7 (dgl x) ∧ LiesF W w4.heap.size (dgl X)) ⟨HS.out.1.below (below_allocs _ _), HS.out.2.below (below_allocs _ _), liesF_new _ _ _⟩ ?_
  clear HS
  generalize w4.heap.size = p10 at *
  rintro W5 h5
  have HS := hide h5
  clear h5
  have hca := HS.out.1.la.1
  have hcb := HS.out.1.lb.1
  have hcx := HS.out.2.1.1
  have hcX := HS.out.2.2.1
  go_wp2_with fail
  refine (HM.out _).mono ?_
  rintro e w6 ⟨rfl, hb6⟩
  replace HS := hide (show TwSt n d w w6 ∧ LiesF w6 p7 (dgl x) ∧ LiesF w6 p10 (dgl X) from ⟨HS.out.1.below hb6, HS.out.2.1.below hb6, HS.out.2.2.below hb6⟩)
  clear hb6
  clear hca hcb hcx hcX
  have hca := HS.out.1.la.1
  have hcb := HS.out.1.lb.1
  have hcx := HS.out.2.1.1
  have hcX := HS.out.2.2.1
  go_wp2_with fail
  refine (HAW.out _).mono ?_
  rintro e w9 ⟨rfl, hb9⟩
  replace HS := hide (show TwSt n d w w9 ∧ LiesF w9 p7 (dgl x) ∧ LiesF w9 p10 (dgl X) from ⟨HS.out.1.below hb9, HS.out.2.1.below hb9, HS.out.2.2.below hb9⟩)
  clear hb9
  clear hca hcb hcx hcX
  have HB := hide HS.out.1.bel
  clear HS
  go_wp2
  go_ret
  exact ⟨rfl, HB.out⟩

set_option maxHeartbeats 4000000 in
theorem fractions_Y (n d x r s X : Nat) (by_ m : Int) (z ov : Bool)
    (hb0 : ¬ by_ < 0) (hb1 : ¬ 100 < by_)
    (hsx : ∀ w, (Op.equalIn 10000 24 (.agg #[.int .u64 (dgl (x) 0 : Nat), .int .u64 (dgl (x) 1 : Nat), .int .u64 (dgl (x) 2 : Nat), .int .u64 (dgl (x) 3 : Nat), .int .u64 (dgl (x) 4 : Nat), .int .u64 (dgl (x) 5 : Nat), .int .u64 (dgl (x) 6 : Nat), .int .u64 (dgl (x) 7 : Nat)]) (.agg #[.int .u64 (dgl (x) 0 : Nat), .int .u64 (dgl (x) 1 : Nat), .int .u64 (dgl (x) 2 : Nat), .int .u64 (dgl (x) 3 : Nat), .int .u64 (dgl (x) 4 : Nat), .int .u64 (dgl (x) 5 : Nat), .int .u64 (dgl (x) 6 : Nat), .int .u64 (dgl (x) 7 : Nat)])).run Try.prog w = .ok true w)
    (hrz : ∀ w, (Op.equalIn 10000 24 (.agg #[.int .u64 (dgl (r) 0 : Nat), .int .u64 (dgl (r) 1 : Nat), .int .u64 (dgl (r) 2 : Nat), .int .u64 (dgl (r) 3 : Nat), .int .u64 (dgl (r) 4 : Nat), .int .u64 (dgl (r) 5 : Nat), .int .u64 (dgl (r) 6 : Nat), .int .u64 (dgl (r) 7 : Nat)]) (.agg #[.int .u64 0, .int .u64 0, .int .u64 0, .int .u64 0, .int .u64 0, .int .u64 0, .int .u64 0, .int .u64 0])).run Try.prog w = .ok z w)
    (HFR : Hid (∀ w, Calls Try.prog 28 #[.agg #[.int .u64 (dgl (n) 0 : Nat), .int .u64 (dgl (n) 1 : Nat), .int .u64 (dgl (n) 2 : Nat), .int .u64 (dgl (n) 3 : Nat), .int .u64 (dgl (n) 4 : Nat), .int .u64 (dgl (n) 5 : Nat), .int .u64 (dgl (n) 6 : Nat), .int .u64 (dgl (n) 7 : Nat)], .agg #[.int .u64 (dgl (d) 0 : Nat), .int .u64 (dgl (d) 1 : Nat), .int .u64 (dgl (d) 2 : Nat), .int .u64 (dgl (d) 3 : Nat), .int .u64 (dgl (d) 4 : Nat), .int .u64 (dgl (d) 5 : Nat), .int .u64 (dgl (d) 6 : Nat), .int .u64 (dgl (d) 7 : Nat)], .int .i64 by_] w fun e w' => e = .returned (.tuple #[.agg #[.int .u64 (dgl (x) 0 : Nat), .int .u64 (dgl (x) 1 : Nat), .int .u64 (dgl (x) 2 : Nat), .int .u64 (dgl (x) 3 : Nat), .int .u64 (dgl (x) 4 : Nat), .int .u64 (dgl (x) 5 : Nat), .int .u64 (dgl (x) 6 : Nat), .int .u64 (dgl (x) 7 : Nat)], .bool (!z), .int .i64 0]) ∧ Below w.heap.size w w'))
    (HBN : Hid (∀ w, Calls Try.prog 20 #[.agg #[.int .u64 (dgl (n) 0 : Nat), .int .u64 (dgl (n) 1 : Nat), .int .u64 (dgl (n) 2 : Nat), .int .u64 (dgl (n) 3 : Nat), .int .u64 (dgl (n) 4 : Nat), .int .u64 (dgl (n) 5 : Nat), .int .u64 (dgl (n) 6 : Nat), .int .u64 (dgl (n) 7 : Nat)]] w fun e w' => ∃ v, e = .returned v ∧ BigV w' v n 40 ∧ Below w.heap.size w w'))
    (HSL : Hid (∀ u w, BigV w u n 40 → Calls Try.prog 24 #[u, .int .i64 by_] w fun e w' => ∃ v', e = .returned v' ∧ BigV w' v' s 50 ∧ Below w.heap.size w w'))
    (HWI : Hid (∀ u w, BigV w u (s) 50 → Calls Try.prog 25 #[u] w fun e w' => e = .returned (.tuple #[.agg #[.int .u64 (dgl (X) 0 : Nat), .int .u64 (dgl (X) 1 : Nat), .int .u64 (dgl (X) 2 : Nat), .int .u64 (dgl (X) 3 : Nat), .int .u64 (dgl (X) 4 : Nat), .int .u64 (dgl (X) 5 : Nat), .int .u64 (dgl (X) 6 : Nat), .int .u64 (dgl (X) 7 : Nat)], .bool ov]) ∧ Below w.heap.size w w'))
    (HM : Hid (∀ w, Calls Try.prog 15 #[.agg #[.int .u64 (dgl (X) 0 : Nat), .int .u64 (dgl (X) 1 : Nat), .int .u64 (dgl (X) 2 : Nat), .int .u64 (dgl (X) 3 : Nat), .int .u64 (dgl (X) 4 : Nat), .int .u64 (dgl (X) 5 : Nat), .int .u64 (dgl (X) 6 : Nat), .int .u64 (dgl (X) 7 : Nat)], .agg #[.int .u64 (dgl (d) 0 : Nat), .int .u64 (dgl (d) 1 : Nat), .int .u64 (dgl (d) 2 : Nat), .int .u64 (dgl (d) 3 : Nat), .int .u64 (dgl (d) 4 : Nat), .int .u64 (dgl (d) 5 : Nat), .int .u64 (dgl (d) 6 : Nat), .int .u64 (dgl (d) 7 : Nat)]] w fun e w' => e = .returned (.int .i64 0) ∧ Below w.heap.size w w'))
    (HDV : Hid (∀ w, Calls Try.prog 19 #[.agg #[.int .u64 (dgl (X) 0 : Nat), .int .u64 (dgl (X) 1 : Nat), .int .u64 (dgl (X) 2 : Nat), .int .u64 (dgl (X) 3 : Nat), .int .u64 (dgl (X) 4 : Nat), .int .u64 (dgl (X) 5 : Nat), .int .u64 (dgl (X) 6 : Nat), .int .u64 (dgl (X) 7 : Nat)], .agg #[.int .u64 (dgl (d) 0 : Nat), .int .u64 (dgl (d) 1 : Nat), .int .u64 (dgl (d) 2 : Nat), .int .u64 (dgl (d) 3 : Nat), .int .u64 (dgl (d) 4 : Nat), .int .u64 (dgl (d) 5 : Nat), .int .u64 (dgl (d) 6 : Nat), .int .u64 (dgl (d) 7 : Nat)]] w fun e w' => e = .returned (.tuple #[.agg #[.int .u64 (dgl (x) 0 : Nat), .int .u64 (dgl (x) 1 : Nat), .int .u64 (dgl (x) 2 : Nat), .int .u64 (dgl (x) 3 : Nat), .int .u64 (dgl (x) 4 : Nat), .int .u64 (dgl (x) 5 : Nat), .int .u64 (dgl (x) 6 : Nat), .int .u64 (dgl (x) 7 : Nat)], .agg #[.int .u64 (dgl (r) 0 : Nat), .int .u64 (dgl (r) 1 : Nat), .int .u64 (dgl (r) 2 : Nat), .int .u64 (dgl (r) 3 : Nat), .int .u64 (dgl (r) 4 : Nat), .int .u64 (dgl (r) 5 : Nat), .int .u64 (dgl (r) 6 : Nat), .int .u64 (dgl (r) 7 : Nat)]]) ∧ Below w.heap.size w w'))
    (HAW : Hid (∀ w, Calls Try.prog 17 #[] w fun e w' => e = .returned (.bool true) ∧ Below w.heap.size w w')) (w : World) :
    Calls Try.prog 6 #[.agg #[.int .u64 (dgl (n) 0 : Nat), .int .u64 (dgl (n) 1 : Nat), .int .u64 (dgl (n) 2 : Nat), .int .u64 (dgl (n) 3 : Nat), .int .u64 (dgl (n) 4 : Nat), .int .u64 (dgl (n) 5 : Nat), .int .u64 (dgl (n) 6 : Nat), .int .u64 (dgl (n) 7 : Nat)], .agg #[.int .u64 (dgl (d) 0 : Nat), .int .u64 (dgl (d) 1 : Nat), .int .u64 (dgl (d) 2 : Nat), .int .u64 (dgl (d) 3 : Nat), .int .u64 (dgl (d) 4 : Nat), .int .u64 (dgl (d) 5 : Nat), .int .u64 (dgl (d) 6 : Nat), .int .u64 (dgl (d) 7 : Nat)], .int .i64 by_] w fun e w' => e = .returned (.bool true) ∧ Below w.heap.size w w' := by
  have HS0 := hide (twSt_start n d w 24 24)
  go_enter Try.func6, Try.ntmps6
  have hca := HS0.out.la.1
  have hcb := HS0.out.lb.1
  go_wp2_with fail
  refine (HFR.out _).mono ?_
  rintro e w1 ⟨rfl, hb1⟩
  replace HS0 := hide (HS0.out.below hb1)
  clear hb1 hca hcb HFR
  go_upto_region 2 with fail
  refine wp_gen (fun W => TwSt n d w W ∧ LiesF W w1.heap.size (dgl x)) ⟨HS0.out.below (below_allocs _ _), liesF_new _ _ _⟩ ?_
  clear HS0
  generalize w1.heap.size = p7 at *
  rintro W2 h2
  have HS := hide h2
  clear h2
  have hca := HS.out.1.la.1
  have hcb := HS.out.1.lb.1
  have hcx := HS.out.2.1
  go_wp2_with fail
  refine (HBN.out _).mono ?_
  rintro e w2 ⟨u2, rfl, hu2, hb2⟩
  replace HS := hide (show TwSt n d w w2 ∧ LiesF w2 p7 (dgl x) from ⟨HS.out.1.below hb2, HS.out.2.below hb2⟩)
  clear hb2
  clear hca hcb hcx
  go_wp2_with fail
  refine (HSL.out _ _ hu2).mono ?_
  rintro e w3 ⟨u3, rfl, hu3, hb3⟩
  replace HS := hide (show TwSt n d w w3 ∧ LiesF w3 p7 (dgl x) from ⟨HS.out.1.below hb3, HS.out.2.below hb3⟩)
  clear hb3
  clear hu2
  go_wp2_with fail
  refine (HWI.out _ _ hu3).mono ?_
  rintro e w4 ⟨rfl, hb4⟩
  replace HS := hide (show TwSt n d w w4 ∧ LiesF w4 p7 (dgl x) from ⟨HS.out.1.below hb4, HS.out.2.below hb4⟩)
  clear hb4
  clear hu3
  go_upto_region 5 with fail
  refine wp_gen (fun W => TwSt n d w W ∧ LiesF W p7 (dgl x) ∧ LiesF W w4.heap.size (dgl X)) ⟨HS.out.1.below (below_allocs _ _), HS.out.2.below (below_allocs _ _), liesF_new _ _ _⟩ ?_
  clear HS
  generalize w4.heap.size = p10 at *
  rintro W5 h5
  have HS := hide h5
  clear h5
  have hca := HS.out.1.la.1
  have hcb := HS.out.1.lb.1
  have hcx := HS.out.2.1.1
  have hcX := HS.out.2.2.1
  go_wp2_with fail
  refine (HM.out _).mono ?_
  rintro e w6 ⟨rfl, hb6⟩
  replace HS := hide (show TwSt n d w w6 ∧ LiesF w6 p7 (dgl x) ∧ LiesF w6 p10 (dgl X) from ⟨HS.out.1.below hb6, HS.out.2.1.below hb6, HS.out.2.2.below hb6⟩)
  clear hb6
  clear hca hcb hcx hcX
  have hca := HS.out.1.la.1
  have hcb := HS.out.1.lb.1
  have hcx := HS.out.2.1.1
  have hcX := HS.out.2.2.1
  go_wp2_with fail
  refine (HDV.out _).mono ?_
  rintro e w7 ⟨rfl, hb7⟩
  replace HS := hide (show TwSt n d w w7 ∧ LiesF w7 p7 (dgl x) ∧ LiesF w7 p10 (dgl X) from ⟨HS.out.1.below hb7, HS.out.2.1.below hb7, HS.out.2.2.below hb7⟩)
  clear hb7
  clear hca hcb hcx hcX
  go_upto_region 9 with fail
  have hbw := below_trans (below_allocs w7 (.cells #[.int .u64 (dgl (x) 0 : Nat), .int .u64 (dgl (x) 1 : Nat), .int .u64 (dgl (x) 2 : Nat), .int .u64 (dgl (x) 3 : Nat), .int .u64 (dgl (x) 4 : Nat), .int .u64 (dgl (x) 5 : Nat), .int .u64 (dgl (x) 6 : Nat), .int .u64 (dgl (x) 7 : Nat)] 24)) (below_allocs _ (.cells #[.int .u64 (dgl (r) 0 : Nat), .int .u64 (dgl (r) 1 : Nat), .int .u64 (dgl (r) 2 : Nat), .int .u64 (dgl (r) 3 : Nat), .int .u64 (dgl (r) 4 : Nat), .int .u64 (dgl (r) 5 : Nat), .int .u64 (dgl (r) 6 : Nat), .int .u64 (dgl (r) 7 : Nat)] 24))
  refine wp_gen (fun W => LiesF W p7 (dgl x) ∧ R2St w7.heap.size (w7.heap.size + 1) x r w W) ⟨HS.out.2.1.below hbw, r2_put w w7 x r HS.out.1.bel _ _⟩ ?_
  clear HS hbw
  rintro W9 h9
  have HS := hide h9
  clear h9
  have hcx := HS.out.1.1
  have hcy := HS.out.2.lx.1
  have hcr := HS.out.2.ly.1
  go_wp2_with fail
  refine (HAW.out _).mono ?_
  rintro e w10 ⟨rfl, hb10⟩
  have HB := hide (below_trans HS.out.2.bel hb10)
  clear HS hb10 hcx hcy hcr
  go_wp2
  go_ret
  exact ⟨rfl, HB.out⟩

theorem radix2Fractions_walk (n d : Nat) (by_ : Int) (hn : n < QQ) (hd : d < QQ) (w : World) :
    Calls Try.prog 6 #[.agg #[.int .u64 (dgl (n) 0 : Nat), .int .u64 (dgl (n) 1 : Nat), .int .u64 (dgl (n) 2 : Nat), .int .u64 (dgl (n) 3 : Nat), .int .u64 (dgl (n) 4 : Nat), .int .u64 (dgl (n) 5 : Nat), .int .u64 (dgl (n) 6 : Nat), .int .u64 (dgl (n) 7 : Nat)], .agg #[.int .u64 (dgl (d) 0 : Nat), .int .u64 (dgl (d) 1 : Nat), .int .u64 (dgl (d) 2 : Nat), .int .u64 (dgl (d) 3 : Nat), .int .u64 (dgl (d) 4 : Nat), .int .u64 (dgl (d) 5 : Nat), .int .u64 (dgl (d) 6 : Nat), .int .u64 (dgl (d) 7 : Nat)], .int .i64 by_] w fun e w' => e = .returned (.bool true) ∧ Below w.heap.size w w' := by
  have hz0 : ∀ w, (Op.equalIn 10000 24 (.agg #[.int .u64 (dgl (0) 0 : Nat), .int .u64 (dgl (0) 1 : Nat), .int .u64 (dgl (0) 2 : Nat), .int .u64 (dgl (0) 3 : Nat), .int .u64 (dgl (0) 4 : Nat), .int .u64 (dgl (0) 5 : Nat), .int .u64 (dgl (0) 6 : Nat), .int .u64 (dgl (0) 7 : Nat)]) (.agg #[.int .u64 0, .int .u64 0, .int .u64 0, .int .u64 0, .int .u64 0, .int .u64 0, .int .u64 0, .int .u64 0])).run Try.prog w = .ok true w := fun w => by
    have := wide_eqz (show 0 < QQ by decide +kernel) w
    rw [decide_eq_true rfl] at this
    exact this
  by_cases hby : by_ < 0 ∨ 100 < by_
  · refine fractions_O n d 0 0 0 0 by_ 0 true true hz0 hby (fun w => ?_) (fun w => awake11_any w) w
    rw [w8_zero]
    exact fraction_O n d by_ hby w
  · obtain ⟨k, rfl⟩ : ∃ k : Nat, by_ = (k : Int) := ⟨by_.toNat, by omega⟩
    have hk : k ≤ 100 := by omega
    have HSL : ∀ u w, BigV w u n 40 → Calls Try.prog 24 #[u, .int .i64 (k : Nat)] w fun e w' => ∃ v', e = .returned v' ∧ BigV w' v' (n * 2 ^ k) 50 ∧ Below w.heap.size w w' := by
      intro u w h
      refine (refShl_any n 40 k u w h (by decide) (by omega)).mono ?_
      rintro e w' ⟨v', e1, e2, e3⟩
      exact ⟨v', e1, e2.mono (by omega), e3⟩
    have hX : n * 2 ^ k % QQ < QQ := Nat.mod_lt _ (by omega)
    have HWI : ∀ u w, BigV w u (n * 2 ^ k) 50 → Calls Try.prog 25 #[u] w fun e w' => e = .returned (.tuple #[.agg #[.int .u64 (dgl (n * 2 ^ k % QQ) 0 : Nat), .int .u64 (dgl (n * 2 ^ k % QQ) 1 : Nat), .int .u64 (dgl (n * 2 ^ k % QQ) 2 : Nat), .int .u64 (dgl (n * 2 ^ k % QQ) 3 : Nat), .int .u64 (dgl (n * 2 ^ k % QQ) 4 : Nat), .int .u64 (dgl (n * 2 ^ k % QQ) 5 : Nat), .int .u64 (dgl (n * 2 ^ k % QQ) 6 : Nat), .int .u64 (dgl (n * 2 ^ k % QQ) 7 : Nat)], .bool (decide (QQ ≤ n * 2 ^ k))]) ∧ Below w.heap.size w w' := fun u w h => by
      have := refWide_any (n * 2 ^ k) 50 u w h
      rw [w8_mod (show n * 2 ^ k % QQ % QQ = (n * 2 ^ k) % QQ from Nat.mod_mod _ _)]
      exact this
    have HFR := fun w => fraction_any n d k hn hd hk _ _ rfl rfl w
    have HM := fun w => rmay_any (n * 2 ^ k % QQ) d hX hd w
    by_cases hm : mayN (n * 2 ^ k % QQ) d = 0
    · rw [if_pos hm, if_pos hm, hm] at HFR
      rw [hm] at HM
      have hz := mayN_zero hm
      have hr : n * 2 ^ k % QQ % d < QQ := Nat.lt_of_le_of_lt (Nat.mod_le _ _) hX
      exact fractions_Y n d (n * 2 ^ k % QQ / d) (n * 2 ^ k % QQ % d) _ _ _ 0 _ _ (by omega) (by omega) (fun w => wide_sameF _ w) (fun w => wide_eqz hr w) HFR (fun w => refBig_any n hn w) HSL HWI HM
        (fun w => refDivide_any (n * 2 ^ k % QQ) d hX hd hz.1 (Nat.lt_of_lt_of_le (may_quo hm) (Nat.pow_le_pow_right (by decide) (by decide))) w) (fun w => awake11_any w) w
    · rw [if_neg hm, if_neg hm] at HFR
      exact fractions_E n d 0 0 _ _ _ _ true _ hz0 (by omega) (by omega) (by rw [beq_eq_false_iff_ne]; omega) HFR (fun w => refBig_any n hn w) HSL HWI HM (fun w => awake11_any w) w

end Go.Proofs.Ytmbbhagjfgjhgaa

/- For all wides and all ints the law radicandlaw11.Radix2Fractions returns true, and its arguments read afterwards as they read before. No condition. -/
namespace Go.Proofs.Ytmbbhagjfgjhgaa.radix2Fractions
open Go.ChangeShapes Go.WideShapes Go.ChangeAt Go.RowKit Go.Proofs.Ytmbbhagjfgjhgaa

theorem own : ownKnob Try.prog.godebug = none := by kernel_rfl
theorem laidOut : laidOutB Try.prog = true := by kernel_rfl

set_option maxRecDepth 100000 in
theorem lifted (os : Os) (started : os.Started) (H : Type) (enc : TypeId × Value → H) :
    ReturnsInHanded {} Try.checked os 6 .any (Rows.radix2FractionsSpec.pre6 enc Try.prog Try.f6 Rows.radix2FractionsRow.domain false) (Rows.radix2FractionsSpec.post enc Try.prog Try.f6 false true false false) := by
  refine returnsInHanded_of_change (C := Try.checked) own started (by kernel_rfl) Try.func6
    (ChangeSpec.witness6 (enc := enc) (C := Try.checked) false ⟨#[], #[.agg #[.int .u64 0, .int .u64 0, .int .u64 0, .int .u64 0, .int .u64 0, .int .u64 0, .int .u64 0, .int .u64 0], .agg #[.int .u64 0, .int .u64 0, .int .u64 0, .int .u64 0, .int .u64 0, .int .u64 0, .int .u64 0, .int .u64 0], .int .i64 0], []⟩ 40 (by kernel_rfl) (by kernel_rfl) (by kernel_rfl) (by kernel_rfl)) ?_
  intro W base args ds gs before hval0 hW hcnd _
  have hval : ∀ (j : Nat) t v, Try.f6.params[j]? = some t → args[j]? = some v → Value.okWide Try.prog W .any base t v := hval0
  have hW' := hW
  obtain ⟨p, q, hA0, hV, rfl, hfz, hnd⟩ := hW
  have hA : DataW.TrodAll enc Try.prog W 0 (fun _ => true) true Try.f6.params.toList args.toList ds p := hA0
  rw [Try.params6] at hA hval
  obtain ⟨v0, vs0, d0, ds0, p0, q0, hargs, rfl, rfl, h0, r0⟩ := trodAll_cons hA
  obtain ⟨v1, vs1, d1, ds1, p1, q1, rfl, rfl, rfl, h1, r1⟩ := trodAll_cons r0
  obtain ⟨v2, vs2, d2, ds2, p2, q2, rfl, rfl, rfl, h2, r2⟩ := trodAll_cons r1
  obtain ⟨rfl, rfl, rfl⟩ := trodAll_nil r2
  obtain rfl : args = #[v0, v1, v2] := by cases args; simp_all
  obtain ⟨rfl, rfl⟩ := trodVars_none hV
  have k0 := h0
  have lt0 : ∀ x ∈ p0, x.block < W.heap.size := by obtain ⟨m, hm⟩ := k0; exact DataW.trod_lt m _ _ _ hm
  have k1 := h1
  have lt1 : ∀ x ∈ p1, x.block < W.heap.size := by obtain ⟨m, hm⟩ := k1; exact DataW.trod_lt m _ _ _ hm
  have k2 := h2
  have lt2 : ∀ x ∈ p2, x.block < W.heap.size := by obtain ⟨m, hm⟩ := k2; exact DataW.trod_lt m _ _ _ hm
  obtain ⟨x0, hx0, rfl⟩ := wide_of_trod (hval 0 24 v0 rfl rfl) h0
  obtain ⟨x1, hx1, rfl⟩ := wide_of_trod (hval 1 24 v1 rfl rfl) h1
  obtain ⟨a2, rfl, rfl, rfl, wf2⟩ := open_int Try.underlying3 (hval 2 3 v2 rfl rfl) h2
  clear hA0 hval0
  refine (radix2Fractions_walk x0 x1 a2 hx0 hx1 W).mono fun e W' ⟨he, bel⟩ => ?_
  subst he
  exact ⟨_, rfl, _, _, _, [], _, [], hW', trodAll_mk1 (shut_bool Try.underlying4 _), (trodAll_cons_mk (Below.trod laidOut (by kernel_rfl) (of_decide_eq_true (by kernel_rfl)) k0 bel lt0) (trodAll_cons_mk (Below.trod laidOut (by kernel_rfl) (of_decide_eq_true (by kernel_rfl)) k1 bel lt1) (trodAll_cons_mk (Below.trod laidOut (by kernel_rfl) (of_decide_eq_true (by kernel_rfl)) k2 bel lt2) trodAll_mk0))), rfl, bel.frame _, fun h => by cases h⟩

theorem over : Rows.radix2FractionsRow.holds Try.pinned (OpenSpec.ofChange Rows.radix2FractionsSpec) :=
  OpenClaim.holds_of_wide 6 Try.f6 rfl rfl rfl rfl rfl rfl rfl ⟨rfl, rfl, rfl, rfl, rfl⟩ rfl rfl rfl rfl rfl (by kernel_rfl) Try.func6 (by kernel_rfl)
    (of_decide_eq_true (by kernel_rfl)) (by unfold Func.isWrapper; first | (rw [if_pos (by decide +kernel)]; kernel_rfl) | (rw [if_neg (by decide +kernel)]; exact ⟨rfl, rfl⟩))
    (fun os started H enc _ => lifted os started H enc)

theorem proved : Rows.Radix2FractionsSaid := over
#print axioms proved
end Go.Proofs.Ytmbbhagjfgjhgaa.radix2Fractions

