/- For all wides the law radicandlaw12.Root2Rounds returns true, and its argument reads afterwards as it read before. No condition. -/
import Derived.Test.YtmbbhagjfgjhgaaPartAP
import Derived.Test.YtmbbhagjfgjhgaaRows
import Derived.WalkKit
import Derived.ProofKit
import Derived.OpenShut
import Derived.ShutString
import Derived.ChangeOld
import Derived.Below
/- For all wides the law radicandlaw12.Root2Rounds returns true. -/
set_option linter.unusedVariables false
set_option linter.unusedSimpArgs false
set_option maxRecDepth 8000
namespace Go.Proofs.Ytmbbhagjfgjhgaa
open Go.RowKit Plain

set_option maxHeartbeats 4000000 in
theorem rounds12_E (n x S r s2 n4 tw t2 : Nat) (q : Int) (HRT : Hid (∀ w, Calls Try.prog 40 #[.agg #[.int .u64 (dgl (n) 0 : Nat), .int .u64 (dgl (n) 1 : Nat), .int .u64 (dgl (n) 2 : Nat), .int .u64 (dgl (n) 3 : Nat), .int .u64 (dgl (n) 4 : Nat), .int .u64 (dgl (n) 5 : Nat), .int .u64 (dgl (n) 6 : Nat), .int .u64 (dgl (n) 7 : Nat)]] w fun e w' => e = .returned (.tuple #[.agg #[.int .u64 (dgl (x) 0 : Nat), .int .u64 (dgl (x) 1 : Nat), .int .u64 (dgl (x) 2 : Nat), .int .u64 (dgl (x) 3 : Nat), .int .u64 (dgl (x) 4 : Nat), .int .u64 (dgl (x) 5 : Nat), .int .u64 (dgl (x) 6 : Nat), .int .u64 (dgl (x) 7 : Nat)], .int .i64 4]) ∧ Below w.heap.size w w'))
    (HM : Hid (∀ w, Calls Try.prog 37 #[.agg #[.int .u64 (dgl (n) 0 : Nat), .int .u64 (dgl (n) 1 : Nat), .int .u64 (dgl (n) 2 : Nat), .int .u64 (dgl (n) 3 : Nat), .int .u64 (dgl (n) 4 : Nat), .int .u64 (dgl (n) 5 : Nat), .int .u64 (dgl (n) 6 : Nat), .int .u64 (dgl (n) 7 : Nat)]] w fun e w' => e = .returned (.bool false) ∧ Below w.heap.size w w'))
    (HAW : Hid (∀ w, Calls Try.prog 35 #[] w fun e w' => e = .returned (.bool true) ∧ Below w.heap.size w w'))
    (hx : ∀ w, (Op.equalIn 10000 24 (.agg #[.int .u64 (dgl (x) 0 : Nat), .int .u64 (dgl (x) 1 : Nat), .int .u64 (dgl (x) 2 : Nat), .int .u64 (dgl (x) 3 : Nat), .int .u64 (dgl (x) 4 : Nat), .int .u64 (dgl (x) 5 : Nat), .int .u64 (dgl (x) 6 : Nat), .int .u64 (dgl (x) 7 : Nat)]) (.agg #[.int .u64 0, .int .u64 0, .int .u64 0, .int .u64 0, .int .u64 0, .int .u64 0, .int .u64 0, .int .u64 0])).run Try.prog w = .ok true w) (w : World) :
    Calls Try.prog 11 #[.agg #[.int .u64 (dgl (n) 0 : Nat), .int .u64 (dgl (n) 1 : Nat), .int .u64 (dgl (n) 2 : Nat), .int .u64 (dgl (n) 3 : Nat), .int .u64 (dgl (n) 4 : Nat), .int .u64 (dgl (n) 5 : Nat), .int .u64 (dgl (n) 6 : Nat), .int .u64 (dgl (n) 7 : Nat)]] w fun e w' => e = .returned (.bool true) ∧ Below w.heap.size w w' := by
  have HS : Hid (LiesF (w.alloc (.cells #[.int .u64 (dgl (n) 0 : Nat), .int .u64 (dgl (n) 1 : Nat), .int .u64 (dgl (n) 2 : Nat), .int .u64 (dgl (n) 3 : Nat), .int .u64 (dgl (n) 4 : Nat), .int .u64 (dgl (n) 5 : Nat), .int .u64 (dgl (n) 6 : Nat), .int .u64 (dgl (n) 7 : Nat)] 24)) w.heap.size (dgl n) ∧ Below w.heap.size w (w.alloc (.cells #[.int .u64 (dgl (n) 0 : Nat), .int .u64 (dgl (n) 1 : Nat), .int .u64 (dgl (n) 2 : Nat), .int .u64 (dgl (n) 3 : Nat), .int .u64 (dgl (n) 4 : Nat), .int .u64 (dgl (n) 5 : Nat), .int .u64 (dgl (n) 6 : Nat), .int .u64 (dgl (n) 7 : Nat)] 24))) := ⟨liesF_new w (dgl n) _, below_allocs w _⟩
  go_enter Try.func11, Try.ntmps11
  have hca := HS.out.1.1
  go_wp2_with fail
  refine (HRT.out _).mono ?_
  rintro e w1 ⟨rfl, hb1⟩
  replace HS := hide (show LiesF w1 w.heap.size (dgl n) ∧ Below w.heap.size w w1 from ⟨HS.out.1.below hb1, below_trans HS.out.2 hb1⟩)
  clear hb1 hca
  go_upto_region 2 with fail
  have hbw := below_allocs w1 (.cells #[.int .u64 (dgl (x) 0 : Nat), .int .u64 (dgl (x) 1 : Nat), .int .u64 (dgl (x) 2 : Nat), .int .u64 (dgl (x) 3 : Nat), .int .u64 (dgl (x) 4 : Nat), .int .u64 (dgl (x) 5 : Nat), .int .u64 (dgl (x) 6 : Nat), .int .u64 (dgl (x) 7 : Nat)] 24)
  refine wp_gen (fun W => LiesF W w.heap.size (dgl n) ∧ LiesF W w1.heap.size (dgl x) ∧ Below w.heap.size w W) ⟨HS.out.1.below hbw, liesF_new _ _ _, below_trans HS.out.2 hbw⟩ ?_
  clear HS hbw
  generalize w1.heap.size = pa at *
  rintro W2 h2
  have HS := hide h2
  clear h2
  have hca := HS.out.1.1
  have hcx := HS.out.2.1.1
  go_wp2_with fail
  refine (HM.out _).mono ?_
  rintro e w3 ⟨rfl, hb3⟩
  replace HS := hide (show LiesF w3 w.heap.size (dgl n) ∧ LiesF w3 pa (dgl x) ∧ Below w.heap.size w w3 from ⟨HS.out.1.below hb3, HS.out.2.1.below hb3, below_trans HS.out.2.2 hb3⟩)
  clear hb3 hca hcx
  have hca := HS.out.1.1
  have hcx := HS.out.2.1.1
  go_wp2_with fail
  refine (HAW.out _).mono ?_
  rintro e w4 ⟨rfl, hb4⟩
  replace HS := hide (show LiesF w4 w.heap.size (dgl n) ∧ LiesF w4 pa (dgl x) ∧ Below w.heap.size w w4 from ⟨HS.out.1.below hb4, HS.out.2.1.below hb4, below_trans HS.out.2.2 hb4⟩)
  clear hb4 hca hcx
  have hcx := HS.out.2.1.1
  have HB := hide HS.out.2.2
  clear HS
  go_wp2
  go_ret
  exact ⟨rfl, HB.out⟩

set_option maxHeartbeats 4000000 in
theorem rounds12_N (n x S r s2 n4 tw t2 : Nat) (q : Int) (HRT : Hid (∀ w, Calls Try.prog 40 #[.agg #[.int .u64 (dgl (n) 0 : Nat), .int .u64 (dgl (n) 1 : Nat), .int .u64 (dgl (n) 2 : Nat), .int .u64 (dgl (n) 3 : Nat), .int .u64 (dgl (n) 4 : Nat), .int .u64 (dgl (n) 5 : Nat), .int .u64 (dgl (n) 6 : Nat), .int .u64 (dgl (n) 7 : Nat)]] w fun e w' => e = .returned (.tuple #[.agg #[.int .u64 (dgl (x) 0 : Nat), .int .u64 (dgl (x) 1 : Nat), .int .u64 (dgl (x) 2 : Nat), .int .u64 (dgl (x) 3 : Nat), .int .u64 (dgl (x) 4 : Nat), .int .u64 (dgl (x) 5 : Nat), .int .u64 (dgl (x) 6 : Nat), .int .u64 (dgl (x) 7 : Nat)], .int .i64 0]) ∧ Below w.heap.size w w'))
    (HM : Hid (∀ w, Calls Try.prog 37 #[.agg #[.int .u64 (dgl (n) 0 : Nat), .int .u64 (dgl (n) 1 : Nat), .int .u64 (dgl (n) 2 : Nat), .int .u64 (dgl (n) 3 : Nat), .int .u64 (dgl (n) 4 : Nat), .int .u64 (dgl (n) 5 : Nat), .int .u64 (dgl (n) 6 : Nat), .int .u64 (dgl (n) 7 : Nat)]] w fun e w' => e = .returned (.bool true) ∧ Below w.heap.size w w'))
    (HAW : Hid (∀ w, Calls Try.prog 35 #[] w fun e w' => e = .returned (.bool true) ∧ Below w.heap.size w w'))
    (hq : ¬ 0 < q)
    (HRR : Hid (∀ w, Calls Try.prog 38 #[.agg #[.int .u64 (dgl (n) 0 : Nat), .int .u64 (dgl (n) 1 : Nat), .int .u64 (dgl (n) 2 : Nat), .int .u64 (dgl (n) 3 : Nat), .int .u64 (dgl (n) 4 : Nat), .int .u64 (dgl (n) 5 : Nat), .int .u64 (dgl (n) 6 : Nat), .int .u64 (dgl (n) 7 : Nat)], .int .i64 2] w fun e w' => e = .returned (.tuple #[.agg #[.int .u64 (dgl (S) 0 : Nat), .int .u64 (dgl (S) 1 : Nat), .int .u64 (dgl (S) 2 : Nat), .int .u64 (dgl (S) 3 : Nat), .int .u64 (dgl (S) 4 : Nat), .int .u64 (dgl (S) 5 : Nat), .int .u64 (dgl (S) 6 : Nat), .int .u64 (dgl (S) 7 : Nat)], .agg #[.int .u64 (dgl (r) 0 : Nat), .int .u64 (dgl (r) 1 : Nat), .int .u64 (dgl (r) 2 : Nat), .int .u64 (dgl (r) 3 : Nat), .int .u64 (dgl (r) 4 : Nat), .int .u64 (dgl (r) 5 : Nat), .int .u64 (dgl (r) 6 : Nat), .int .u64 (dgl (r) 7 : Nat)]]) ∧ Below w.heap.size w w'))
    (HBS : Hid (∀ w, Calls Try.prog 20 #[.agg #[.int .u64 (dgl (S) 0 : Nat), .int .u64 (dgl (S) 1 : Nat), .int .u64 (dgl (S) 2 : Nat), .int .u64 (dgl (S) 3 : Nat), .int .u64 (dgl (S) 4 : Nat), .int .u64 (dgl (S) 5 : Nat), .int .u64 (dgl (S) 6 : Nat), .int .u64 (dgl (S) 7 : Nat)]] w fun e w' => ∃ v, e = .returned v ∧ BigV w' v S 40 ∧ Below w.heap.size w w'))
    (HBN : Hid (∀ w, Calls Try.prog 20 #[.agg #[.int .u64 (dgl (n) 0 : Nat), .int .u64 (dgl (n) 1 : Nat), .int .u64 (dgl (n) 2 : Nat), .int .u64 (dgl (n) 3 : Nat), .int .u64 (dgl (n) 4 : Nat), .int .u64 (dgl (n) 5 : Nat), .int .u64 (dgl (n) 6 : Nat), .int .u64 (dgl (n) 7 : Nat)]] w fun e w' => ∃ v, e = .returned v ∧ BigV w' v n 40 ∧ Below w.heap.size w w'))
    (HBX : Hid (∀ w, Calls Try.prog 20 #[.agg #[.int .u64 (dgl (x) 0 : Nat), .int .u64 (dgl (x) 1 : Nat), .int .u64 (dgl (x) 2 : Nat), .int .u64 (dgl (x) 3 : Nat), .int .u64 (dgl (x) 4 : Nat), .int .u64 (dgl (x) 5 : Nat), .int .u64 (dgl (x) 6 : Nat), .int .u64 (dgl (x) 7 : Nat)]] w fun e w' => ∃ v, e = .returned v ∧ BigV w' v x 40 ∧ Below w.heap.size w w'))
    (HSH : Hid (∀ u w, BigV w u S 40 → Calls Try.prog 24 #[u, .int .i64 1] w fun e w' => ∃ v', e = .returned v' ∧ BigV w' v' s2 50 ∧ Below w.heap.size w w'))
    (HS4 : Hid (∀ u w, BigV w u n 40 → Calls Try.prog 24 #[u, .int .i64 2] w fun e w' => ∃ v', e = .returned v' ∧ BigV w' v' n4 50 ∧ Below w.heap.size w w'))
    (HSM : Hid (∀ w, Calls Try.prog 41 #[.int .u64 1] w fun e w' => ∃ v', e = .returned v' ∧ BigV w' v' 1 2 ∧ Below w.heap.size w w'))
    (HAD : Hid (∀ u v w, BigV w u (s2) 50 → BigV w v (1) 2 → Calls Try.prog 31 #[u, v] w fun e w' => ∃ v', e = .returned v' ∧ BigV w' v' (tw) 60 ∧ Below w.heap.size w w'))
    (HMU : Hid (∀ u w, BigV w u (tw) 60 → Calls Try.prog 27 #[u, u] w fun e w' => ∃ v', e = .returned v' ∧ BigV w' v' (t2) 120 ∧ Below w.heap.size w w'))
    (HCM : Hid (∀ u v w, BigV w u n4 50 → BigV w v t2 120 → Calls Try.prog 30 #[u, v] w fun e w' => e = .returned (.int .i64 q) ∧ w' = w))
    (HCZ : Hid (∀ u v w, BigV w u x 40 → BigV w v x 40 → Calls Try.prog 30 #[u, v] w fun e w' => e = .returned (.int .i64 0) ∧ w' = w)) (HSX : Hid (S = x)) (w : World) :
    Calls Try.prog 11 #[.agg #[.int .u64 (dgl (n) 0 : Nat), .int .u64 (dgl (n) 1 : Nat), .int .u64 (dgl (n) 2 : Nat), .int .u64 (dgl (n) 3 : Nat), .int .u64 (dgl (n) 4 : Nat), .int .u64 (dgl (n) 5 : Nat), .int .u64 (dgl (n) 6 : Nat), .int .u64 (dgl (n) 7 : Nat)]] w fun e w' => e = .returned (.bool true) ∧ Below w.heap.size w w' := by
  have HS : Hid (LiesF (w.alloc (.cells #[.int .u64 (dgl (n) 0 : Nat), .int .u64 (dgl (n) 1 : Nat), .int .u64 (dgl (n) 2 : Nat), .int .u64 (dgl (n) 3 : Nat), .int .u64 (dgl (n) 4 : Nat), .int .u64 (dgl (n) 5 : Nat), .int .u64 (dgl (n) 6 : Nat), .int .u64 (dgl (n) 7 : Nat)] 24)) w.heap.size (dgl n) ∧ Below w.heap.size w (w.alloc (.cells #[.int .u64 (dgl (n) 0 : Nat), .int .u64 (dgl (n) 1 : Nat), .int .u64 (dgl (n) 2 : Nat), .int .u64 (dgl (n) 3 : Nat), .int .u64 (dgl (n) 4 : Nat), .int .u64 (dgl (n) 5 : Nat), .int .u64 (dgl (n) 6 : Nat), .int .u64 (dgl (n) 7 : Nat)] 24))) := ⟨liesF_new w (dgl n) _, below_allocs w _⟩
  go_enter Try.func11, Try.ntmps11
  have hca := HS.out.1.1
  go_wp2_with fail
  refine (HRT.out _).mono ?_
  rintro e w1 ⟨rfl, hb1⟩
  replace HS := hide (show LiesF w1 w.heap.size (dgl n) ∧ Below w.heap.size w w1 from ⟨HS.out.1.below hb1, below_trans HS.out.2 hb1⟩)
  clear hb1 hca
  go_upto_region 2 with fail
  have hbw := below_allocs w1 (.cells #[.int .u64 (dgl (x) 0 : Nat), .int .u64 (dgl (x) 1 : Nat), .int .u64 (dgl (x) 2 : Nat), .int .u64 (dgl (x) 3 : Nat), .int .u64 (dgl (x) 4 : Nat), .int .u64 (dgl (x) 5 : Nat), .int .u64 (dgl (x) 6 : Nat), .int .u64 (dgl (x) 7 : Nat)] 24)
  refine wp_gen (fun W => LiesF W w.heap.size (dgl n) ∧ LiesF W w1.heap.size (dgl x) ∧ Below w.heap.size w W) ⟨HS.out.1.below hbw, liesF_new _ _ _, below_trans HS.out.2 hbw⟩ ?_
  clear HS hbw
  generalize w1.heap.size = pa at *
  rintro W2 h2
  have HS := hide h2
  clear h2
  have hca := HS.out.1.1
  have hcx := HS.out.2.1.1
  go_wp2_with fail
  refine (HM.out _).mono ?_
  rintro e w3 ⟨rfl, hb3⟩
  replace HS := hide (show LiesF w3 w.heap.size (dgl n) ∧ LiesF w3 pa (dgl x) ∧ Below w.heap.size w w3 from ⟨HS.out.1.below hb3, HS.out.2.1.below hb3, below_trans HS.out.2.2 hb3⟩)
  clear hb3 hca hcx
  have hca := HS.out.1.1
  have hcx := HS.out.2.1.1
  go_wp2_with fail
  refine (HRR.out _).mono ?_
  rintro e w4 ⟨rfl, hb4⟩
  replace HS := hide (show LiesF w4 w.heap.size (dgl n) ∧ LiesF w4 pa (dgl x) ∧ Below w.heap.size w w4 from ⟨HS.out.1.below hb4, HS.out.2.1.below hb4, below_trans HS.out.2.2 hb4⟩)
  clear hb4 hca hcx
  go_upto_region 5 with fail
  have hbw := below_trans (below_allocs w4 (.cells #[.int .u64 (dgl (S) 0 : Nat), .int .u64 (dgl (S) 1 : Nat), .int .u64 (dgl (S) 2 : Nat), .int .u64 (dgl (S) 3 : Nat), .int .u64 (dgl (S) 4 : Nat), .int .u64 (dgl (S) 5 : Nat), .int .u64 (dgl (S) 6 : Nat), .int .u64 (dgl (S) 7 : Nat)] 24)) (below_allocs _ (.cells #[.int .u64 (dgl (r) 0 : Nat), .int .u64 (dgl (r) 1 : Nat), .int .u64 (dgl (r) 2 : Nat), .int .u64 (dgl (r) 3 : Nat), .int .u64 (dgl (r) 4 : Nat), .int .u64 (dgl (r) 5 : Nat), .int .u64 (dgl (r) 6 : Nat), .int .u64 (dgl (r) 7 : Nat)] 24))
  refine wp_gen (fun W => (LiesF W w.heap.size (dgl n) ∧ LiesF W pa (dgl x) ∧ Below w.heap.size w W) ∧ LiesF W w4.heap.size (dgl S)) ⟨⟨HS.out.1.below hbw, HS.out.2.1.below hbw, below_trans HS.out.2.2 hbw⟩, (r2_put w w4 S r HS.out.2.2 _ _).lx⟩ ?_
  clear HS hbw
  generalize w4.heap.size = p5 at *
  rintro W5 h5
  have HS := hide h5.1
  have hl5 := h5.2.1
  clear h5
  have hca := HS.out.1.1
  have hcx := HS.out.2.1.1
  go_wp2_with fail
  refine (HBS.out _).mono ?_
  rintro e w6 ⟨u7, rfl, hu7, hb6⟩
  replace HS := hide (show LiesF w6 w.heap.size (dgl n) ∧ LiesF w6 pa (dgl x) ∧ Below w.heap.size w w6 from ⟨HS.out.1.below hb6, HS.out.2.1.below hb6, below_trans HS.out.2.2 hb6⟩)
  clear hb6 hca hcx hl5
  have hca := HS.out.1.1
  have hcx := HS.out.2.1.1
  go_wp2_with fail
  refine (HSH.out _ _ hu7).mono ?_
  rintro e w7 ⟨ua, rfl, hua, hb7⟩
  replace HS := hide (show LiesF w7 w.heap.size (dgl n) ∧ LiesF w7 pa (dgl x) ∧ Below w.heap.size w w7 from ⟨HS.out.1.below hb7, HS.out.2.1.below hb7, below_trans HS.out.2.2 hb7⟩)
  replace hu7 := BigV.below hu7 hb7
  clear hb7 hca hcx
  have hca := HS.out.1.1
  have hcx := HS.out.2.1.1
  go_wp2_with fail
  refine (HSM.out _).mono ?_
  rintro e w8 ⟨ub, rfl, hub, hb8⟩
  replace HS := hide (show LiesF w8 w.heap.size (dgl n) ∧ LiesF w8 pa (dgl x) ∧ Below w.heap.size w w8 from ⟨HS.out.1.below hb8, HS.out.2.1.below hb8, below_trans HS.out.2.2 hb8⟩)
  replace hu7 := BigV.below hu7 hb8
  replace hua := BigV.below hua hb8
  clear hb8 hca hcx
  have hca := HS.out.1.1
  have hcx := HS.out.2.1.1
  go_wp2_with fail
  refine (HAD.out _ _ _ hua hub).mono ?_
  rintro e w9 ⟨u8, rfl, hu8, hb9⟩
  replace HS := hide (show LiesF w9 w.heap.size (dgl n) ∧ LiesF w9 pa (dgl x) ∧ Below w.heap.size w w9 from ⟨HS.out.1.below hb9, HS.out.2.1.below hb9, below_trans HS.out.2.2 hb9⟩)
  replace hu7 := BigV.below hu7 hb9
  clear hb9 hca hcx
  clear hua hub
  have hca := HS.out.1.1
  have hcx := HS.out.2.1.1
  go_wp2_with fail
  refine (HBN.out _).mono ?_
  rintro e w10 ⟨uc, rfl, huc, hb10⟩
  replace HS := hide (show LiesF w10 w.heap.size (dgl n) ∧ LiesF w10 pa (dgl x) ∧ Below w.heap.size w w10 from ⟨HS.out.1.below hb10, HS.out.2.1.below hb10, below_trans HS.out.2.2 hb10⟩)
  replace hu7 := BigV.below hu7 hb10
  replace hu8 := BigV.below hu8 hb10
  clear hb10 hca hcx
  have hca := HS.out.1.1
  have hcx := HS.out.2.1.1
  go_wp2_with fail
  refine (HS4.out _ _ huc).mono ?_
  rintro e w11 ⟨ud, rfl, hud, hb11⟩
  replace HS := hide (show LiesF w11 w.heap.size (dgl n) ∧ LiesF w11 pa (dgl x) ∧ Below w.heap.size w w11 from ⟨HS.out.1.below hb11, HS.out.2.1.below hb11, below_trans HS.out.2.2 hb11⟩)
  replace hu7 := BigV.below hu7 hb11
  replace hu8 := BigV.below hu8 hb11
  clear hb11 hca hcx
  clear huc
  have hca := HS.out.1.1
  have hcx := HS.out.2.1.1
  go_wp2_with fail
  refine (HMU.out _ _ hu8).mono ?_
  rintro e w12 ⟨ue, rfl, hue, hb12⟩
  replace HS := hide (show LiesF w12 w.heap.size (dgl n) ∧ LiesF w12 pa (dgl x) ∧ Below w.heap.size w w12 from ⟨HS.out.1.below hb12, HS.out.2.1.below hb12, below_trans HS.out.2.2 hb12⟩)
  replace hu7 := BigV.below hu7 hb12
  replace hud := BigV.below hud hb12
  clear hb12 hca hcx
  clear hu8
  go_wp2_with fail
  refine (HCM.out _ _ _ hud hue).mono ?_
  rintro e wl ⟨rfl, hw⟩
  subst wl
  clear hud hue
  rw [HSX.out] at hu7
  have hug := hu7
  clear hu7
  have hca := HS.out.1.1
  have hcx := HS.out.2.1.1
  go_wp2_with fail
  refine (HBX.out _).mono ?_
  rintro e w15 ⟨uh, rfl, huh, hb15⟩
  replace HS := hide (show LiesF w15 w.heap.size (dgl n) ∧ LiesF w15 pa (dgl x) ∧ Below w.heap.size w w15 from ⟨HS.out.1.below hb15, HS.out.2.1.below hb15, below_trans HS.out.2.2 hb15⟩)
  replace hug := BigV.below hug hb15
  clear hb15 hca hcx
  go_wp2_with fail
  refine (HCZ.out _ _ _ huh hug).mono ?_
  rintro e wl ⟨rfl, hw⟩
  subst wl
  clear huh hug
  have hca := HS.out.1.1
  have hcx := HS.out.2.1.1
  go_wp2_with fail
  refine (HAW.out _).mono ?_
  rintro e w16 ⟨rfl, hb16⟩
  replace HS := hide (show LiesF w16 w.heap.size (dgl n) ∧ LiesF w16 pa (dgl x) ∧ Below w.heap.size w w16 from ⟨HS.out.1.below hb16, HS.out.2.1.below hb16, below_trans HS.out.2.2 hb16⟩)
  clear hb16 hca hcx
  have hcx := HS.out.2.1.1
  have HB := hide HS.out.2.2
  clear HS
  go_wp2
  go_ret
  exact ⟨rfl, HB.out⟩

set_option maxHeartbeats 4000000 in
theorem rounds12_G (n x S r s2 n4 tw t2 : Nat) (q : Int) (HRT : Hid (∀ w, Calls Try.prog 40 #[.agg #[.int .u64 (dgl (n) 0 : Nat), .int .u64 (dgl (n) 1 : Nat), .int .u64 (dgl (n) 2 : Nat), .int .u64 (dgl (n) 3 : Nat), .int .u64 (dgl (n) 4 : Nat), .int .u64 (dgl (n) 5 : Nat), .int .u64 (dgl (n) 6 : Nat), .int .u64 (dgl (n) 7 : Nat)]] w fun e w' => e = .returned (.tuple #[.agg #[.int .u64 (dgl (x) 0 : Nat), .int .u64 (dgl (x) 1 : Nat), .int .u64 (dgl (x) 2 : Nat), .int .u64 (dgl (x) 3 : Nat), .int .u64 (dgl (x) 4 : Nat), .int .u64 (dgl (x) 5 : Nat), .int .u64 (dgl (x) 6 : Nat), .int .u64 (dgl (x) 7 : Nat)], .int .i64 0]) ∧ Below w.heap.size w w'))
    (HM : Hid (∀ w, Calls Try.prog 37 #[.agg #[.int .u64 (dgl (n) 0 : Nat), .int .u64 (dgl (n) 1 : Nat), .int .u64 (dgl (n) 2 : Nat), .int .u64 (dgl (n) 3 : Nat), .int .u64 (dgl (n) 4 : Nat), .int .u64 (dgl (n) 5 : Nat), .int .u64 (dgl (n) 6 : Nat), .int .u64 (dgl (n) 7 : Nat)]] w fun e w' => e = .returned (.bool true) ∧ Below w.heap.size w w'))
    (HAW : Hid (∀ w, Calls Try.prog 35 #[] w fun e w' => e = .returned (.bool true) ∧ Below w.heap.size w w'))
    (hq : 0 < q)
    (HRR : Hid (∀ w, Calls Try.prog 38 #[.agg #[.int .u64 (dgl (n) 0 : Nat), .int .u64 (dgl (n) 1 : Nat), .int .u64 (dgl (n) 2 : Nat), .int .u64 (dgl (n) 3 : Nat), .int .u64 (dgl (n) 4 : Nat), .int .u64 (dgl (n) 5 : Nat), .int .u64 (dgl (n) 6 : Nat), .int .u64 (dgl (n) 7 : Nat)], .int .i64 2] w fun e w' => e = .returned (.tuple #[.agg #[.int .u64 (dgl (S) 0 : Nat), .int .u64 (dgl (S) 1 : Nat), .int .u64 (dgl (S) 2 : Nat), .int .u64 (dgl (S) 3 : Nat), .int .u64 (dgl (S) 4 : Nat), .int .u64 (dgl (S) 5 : Nat), .int .u64 (dgl (S) 6 : Nat), .int .u64 (dgl (S) 7 : Nat)], .agg #[.int .u64 (dgl (r) 0 : Nat), .int .u64 (dgl (r) 1 : Nat), .int .u64 (dgl (r) 2 : Nat), .int .u64 (dgl (r) 3 : Nat), .int .u64 (dgl (r) 4 : Nat), .int .u64 (dgl (r) 5 : Nat), .int .u64 (dgl (r) 6 : Nat), .int .u64 (dgl (r) 7 : Nat)]]) ∧ Below w.heap.size w w'))
    (HBS : Hid (∀ w, Calls Try.prog 20 #[.agg #[.int .u64 (dgl (S) 0 : Nat), .int .u64 (dgl (S) 1 : Nat), .int .u64 (dgl (S) 2 : Nat), .int .u64 (dgl (S) 3 : Nat), .int .u64 (dgl (S) 4 : Nat), .int .u64 (dgl (S) 5 : Nat), .int .u64 (dgl (S) 6 : Nat), .int .u64 (dgl (S) 7 : Nat)]] w fun e w' => ∃ v, e = .returned v ∧ BigV w' v S 40 ∧ Below w.heap.size w w'))
    (HBN : Hid (∀ w, Calls Try.prog 20 #[.agg #[.int .u64 (dgl (n) 0 : Nat), .int .u64 (dgl (n) 1 : Nat), .int .u64 (dgl (n) 2 : Nat), .int .u64 (dgl (n) 3 : Nat), .int .u64 (dgl (n) 4 : Nat), .int .u64 (dgl (n) 5 : Nat), .int .u64 (dgl (n) 6 : Nat), .int .u64 (dgl (n) 7 : Nat)]] w fun e w' => ∃ v, e = .returned v ∧ BigV w' v n 40 ∧ Below w.heap.size w w'))
    (HBX : Hid (∀ w, Calls Try.prog 20 #[.agg #[.int .u64 (dgl (x) 0 : Nat), .int .u64 (dgl (x) 1 : Nat), .int .u64 (dgl (x) 2 : Nat), .int .u64 (dgl (x) 3 : Nat), .int .u64 (dgl (x) 4 : Nat), .int .u64 (dgl (x) 5 : Nat), .int .u64 (dgl (x) 6 : Nat), .int .u64 (dgl (x) 7 : Nat)]] w fun e w' => ∃ v, e = .returned v ∧ BigV w' v x 40 ∧ Below w.heap.size w w'))
    (HSH : Hid (∀ u w, BigV w u S 40 → Calls Try.prog 24 #[u, .int .i64 1] w fun e w' => ∃ v', e = .returned v' ∧ BigV w' v' s2 50 ∧ Below w.heap.size w w'))
    (HS4 : Hid (∀ u w, BigV w u n 40 → Calls Try.prog 24 #[u, .int .i64 2] w fun e w' => ∃ v', e = .returned v' ∧ BigV w' v' n4 50 ∧ Below w.heap.size w w'))
    (HSM : Hid (∀ w, Calls Try.prog 41 #[.int .u64 1] w fun e w' => ∃ v', e = .returned v' ∧ BigV w' v' 1 2 ∧ Below w.heap.size w w'))
    (HAD : Hid (∀ u v w, BigV w u (s2) 50 → BigV w v (1) 2 → Calls Try.prog 31 #[u, v] w fun e w' => ∃ v', e = .returned v' ∧ BigV w' v' (tw) 60 ∧ Below w.heap.size w w'))
    (HMU : Hid (∀ u w, BigV w u (tw) 60 → Calls Try.prog 27 #[u, u] w fun e w' => ∃ v', e = .returned v' ∧ BigV w' v' (t2) 120 ∧ Below w.heap.size w w'))
    (HCM : Hid (∀ u v w, BigV w u n4 50 → BigV w v t2 120 → Calls Try.prog 30 #[u, v] w fun e w' => e = .returned (.int .i64 q) ∧ w' = w))
    (HA1 : Hid (∀ u v w, BigV w u (S) 40 → BigV w v (1) 2 → Calls Try.prog 31 #[u, v] w fun e w' => ∃ v', e = .returned v' ∧ BigV w' v' (x) 60 ∧ Below w.heap.size w w'))
    (HCZ : Hid (∀ u v w, BigV w u x 40 → BigV w v x 60 → Calls Try.prog 30 #[u, v] w fun e w' => e = .returned (.int .i64 0) ∧ w' = w)) (w : World) :
    Calls Try.prog 11 #[.agg #[.int .u64 (dgl (n) 0 : Nat), .int .u64 (dgl (n) 1 : Nat), .int .u64 (dgl (n) 2 : Nat), .int .u64 (dgl (n) 3 : Nat), .int .u64 (dgl (n) 4 : Nat), .int .u64 (dgl (n) 5 : Nat), .int .u64 (dgl (n) 6 : Nat), .int .u64 (dgl (n) 7 : Nat)]] w fun e w' => e = .returned (.bool true) ∧ Below w.heap.size w w' := by
  have HS : Hid (LiesF (w.alloc (.cells #[.int .u64 (dgl (n) 0 : Nat), .int .u64 (dgl (n) 1 : Nat), .int .u64 (dgl (n) 2 : Nat), .int .u64 (dgl (n) 3 : Nat), .int .u64 (dgl (n) 4 : Nat), .int .u64 (dgl (n) 5 : Nat), .int .u64 (dgl (n) 6 : Nat), .int .u64 (dgl (n) 7 : Nat)] 24)) w.heap.size (dgl n) ∧ Below w.heap.size w (w.alloc (.cells #[.int .u64 (dgl (n) 0 : Nat), .int .u64 (dgl (n) 1 : Nat), .int .u64 (dgl (n) 2 : Nat), .int .u64 (dgl (n) 3 : Nat), .int .u64 (dgl (n) 4 : Nat), .int .u64 (dgl (n) 5 : Nat), .int .u64 (dgl (n) 6 : Nat), .int .u64 (dgl (n) 7 : Nat)] 24))) := ⟨liesF_new w (dgl n) _, below_allocs w _⟩
  go_enter Try.func11, Try.ntmps11
  have hca := HS.out.1.1
  go_wp2_with fail
  refine (HRT.out _).mono ?_
  rintro e w1 ⟨rfl, hb1⟩
  replace HS := hide (show LiesF w1 w.heap.size (dgl n) ∧ Below w.heap.size w w1 from ⟨HS.out.1.below hb1, below_trans HS.out.2 hb1⟩)
  clear hb1 hca
  go_upto_region 2 with fail
  have hbw := below_allocs w1 (.cells #[.int .u64 (dgl (x) 0 : Nat), .int .u64 (dgl (x) 1 : Nat), .int .u64 (dgl (x) 2 : Nat), .int .u64 (dgl (x) 3 : Nat), .int .u64 (dgl (x) 4 : Nat), .int .u64 (dgl (x) 5 : Nat), .int .u64 (dgl (x) 6 : Nat), .int .u64 (dgl (x) 7 : Nat)] 24)
  refine wp_gen (fun W => LiesF W w.heap.size (dgl n) ∧ LiesF W w1.heap.size (dgl x) ∧ Below w.heap.size w W) ⟨HS.out.1.below hbw, liesF_new _ _ _, below_trans HS.out.2 hbw⟩ ?_
  clear HS hbw
  generalize w1.heap.size = pa at *
  rintro W2 h2
  have HS := hide h2
  clear h2
  have hca := HS.out.1.1
  have hcx := HS.out.2.1.1
  go_wp2_with fail
  refine (HM.out _).mono ?_
  rintro e w3 ⟨rfl, hb3⟩
  replace HS := hide (show LiesF w3 w.heap.size (dgl n) ∧ LiesF w3 pa (dgl x) ∧ Below w.heap.size w w3 from ⟨HS.out.1.below hb3, HS.out.2.1.below hb3, below_trans HS.out.2.2 hb3⟩)
  clear hb3 hca hcx
  have hca := HS.out.1.1
  have hcx := HS.out.2.1.1
  go_wp2_with fail
  refine (HRR.out _).mono ?_
  rintro e w4 ⟨rfl, hb4⟩
  replace HS := hide (show LiesF w4 w.heap.size (dgl n) ∧ LiesF w4 pa (dgl x) ∧ Below w.heap.size w w4 from ⟨HS.out.1.below hb4, HS.out.2.1.below hb4, below_trans HS.out.2.2 hb4⟩)
  clear hb4 hca hcx
  go_upto_region 5 with fail
  have hbw := below_trans (below_allocs w4 (.cells #[.int .u64 (dgl (S) 0 : Nat), .int .u64 (dgl (S) 1 : Nat), .int .u64 (dgl (S) 2 : Nat), .int .u64 (dgl (S) 3 : Nat), .int .u64 (dgl (S) 4 : Nat), .int .u64 (dgl (S) 5 : Nat), .int .u64 (dgl (S) 6 : Nat), .int .u64 (dgl (S) 7 : Nat)] 24)) (below_allocs _ (.cells #[.int .u64 (dgl (r) 0 : Nat), .int .u64 (dgl (r) 1 : Nat), .int .u64 (dgl (r) 2 : Nat), .int .u64 (dgl (r) 3 : Nat), .int .u64 (dgl (r) 4 : Nat), .int .u64 (dgl (r) 5 : Nat), .int .u64 (dgl (r) 6 : Nat), .int .u64 (dgl (r) 7 : Nat)] 24))
  refine wp_gen (fun W => (LiesF W w.heap.size (dgl n) ∧ LiesF W pa (dgl x) ∧ Below w.heap.size w W) ∧ LiesF W w4.heap.size (dgl S)) ⟨⟨HS.out.1.below hbw, HS.out.2.1.below hbw, below_trans HS.out.2.2 hbw⟩, (r2_put w w4 S r HS.out.2.2 _ _).lx⟩ ?_
  clear HS hbw
  generalize w4.heap.size = p5 at *
  rintro W5 h5
  have HS := hide h5.1
  have hl5 := h5.2.1
  clear h5
  have hca := HS.out.1.1
  have hcx := HS.out.2.1.1
  go_wp2_with fail
  refine (HBS.out _).mono ?_
  rintro e w6 ⟨u7, rfl, hu7, hb6⟩
  replace HS := hide (show LiesF w6 w.heap.size (dgl n) ∧ LiesF w6 pa (dgl x) ∧ Below w.heap.size w w6 from ⟨HS.out.1.below hb6, HS.out.2.1.below hb6, below_trans HS.out.2.2 hb6⟩)
  clear hb6 hca hcx hl5
  have hca := HS.out.1.1
  have hcx := HS.out.2.1.1
  go_wp2_with fail
  refine (HSH.out _ _ hu7).mono ?_
  rintro e w7 ⟨ua, rfl, hua, hb7⟩
  replace HS := hide (show LiesF w7 w.heap.size (dgl n) ∧ LiesF w7 pa (dgl x) ∧ Below w.heap.size w w7 from ⟨HS.out.1.below hb7, HS.out.2.1.below hb7, below_trans HS.out.2.2 hb7⟩)
  replace hu7 := BigV.below hu7 hb7
  clear hb7 hca hcx
  have hca := HS.out.1.1
  have hcx := HS.out.2.1.1
  go_wp2_with fail
  refine (HSM.out _).mono ?_
  rintro e w8 ⟨ub, rfl, hub, hb8⟩
  replace HS := hide (show LiesF w8 w.heap.size (dgl n) ∧ LiesF w8 pa (dgl x) ∧ Below w.heap.size w w8 from ⟨HS.out.1.below hb8, HS.out.2.1.below hb8, below_trans HS.out.2.2 hb8⟩)
  replace hu7 := BigV.below hu7 hb8
  replace hua := BigV.below hua hb8
  clear hb8 hca hcx
  have hca := HS.out.1.1
  have hcx := HS.out.2.1.1
  go_wp2_with fail
  refine (HAD.out _ _ _ hua hub).mono ?_
  rintro e w9 ⟨u8, rfl, hu8, hb9⟩
  replace HS := hide (show LiesF w9 w.heap.size (dgl n) ∧ LiesF w9 pa (dgl x) ∧ Below w.heap.size w w9 from ⟨HS.out.1.below hb9, HS.out.2.1.below hb9, below_trans HS.out.2.2 hb9⟩)
  replace hu7 := BigV.below hu7 hb9
  clear hb9 hca hcx
  clear hua hub
  have hca := HS.out.1.1
  have hcx := HS.out.2.1.1
  go_wp2_with fail
  refine (HBN.out _).mono ?_
  rintro e w10 ⟨uc, rfl, huc, hb10⟩
  replace HS := hide (show LiesF w10 w.heap.size (dgl n) ∧ LiesF w10 pa (dgl x) ∧ Below w.heap.size w w10 from ⟨HS.out.1.below hb10, HS.out.2.1.below hb10, below_trans HS.out.2.2 hb10⟩)
  replace hu7 := BigV.below hu7 hb10
  replace hu8 := BigV.below hu8 hb10
  clear hb10 hca hcx
  have hca := HS.out.1.1
  have hcx := HS.out.2.1.1
  go_wp2_with fail
  refine (HS4.out _ _ huc).mono ?_
  rintro e w11 ⟨ud, rfl, hud, hb11⟩
  replace HS := hide (show LiesF w11 w.heap.size (dgl n) ∧ LiesF w11 pa (dgl x) ∧ Below w.heap.size w w11 from ⟨HS.out.1.below hb11, HS.out.2.1.below hb11, below_trans HS.out.2.2 hb11⟩)
  replace hu7 := BigV.below hu7 hb11
  replace hu8 := BigV.below hu8 hb11
  clear hb11 hca hcx
  clear huc
  have hca := HS.out.1.1
  have hcx := HS.out.2.1.1
  go_wp2_with fail
  refine (HMU.out _ _ hu8).mono ?_
  rintro e w12 ⟨ue, rfl, hue, hb12⟩
  replace HS := hide (show LiesF w12 w.heap.size (dgl n) ∧ LiesF w12 pa (dgl x) ∧ Below w.heap.size w w12 from ⟨HS.out.1.below hb12, HS.out.2.1.below hb12, below_trans HS.out.2.2 hb12⟩)
  replace hu7 := BigV.below hu7 hb12
  replace hud := BigV.below hud hb12
  clear hb12 hca hcx
  clear hu8
  go_wp2_with fail
  refine (HCM.out _ _ _ hud hue).mono ?_
  rintro e wl ⟨rfl, hw⟩
  subst wl
  clear hud hue
  have hca := HS.out.1.1
  have hcx := HS.out.2.1.1
  go_wp2_with fail
  refine (HSM.out _).mono ?_
  rintro e w13 ⟨uf, rfl, huf, hb13⟩
  replace HS := hide (show LiesF w13 w.heap.size (dgl n) ∧ LiesF w13 pa (dgl x) ∧ Below w.heap.size w w13 from ⟨HS.out.1.below hb13, HS.out.2.1.below hb13, below_trans HS.out.2.2 hb13⟩)
  replace hu7 := BigV.below hu7 hb13
  clear hb13 hca hcx
  have hca := HS.out.1.1
  have hcx := HS.out.2.1.1
  go_wp2_with fail
  refine (HA1.out _ _ _ hu7 huf).mono ?_
  rintro e w14 ⟨ug, rfl, hug, hb14⟩
  replace HS := hide (show LiesF w14 w.heap.size (dgl n) ∧ LiesF w14 pa (dgl x) ∧ Below w.heap.size w w14 from ⟨HS.out.1.below hb14, HS.out.2.1.below hb14, below_trans HS.out.2.2 hb14⟩)
  clear hb14 hca hcx
  clear hu7 huf
  have hca := HS.out.1.1
  have hcx := HS.out.2.1.1
  go_wp2_with fail
  refine (HBX.out _).mono ?_
  rintro e w15 ⟨uh, rfl, huh, hb15⟩
  replace HS := hide (show LiesF w15 w.heap.size (dgl n) ∧ LiesF w15 pa (dgl x) ∧ Below w.heap.size w w15 from ⟨HS.out.1.below hb15, HS.out.2.1.below hb15, below_trans HS.out.2.2 hb15⟩)
  replace hug := BigV.below hug hb15
  clear hb15 hca hcx
  go_wp2_with fail
  refine (HCZ.out _ _ _ huh hug).mono ?_
  rintro e wl ⟨rfl, hw⟩
  subst wl
  clear huh hug
  have hca := HS.out.1.1
  have hcx := HS.out.2.1.1
  go_wp2_with fail
  refine (HAW.out _).mono ?_
  rintro e w16 ⟨rfl, hb16⟩
  replace HS := hide (show LiesF w16 w.heap.size (dgl n) ∧ LiesF w16 pa (dgl x) ∧ Below w.heap.size w w16 from ⟨HS.out.1.below hb16, HS.out.2.1.below hb16, below_trans HS.out.2.2 hb16⟩)
  clear hb16 hca hcx
  have hcx := HS.out.2.1.1
  have HB := hide HS.out.2.2
  clear HS
  go_wp2
  go_ret
  exact ⟨rfl, HB.out⟩

theorem cmpN_pos (a b : Nat) : 0 < cmpN a b ↔ b < a := by
  unfold cmpN
  by_cases h1 : a < b
  · rw [if_pos h1]
    omega
  · rw [if_neg h1]
    by_cases h2 : b < a
    · rw [if_pos h2]
      omega
    · rw [if_neg h2]
      omega
theorem round_num (n S : Nat) (h : S * S ≤ n) : n * 2 ^ 2 > (S * 2 ^ 1 + 1) * (S * 2 ^ 1 + 1) ↔ S < n - S ^ 2 := by
  have e : (S * 2 ^ 1 + 1) * (S * 2 ^ 1 + 1) = 4 * (S * S) + 4 * S + 1 := by
    rw [Nat.pow_one, Nat.add_mul, Nat.mul_add, show S * 2 * (S * 2) = 4 * (S * S) by rw [Nat.mul_mul_mul_comm]; omega]
    omega
  rw [e, Nat.pow_two S]
  generalize S * S = x at *
  omega
theorem root2Rounds_walk (n : Nat) (hnq : n < QQ) (w : World) : Calls Try.prog 11 #[.agg #[.int .u64 (dgl (n) 0 : Nat), .int .u64 (dgl (n) 1 : Nat), .int .u64 (dgl (n) 2 : Nat), .int .u64 (dgl (n) 3 : Nat), .int .u64 (dgl (n) 4 : Nat), .int .u64 (dgl (n) 5 : Nat), .int .u64 (dgl (n) 6 : Nat), .int .u64 (dgl (n) 7 : Nat)]] w fun e w' => e = .returned (.bool true) ∧ Below w.heap.size w w' := by
  have hz0 : ∀ w, (Op.equalIn 10000 24 (.agg #[.int .u64 (dgl (0) 0 : Nat), .int .u64 (dgl (0) 1 : Nat), .int .u64 (dgl (0) 2 : Nat), .int .u64 (dgl (0) 3 : Nat), .int .u64 (dgl (0) 4 : Nat), .int .u64 (dgl (0) 5 : Nat), .int .u64 (dgl (0) 6 : Nat), .int .u64 (dgl (0) 7 : Nat)]) (.agg #[.int .u64 0, .int .u64 0, .int .u64 0, .int .u64 0, .int .u64 0, .int .u64 0, .int .u64 0, .int .u64 0])).run Try.prog w = .ok true w := fun w => by
    have := wide_eqz (show 0 < QQ by decide +kernel) w
    rw [decide_eq_true rfl] at this
    exact this
  have HM := fun w => rmay12_any n hnq w
  by_cases hn : n < 2 ^ 256
  · obtain ⟨S, hs⟩ := root_ex 2 (by decide) n
    rw [decide_eq_true hn] at HM
    have hS := sq_le n S hs hn
    have hSq : S + 1 < QQ := Nat.lt_of_le_of_lt hS (by decide +kernel)
    have hrq : n - S ^ 2 < QQ := Nat.lt_of_le_of_lt (Nat.sub_le _ _) hnq
    have hle : S * S ≤ n := by
      have := (hs S).2 (Nat.le_refl _)
      rw [Nat.pow_two] at this
      exact this
    have HRT := fun w => root_ok n S hn hs w
    have HRR := fun w => refRoot_any n 2 S hnq (by decide) (by decide) hs (Nat.lt_of_lt_of_le hS (Nat.pow_le_pow_right (by decide) (by decide))) w
    have HSH : ∀ u w, BigV w u S 40 → Calls Try.prog 24 #[u, .int .i64 1] w fun e w' => ∃ v', e = .returned v' ∧ BigV w' v' (S * 2 ^ 1) 50 ∧ Below w.heap.size w w' := fun u w h =>
      (refShl_int S 40 1 1 u w h (by decide) (by decide) rfl).mono fun e w' ⟨v', e1, e2, e3⟩ => ⟨v', e1, e2.mono (by decide), e3⟩
    have HS4 : ∀ u w, BigV w u n 40 → Calls Try.prog 24 #[u, .int .i64 2] w fun e w' => ∃ v', e = .returned v' ∧ BigV w' v' (n * 2 ^ 2) 50 ∧ Below w.heap.size w w' := fun u w h =>
      (refShl_int n 40 2 2 u w h (by decide) (by decide) rfl).mono fun e w' ⟨v', e1, e2, e3⟩ => ⟨v', e1, e2.mono (by decide), e3⟩
    have HSM := fun w => small_any 1 (by decide) w
    have HAD : ∀ u v w, BigV w u (S * 2 ^ 1) 50 → BigV w v 1 2 → Calls Try.prog 31 #[u, v] w fun e w' => ∃ v', e = .returned v' ∧ BigV w' v' (S * 2 ^ 1 + 1) 60 ∧ Below w.heap.size w w' := fun u v w hu hv =>
      (refAdd_any (S * 2 ^ 1) 1 50 2 u v w hu hv (by decide) (by decide)).mono fun e w' ⟨v', e1, e2, e3⟩ => ⟨v', e1, e2.mono (by decide), e3⟩
    have HMU := fun u w (hu : BigV w u (S * 2 ^ 1 + 1) 60) => refMul_any (S * 2 ^ 1 + 1) (S * 2 ^ 1 + 1) 60 60 u u w hu hu (by decide) (by decide)
    have HCM := fun u v w (hu : BigV w u (n * 2 ^ 2) 50) (hv : BigV w v ((S * 2 ^ 1 + 1) * (S * 2 ^ 1 + 1)) 120) => cmp_any _ _ 50 120 u v w hu hv
    have HRN := round_num n S hle
    by_cases hg : S < n - S ^ 2
    · have hq : 0 < cmpN (n * 2 ^ 2) ((S * 2 ^ 1 + 1) * (S * 2 ^ 1 + 1)) := by
        exact (cmpN_pos _ _).2 (HRN.2 hg)
      refine rounds12_G n (S + 1) S (n - S ^ 2) _ _ _ _ _ (fun w => ?_) HM (fun w => awake12_any w) hq HRR (fun w => refBig_any S (by omega) w) (fun w => refBig_any n hnq w) (fun w => refBig_any (S + 1) hSq w) HSH HS4 HSM HAD HMU HCM
        (fun u v w hu hv => (refAdd_any S 1 40 2 u v w hu hv (by decide) (by decide)).mono fun e w' ⟨v', e1, e2, e3⟩ => ⟨v', e1, e2.mono (by decide), e3⟩) (fun u v w hu hv => ?_) w
      · refine prnd_G n S (n - S ^ 2) (cmpN (n - S ^ 2) S) ?_ HRT (fun w => wideCmp_any _ _ hrq (by omega) w) (fun v w hv => wideOf_any [1] 1 v w hv (fun i hi => (dig_one (β := 18446744073709551616) (show 1 < 18446744073709551616 by decide)).2 i)) (fun v w hv => psum2 S 1 (by omega) (by decide +kernel) v w hv) w
        exact (cmpN_pos _ _).2 hg
      · have := cmp_any (S + 1) (S + 1) 40 60 u v w hu hv
        rw [show cmpN (S + 1) (S + 1) = 0 by unfold cmpN; rw [if_neg (by omega), if_neg (by omega)]] at this
        exact this
    · have hq : ¬ 0 < cmpN (n * 2 ^ 2) ((S * 2 ^ 1 + 1) * (S * 2 ^ 1 + 1)) := by
        exact fun h => hg (HRN.1 ((cmpN_pos _ _).1 h))
      refine rounds12_N n S S (n - S ^ 2) _ _ _ _ _ (fun w => ?_) HM (fun w => awake12_any w) hq HRR (fun w => refBig_any S (by omega) w) (fun w => refBig_any n hnq w) (fun w => refBig_any S (by omega) w) HSH HS4 HSM HAD HMU HCM (fun u v w hu hv => ?_) rfl w
      · refine prnd_N n S (n - S ^ 2) (cmpN (n - S ^ 2) S) ?_ HRT (fun w => wideCmp_any _ _ hrq (by omega) w) w
        exact fun h => hg ((cmpN_pos _ _).1 h)
      · have := cmp_any S S 40 40 u v w hu hv
        rw [show cmpN S S = 0 by unfold cmpN; rw [if_neg (by omega), if_neg (by omega)]] at this
        exact this
  · rw [decide_eq_false hn] at HM
    have HRD := fun w => prnd_E n (fun w => root_err n hnq hn w) w
    rw [← w8_zero] at HRD
    exact rounds12_E n 0 0 0 0 0 0 0 0 HRD HM (fun w => awake12_any w) hz0 w

end Go.Proofs.Ytmbbhagjfgjhgaa

/- For all wides the law radicandlaw12.Root2Rounds returns true, and its argument reads afterwards as it read before. No condition. -/
namespace Go.Proofs.Ytmbbhagjfgjhgaa.root2Rounds
open Go.ChangeShapes Go.WideShapes Go.ChangeAt Go.RowKit Go.Proofs.Ytmbbhagjfgjhgaa

theorem own : ownKnob Try.prog.godebug = none := by kernel_rfl
theorem laidOut : laidOutB Try.prog = true := by kernel_rfl

set_option maxRecDepth 100000 in
theorem lifted (os : Os) (started : os.Started) (H : Type) (enc : TypeId × Value → H) :
    ReturnsInHanded {} Try.checked os 11 .any (Rows.root2RoundsSpec.pre6 enc Try.prog Try.f11 Rows.root2RoundsRow.domain false) (Rows.root2RoundsSpec.post enc Try.prog Try.f11 false true false false) := by
  refine returnsInHanded_of_change (C := Try.checked) own started (by kernel_rfl) Try.func11
    (ChangeSpec.witness6 (enc := enc) (C := Try.checked) false ⟨#[], #[.agg #[.int .u64 0, .int .u64 0, .int .u64 0, .int .u64 0, .int .u64 0, .int .u64 0, .int .u64 0, .int .u64 0]], []⟩ 40 (by kernel_rfl) (by kernel_rfl) (by kernel_rfl) (by kernel_rfl)) ?_
  intro W base args ds gs before hval0 hW hcnd _
  have hval : ∀ (j : Nat) t v, Try.f11.params[j]? = some t → args[j]? = some v → Value.okWide Try.prog W .any base t v := hval0
  have hW' := hW
  obtain ⟨p, q, hA0, hV, rfl, hfz, hnd⟩ := hW
  have hA : DataW.TrodAll enc Try.prog W 0 (fun _ => true) true Try.f11.params.toList args.toList ds p := hA0
  rw [Try.params11] at hA hval
  obtain ⟨v0, vs0, d0, ds0, p0, q0, hargs, rfl, rfl, h0, r0⟩ := trodAll_cons hA
  obtain ⟨rfl, rfl, rfl⟩ := trodAll_nil r0
  obtain rfl : args = #[v0] := by cases args; simp_all
  obtain ⟨rfl, rfl⟩ := trodVars_none hV
  have k0 := h0
  have lt0 : ∀ x ∈ p0, x.block < W.heap.size := by obtain ⟨m, hm⟩ := k0; exact DataW.trod_lt m _ _ _ hm
  obtain ⟨x0, hx0, rfl⟩ := wide_of_trod (hval 0 24 v0 rfl rfl) h0
  clear hA0 hval0
  refine (root2Rounds_walk x0 hx0 W).mono fun e W' ⟨he, bel⟩ => ?_
  subst he
  exact ⟨_, rfl, _, _, _, [], _, [], hW', trodAll_mk1 (shut_bool Try.underlying4 _), (trodAll_cons_mk (Below.trod laidOut (by kernel_rfl) (of_decide_eq_true (by kernel_rfl)) k0 bel lt0) trodAll_mk0), rfl, bel.frame _, fun h => by cases h⟩

theorem over : Rows.root2RoundsRow.holds Try.pinned (OpenSpec.ofChange Rows.root2RoundsSpec) :=
  OpenClaim.holds_of_wide 11 Try.f11 rfl rfl rfl rfl rfl rfl rfl ⟨rfl, rfl, rfl, rfl, rfl⟩ rfl rfl rfl rfl rfl (by kernel_rfl) Try.func11 (by kernel_rfl)
    (of_decide_eq_true (by kernel_rfl)) (by unfold Func.isWrapper; first | (rw [if_pos (by decide +kernel)]; kernel_rfl) | (rw [if_neg (by decide +kernel)]; exact ⟨rfl, rfl⟩))
    (fun os started H enc _ => lifted os started H enc)

theorem proved : Rows.Root2RoundsSaid := over
#print axioms proved
end Go.Proofs.Ytmbbhagjfgjhgaa.root2Rounds

