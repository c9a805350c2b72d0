/- For all wides and ints the law radicandlaw16.SrtrootFar returns true and leaves what came in as it was. No condition. -/
import Derived.Test.YtbngaajhdaciaaaPartAV
import Derived.Test.YtbngaajhdaciaaaPartAS
import Derived.Test.YtbngaajhdaciaaaRows
import Derived.WalkKit
import Derived.ProofKit
import Derived.OpenShut
import Derived.ShutString
import Derived.ChangeOld
import Derived.Below
/- For all wides and ints the law radicandlaw16.SrtrootFar returns true. -/
set_option linter.unusedVariables false
set_option linter.unusedSimpArgs false
set_option maxRecDepth 8000
namespace Go.Proofs.Ytbngaajhdaciaaa
open Go.RowKit Plain

set_option maxHeartbeats 4000000 in
theorem srtrootFar_N1 (n a x : Nat) (s : Int) (hz : s < 0 ∨ 64 < s) (hq : ∀ w, (Op.equalIn 10000 24 (.agg #[.int .u64 (dgl (n) 0 : Nat), .int .u64 (dgl (n) 1 : Nat), .int .u64 (dgl (n) 2 : Nat), .int .u64 (dgl (n) 3 : Nat), .int .u64 (dgl (n) 4 : Nat), .int .u64 (dgl (n) 5 : Nat), .int .u64 (dgl (n) 6 : Nat), .int .u64 (dgl (n) 7 : Nat)]) (.agg #[.int .u64 0, .int .u64 0, .int .u64 0, .int .u64 0, .int .u64 0, .int .u64 0, .int .u64 0, .int .u64 0])).run Try.prog w = .ok true w)
    (HL : Hid (∀ w, Calls Try.prog 14 #[.agg #[.int .u64 (dgl (n) 0 : Nat), .int .u64 (dgl (n) 1 : Nat), .int .u64 (dgl (n) 2 : Nat), .int .u64 (dgl (n) 3 : Nat), .int .u64 (dgl (n) 4 : Nat), .int .u64 (dgl (n) 5 : Nat), .int .u64 (dgl (n) 6 : Nat), .int .u64 (dgl (n) 7 : Nat)], .int .i64 s] w fun e w' => e = .returned (.tuple #[.agg #[.int .u64 (dgl (a) 0 : Nat), .int .u64 (dgl (a) 1 : Nat), .int .u64 (dgl (a) 2 : Nat), .int .u64 (dgl (a) 3 : Nat), .int .u64 (dgl (a) 4 : Nat), .int .u64 (dgl (a) 5 : Nat), .int .u64 (dgl (a) 6 : Nat), .int .u64 (dgl (a) 7 : Nat)], .int .i64 4]) ∧ Below w.heap.size w w'))
    (HNO : Hid (∀ w, Calls Try.prog 15 #[.agg #[.int .u64 (dgl (n) 0 : Nat), .int .u64 (dgl (n) 1 : Nat), .int .u64 (dgl (n) 2 : Nat), .int .u64 (dgl (n) 3 : Nat), .int .u64 (dgl (n) 4 : Nat), .int .u64 (dgl (n) 5 : Nat), .int .u64 (dgl (n) 6 : Nat), .int .u64 (dgl (n) 7 : Nat)]] w fun e w' => e = .returned (.tuple #[.agg #[.int .u64 (dgl (x) 0 : Nat), .int .u64 (dgl (x) 1 : Nat), .int .u64 (dgl (x) 2 : Nat), .int .u64 (dgl (x) 3 : Nat), .int .u64 (dgl (x) 4 : Nat), .int .u64 (dgl (x) 5 : Nat), .int .u64 (dgl (x) 6 : Nat), .int .u64 (dgl (x) 7 : Nat)], .int .i64 0, .bool false]) ∧ Below w.heap.size w w'))
    (HM : Hid (∀ w, Calls Try.prog 11 #[.agg #[.int .u64 (dgl (n) 0 : Nat), .int .u64 (dgl (n) 1 : Nat), .int .u64 (dgl (n) 2 : Nat), .int .u64 (dgl (n) 3 : Nat), .int .u64 (dgl (n) 4 : Nat), .int .u64 (dgl (n) 5 : Nat), .int .u64 (dgl (n) 6 : Nat), .int .u64 (dgl (n) 7 : Nat)]] w fun e w' => e = .returned (.bool true) ∧ Below w.heap.size w w'))
    (HAW : Hid (∀ w, Calls Try.prog 9 #[] w fun e w' => e = .returned (.bool true) ∧ Below w.heap.size w w'))
    (hqa : ∀ w, (Op.equalIn 10000 24 (.agg #[.int .u64 (dgl (a) 0 : Nat), .int .u64 (dgl (a) 1 : Nat), .int .u64 (dgl (a) 2 : Nat), .int .u64 (dgl (a) 3 : Nat), .int .u64 (dgl (a) 4 : Nat), .int .u64 (dgl (a) 5 : Nat), .int .u64 (dgl (a) 6 : Nat), .int .u64 (dgl (a) 7 : Nat)]) (.agg #[.int .u64 0, .int .u64 0, .int .u64 0, .int .u64 0, .int .u64 0, .int .u64 0, .int .u64 0, .int .u64 0])).run Try.prog w = .ok true w)
    (hqx : ∀ w, (Op.equalIn 10000 24 (.agg #[.int .u64 (dgl (x) 0 : Nat), .int .u64 (dgl (x) 1 : Nat), .int .u64 (dgl (x) 2 : Nat), .int .u64 (dgl (x) 3 : Nat), .int .u64 (dgl (x) 4 : Nat), .int .u64 (dgl (x) 5 : Nat), .int .u64 (dgl (x) 6 : Nat), .int .u64 (dgl (x) 7 : Nat)]) (.agg #[.int .u64 0, .int .u64 0, .int .u64 0, .int .u64 0, .int .u64 0, .int .u64 0, .int .u64 0, .int .u64 0])).run Try.prog w = .ok true w) (w : World) :
    Calls Try.prog 5 #[.agg #[.int .u64 (dgl (n) 0 : Nat), .int .u64 (dgl (n) 1 : Nat), .int .u64 (dgl (n) 2 : Nat), .int .u64 (dgl (n) 3 : Nat), .int .u64 (dgl (n) 4 : Nat), .int .u64 (dgl (n) 5 : Nat), .int .u64 (dgl (n) 6 : Nat), .int .u64 (dgl (n) 7 : Nat)], .int .i64 s] w fun e w' => e = .returned (.bool true) ∧ Below w.heap.size w w' := by
  have HZ := hide hz
  clear hz
  have HS : Hid (OnSt n w (w.alloc (.cells #[.int .u64 (dgl (n) 0 : Nat), .int .u64 (dgl (n) 1 : Nat), .int .u64 (dgl (n) 2 : Nat), .int .u64 (dgl (n) 3 : Nat), .int .u64 (dgl (n) 4 : Nat), .int .u64 (dgl (n) 5 : Nat), .int .u64 (dgl (n) 6 : Nat), .int .u64 (dgl (n) 7 : Nat)] 24))) := ⟨liesF_new w (dgl n) _, below_allocs _ _⟩
  go_enter Try.func5, Try.ntmps5
  have hca := HS.out.lx.1
  go_wp2_with fail
  refine (HL.out _).mono ?_
  rintro e' w1 ⟨rfl, hb1⟩
  replace HS := hide (HS.out.below hb1)
  clear hb1 hca HL
  go_upto_region 2 with fail
  refine wp_gen (fun W => OnSt n w W ∧ LiesF W w1.heap.size (dgl a)) ⟨HS.out.below (below_allocs _ _), liesF_new w1 (dgl a) _⟩ ?_
  clear HS
  generalize w1.heap.size = p5 at *
  rintro W2 h2
  have HS := hide h2
  have hcb := h2.1.lx.1
  clear h2
  go_wp2_with fail
  refine (HNO.out _).mono ?_
  rintro e' w2 ⟨rfl, hb2⟩
  replace HS := hide (show OnSt n w w2 ∧ LiesF w2 p5 (dgl a) from ⟨HS.out.1.below hb2, HS.out.2.below hb2⟩)
  clear hb2 hcb HNO
  go_upto_region 3 with fail
  refine wp_gen (fun W => OnSt n w W ∧ LiesF W p5 (dgl a) ∧ LiesF W w2.heap.size (dgl x)) ⟨HS.out.1.below (below_allocs _ _), HS.out.2.below (below_allocs _ _), liesF_new w2 (dgl x) _⟩ ?_
  clear HS
  generalize w2.heap.size = p7 at *
  rintro W3 h3
  have HS := hide h3
  have hcb := h3.1.lx.1
  clear h3
  go_wp2_with fail
  refine (HM.out _).mono ?_
  rintro e' w3 ⟨rfl, hb3⟩
  replace HS := hide (show OnSt n w w3 ∧ LiesF w3 p5 (dgl a) ∧ LiesF w3 p7 (dgl x) from ⟨HS.out.1.below hb3, HS.out.2.1.below hb3, HS.out.2.2.below hb3⟩)
  clear hb3 hcb HM
  have hcb := HS.out.1.lx.1
  have hx7 := HS.out.2.2.1
  rcases HZ.out with h | h
  · skip
    have ha5 := HS.out.2.1.1
    have HB := hide HS.out.1.bel
    clear HS
    go_wp2_with fail
    refine (HAW.out _).mono ?_
    rintro e' w9 ⟨rfl, hb9⟩
    replace HB := hide (below_trans HB.out hb9)
    clear hb9
    go_wp2
    go_ret
    exact ⟨rfl, HB.out⟩
  · have h0 : ¬ s < 0 := by omega
    have ha5 := HS.out.2.1.1
    have HB := hide HS.out.1.bel
    clear HS
    go_wp2_with fail
    refine (HAW.out _).mono ?_
    rintro e' w9 ⟨rfl, hb9⟩
    replace HB := hide (below_trans HB.out hb9)
    clear hb9
    go_wp2
    go_ret
    exact ⟨rfl, HB.out⟩

set_option maxHeartbeats 4000000 in
theorem srtrootFar_N2 (n a x : Nat) (s : Int) (hz : 0 ≤ s ∧ s ≤ 64) (hq : ∀ w, (Op.equalIn 10000 24 (.agg #[.int .u64 (dgl (n) 0 : Nat), .int .u64 (dgl (n) 1 : Nat), .int .u64 (dgl (n) 2 : Nat), .int .u64 (dgl (n) 3 : Nat), .int .u64 (dgl (n) 4 : Nat), .int .u64 (dgl (n) 5 : Nat), .int .u64 (dgl (n) 6 : Nat), .int .u64 (dgl (n) 7 : Nat)]) (.agg #[.int .u64 0, .int .u64 0, .int .u64 0, .int .u64 0, .int .u64 0, .int .u64 0, .int .u64 0, .int .u64 0])).run Try.prog w = .ok true w)
    (HL : Hid (∀ w, Calls Try.prog 14 #[.agg #[.int .u64 (dgl (n) 0 : Nat), .int .u64 (dgl (n) 1 : Nat), .int .u64 (dgl (n) 2 : Nat), .int .u64 (dgl (n) 3 : Nat), .int .u64 (dgl (n) 4 : Nat), .int .u64 (dgl (n) 5 : Nat), .int .u64 (dgl (n) 6 : Nat), .int .u64 (dgl (n) 7 : Nat)], .int .i64 s] w fun e w' => e = .returned (.tuple #[.agg #[.int .u64 (dgl (a) 0 : Nat), .int .u64 (dgl (a) 1 : Nat), .int .u64 (dgl (a) 2 : Nat), .int .u64 (dgl (a) 3 : Nat), .int .u64 (dgl (a) 4 : Nat), .int .u64 (dgl (a) 5 : Nat), .int .u64 (dgl (a) 6 : Nat), .int .u64 (dgl (a) 7 : Nat)], .int .i64 0]) ∧ Below w.heap.size w w'))
    (HNO : Hid (∀ w, Calls Try.prog 15 #[.agg #[.int .u64 (dgl (n) 0 : Nat), .int .u64 (dgl (n) 1 : Nat), .int .u64 (dgl (n) 2 : Nat), .int .u64 (dgl (n) 3 : Nat), .int .u64 (dgl (n) 4 : Nat), .int .u64 (dgl (n) 5 : Nat), .int .u64 (dgl (n) 6 : Nat), .int .u64 (dgl (n) 7 : Nat)]] w fun e w' => e = .returned (.tuple #[.agg #[.int .u64 (dgl (x) 0 : Nat), .int .u64 (dgl (x) 1 : Nat), .int .u64 (dgl (x) 2 : Nat), .int .u64 (dgl (x) 3 : Nat), .int .u64 (dgl (x) 4 : Nat), .int .u64 (dgl (x) 5 : Nat), .int .u64 (dgl (x) 6 : Nat), .int .u64 (dgl (x) 7 : Nat)], .int .i64 0, .bool false]) ∧ Below w.heap.size w w'))
    (HM : Hid (∀ w, Calls Try.prog 11 #[.agg #[.int .u64 (dgl (n) 0 : Nat), .int .u64 (dgl (n) 1 : Nat), .int .u64 (dgl (n) 2 : Nat), .int .u64 (dgl (n) 3 : Nat), .int .u64 (dgl (n) 4 : Nat), .int .u64 (dgl (n) 5 : Nat), .int .u64 (dgl (n) 6 : Nat), .int .u64 (dgl (n) 7 : Nat)]] w fun e w' => e = .returned (.bool true) ∧ Below w.heap.size w w'))
    (HAW : Hid (∀ w, Calls Try.prog 9 #[] w fun e w' => e = .returned (.bool true) ∧ Below w.heap.size w w'))
    (hqa : ∀ w, (Op.equalIn 10000 24 (.agg #[.int .u64 (dgl (a) 0 : Nat), .int .u64 (dgl (a) 1 : Nat), .int .u64 (dgl (a) 2 : Nat), .int .u64 (dgl (a) 3 : Nat), .int .u64 (dgl (a) 4 : Nat), .int .u64 (dgl (a) 5 : Nat), .int .u64 (dgl (a) 6 : Nat), .int .u64 (dgl (a) 7 : Nat)]) (.agg #[.int .u64 0, .int .u64 0, .int .u64 0, .int .u64 0, .int .u64 0, .int .u64 0, .int .u64 0, .int .u64 0])).run Try.prog w = .ok true w)
    (hqx : ∀ w, (Op.equalIn 10000 24 (.agg #[.int .u64 (dgl (x) 0 : Nat), .int .u64 (dgl (x) 1 : Nat), .int .u64 (dgl (x) 2 : Nat), .int .u64 (dgl (x) 3 : Nat), .int .u64 (dgl (x) 4 : Nat), .int .u64 (dgl (x) 5 : Nat), .int .u64 (dgl (x) 6 : Nat), .int .u64 (dgl (x) 7 : Nat)]) (.agg #[.int .u64 0, .int .u64 0, .int .u64 0, .int .u64 0, .int .u64 0, .int .u64 0, .int .u64 0, .int .u64 0])).run Try.prog w = .ok true w) (w : World) :
    Calls Try.prog 5 #[.agg #[.int .u64 (dgl (n) 0 : Nat), .int .u64 (dgl (n) 1 : Nat), .int .u64 (dgl (n) 2 : Nat), .int .u64 (dgl (n) 3 : Nat), .int .u64 (dgl (n) 4 : Nat), .int .u64 (dgl (n) 5 : Nat), .int .u64 (dgl (n) 6 : Nat), .int .u64 (dgl (n) 7 : Nat)], .int .i64 s] w fun e w' => e = .returned (.bool true) ∧ Below w.heap.size w w' := by
  have HZ := hide hz
  clear hz
  have HS : Hid (OnSt n w (w.alloc (.cells #[.int .u64 (dgl (n) 0 : Nat), .int .u64 (dgl (n) 1 : Nat), .int .u64 (dgl (n) 2 : Nat), .int .u64 (dgl (n) 3 : Nat), .int .u64 (dgl (n) 4 : Nat), .int .u64 (dgl (n) 5 : Nat), .int .u64 (dgl (n) 6 : Nat), .int .u64 (dgl (n) 7 : Nat)] 24))) := ⟨liesF_new w (dgl n) _, below_allocs _ _⟩
  go_enter Try.func5, Try.ntmps5
  have hca := HS.out.lx.1
  go_wp2_with fail
  refine (HL.out _).mono ?_
  rintro e' w1 ⟨rfl, hb1⟩
  replace HS := hide (HS.out.below hb1)
  clear hb1 hca HL
  go_upto_region 2 with fail
  refine wp_gen (fun W => OnSt n w W ∧ LiesF W w1.heap.size (dgl a)) ⟨HS.out.below (below_allocs _ _), liesF_new w1 (dgl a) _⟩ ?_
  clear HS
  generalize w1.heap.size = p5 at *
  rintro W2 h2
  have HS := hide h2
  have hcb := h2.1.lx.1
  clear h2
  go_wp2_with fail
  refine (HNO.out _).mono ?_
  rintro e' w2 ⟨rfl, hb2⟩
  replace HS := hide (show OnSt n w w2 ∧ LiesF w2 p5 (dgl a) from ⟨HS.out.1.below hb2, HS.out.2.below hb2⟩)
  clear hb2 hcb HNO
  go_upto_region 3 with fail
  refine wp_gen (fun W => OnSt n w W ∧ LiesF W p5 (dgl a) ∧ LiesF W w2.heap.size (dgl x)) ⟨HS.out.1.below (below_allocs _ _), HS.out.2.below (below_allocs _ _), liesF_new w2 (dgl x) _⟩ ?_
  clear HS
  generalize w2.heap.size = p7 at *
  rintro W3 h3
  have HS := hide h3
  have hcb := h3.1.lx.1
  clear h3
  go_wp2_with fail
  refine (HM.out _).mono ?_
  rintro e' w3 ⟨rfl, hb3⟩
  replace HS := hide (show OnSt n w w3 ∧ LiesF w3 p5 (dgl a) ∧ LiesF w3 p7 (dgl x) from ⟨HS.out.1.below hb3, HS.out.2.1.below hb3, HS.out.2.2.below hb3⟩)
  clear hb3 hcb HM
  have hcb := HS.out.1.lx.1
  have hx7 := HS.out.2.2.1
  have h1 : ¬ s < 0 := by have := HZ.out; omega
  have h2 : ¬ 64 < s := by have := HZ.out; omega
  have ha5 := HS.out.2.1.1
  have HB := hide HS.out.1.bel
  clear HS
  go_wp2_with fail
  refine (HAW.out _).mono ?_
  rintro e' w9 ⟨rfl, hb9⟩
  replace HB := hide (below_trans HB.out hb9)
  clear hb9
  go_wp2
  go_ret
  exact ⟨rfl, HB.out⟩

set_option maxHeartbeats 4000000 in
theorem srtrootFar_N3 (n a x : Nat) (s : Int)  (hq : ∀ w, (Op.equalIn 10000 24 (.agg #[.int .u64 (dgl (n) 0 : Nat), .int .u64 (dgl (n) 1 : Nat), .int .u64 (dgl (n) 2 : Nat), .int .u64 (dgl (n) 3 : Nat), .int .u64 (dgl (n) 4 : Nat), .int .u64 (dgl (n) 5 : Nat), .int .u64 (dgl (n) 6 : Nat), .int .u64 (dgl (n) 7 : Nat)]) (.agg #[.int .u64 0, .int .u64 0, .int .u64 0, .int .u64 0, .int .u64 0, .int .u64 0, .int .u64 0, .int .u64 0])).run Try.prog w = .ok false w)
    (HL : Hid (∀ w, Calls Try.prog 14 #[.agg #[.int .u64 (dgl (n) 0 : Nat), .int .u64 (dgl (n) 1 : Nat), .int .u64 (dgl (n) 2 : Nat), .int .u64 (dgl (n) 3 : Nat), .int .u64 (dgl (n) 4 : Nat), .int .u64 (dgl (n) 5 : Nat), .int .u64 (dgl (n) 6 : Nat), .int .u64 (dgl (n) 7 : Nat)], .int .i64 s] w fun e w' => e = .returned (.tuple #[.agg #[.int .u64 (dgl (a) 0 : Nat), .int .u64 (dgl (a) 1 : Nat), .int .u64 (dgl (a) 2 : Nat), .int .u64 (dgl (a) 3 : Nat), .int .u64 (dgl (a) 4 : Nat), .int .u64 (dgl (a) 5 : Nat), .int .u64 (dgl (a) 6 : Nat), .int .u64 (dgl (a) 7 : Nat)], .int .i64 4]) ∧ Below w.heap.size w w'))
    (HNO : Hid (∀ w, Calls Try.prog 15 #[.agg #[.int .u64 (dgl (n) 0 : Nat), .int .u64 (dgl (n) 1 : Nat), .int .u64 (dgl (n) 2 : Nat), .int .u64 (dgl (n) 3 : Nat), .int .u64 (dgl (n) 4 : Nat), .int .u64 (dgl (n) 5 : Nat), .int .u64 (dgl (n) 6 : Nat), .int .u64 (dgl (n) 7 : Nat)]] w fun e w' => e = .returned (.tuple #[.agg #[.int .u64 (dgl (x) 0 : Nat), .int .u64 (dgl (x) 1 : Nat), .int .u64 (dgl (x) 2 : Nat), .int .u64 (dgl (x) 3 : Nat), .int .u64 (dgl (x) 4 : Nat), .int .u64 (dgl (x) 5 : Nat), .int .u64 (dgl (x) 6 : Nat), .int .u64 (dgl (x) 7 : Nat)], .int .i64 0, .bool false]) ∧ Below w.heap.size w w'))
    (HM : Hid (∀ w, Calls Try.prog 11 #[.agg #[.int .u64 (dgl (n) 0 : Nat), .int .u64 (dgl (n) 1 : Nat), .int .u64 (dgl (n) 2 : Nat), .int .u64 (dgl (n) 3 : Nat), .int .u64 (dgl (n) 4 : Nat), .int .u64 (dgl (n) 5 : Nat), .int .u64 (dgl (n) 6 : Nat), .int .u64 (dgl (n) 7 : Nat)]] w fun e w' => e = .returned (.bool false) ∧ Below w.heap.size w w'))
    (HAW : Hid (∀ w, Calls Try.prog 9 #[] w fun e w' => e = .returned (.bool true) ∧ Below w.heap.size w w'))
    (hqa : ∀ w, (Op.equalIn 10000 24 (.agg #[.int .u64 (dgl (a) 0 : Nat), .int .u64 (dgl (a) 1 : Nat), .int .u64 (dgl (a) 2 : Nat), .int .u64 (dgl (a) 3 : Nat), .int .u64 (dgl (a) 4 : Nat), .int .u64 (dgl (a) 5 : Nat), .int .u64 (dgl (a) 6 : Nat), .int .u64 (dgl (a) 7 : Nat)]) (.agg #[.int .u64 0, .int .u64 0, .int .u64 0, .int .u64 0, .int .u64 0, .int .u64 0, .int .u64 0, .int .u64 0])).run Try.prog w = .ok true w)
    (hqx : ∀ w, (Op.equalIn 10000 24 (.agg #[.int .u64 (dgl (x) 0 : Nat), .int .u64 (dgl (x) 1 : Nat), .int .u64 (dgl (x) 2 : Nat), .int .u64 (dgl (x) 3 : Nat), .int .u64 (dgl (x) 4 : Nat), .int .u64 (dgl (x) 5 : Nat), .int .u64 (dgl (x) 6 : Nat), .int .u64 (dgl (x) 7 : Nat)]) (.agg #[.int .u64 0, .int .u64 0, .int .u64 0, .int .u64 0, .int .u64 0, .int .u64 0, .int .u64 0, .int .u64 0])).run Try.prog w = .ok true w) (w : World) :
    Calls Try.prog 5 #[.agg #[.int .u64 (dgl (n) 0 : Nat), .int .u64 (dgl (n) 1 : Nat), .int .u64 (dgl (n) 2 : Nat), .int .u64 (dgl (n) 3 : Nat), .int .u64 (dgl (n) 4 : Nat), .int .u64 (dgl (n) 5 : Nat), .int .u64 (dgl (n) 6 : Nat), .int .u64 (dgl (n) 7 : Nat)], .int .i64 s] w fun e w' => e = .returned (.bool true) ∧ Below w.heap.size w w' := by
  have HS : Hid (OnSt n w (w.alloc (.cells #[.int .u64 (dgl (n) 0 : Nat), .int .u64 (dgl (n) 1 : Nat), .int .u64 (dgl (n) 2 : Nat), .int .u64 (dgl (n) 3 : Nat), .int .u64 (dgl (n) 4 : Nat), .int .u64 (dgl (n) 5 : Nat), .int .u64 (dgl (n) 6 : Nat), .int .u64 (dgl (n) 7 : Nat)] 24))) := ⟨liesF_new w (dgl n) _, below_allocs _ _⟩
  go_enter Try.func5, Try.ntmps5
  have hca := HS.out.lx.1
  go_wp2_with fail
  refine (HL.out _).mono ?_
  rintro e' w1 ⟨rfl, hb1⟩
  replace HS := hide (HS.out.below hb1)
  clear hb1 hca HL
  go_upto_region 2 with fail
  refine wp_gen (fun W => OnSt n w W ∧ LiesF W w1.heap.size (dgl a)) ⟨HS.out.below (below_allocs _ _), liesF_new w1 (dgl a) _⟩ ?_
  clear HS
  generalize w1.heap.size = p5 at *
  rintro W2 h2
  have HS := hide h2
  have hcb := h2.1.lx.1
  clear h2
  go_wp2_with fail
  refine (HNO.out _).mono ?_
  rintro e' w2 ⟨rfl, hb2⟩
  replace HS := hide (show OnSt n w w2 ∧ LiesF w2 p5 (dgl a) from ⟨HS.out.1.below hb2, HS.out.2.below hb2⟩)
  clear hb2 hcb HNO
  go_upto_region 3 with fail
  refine wp_gen (fun W => OnSt n w W ∧ LiesF W p5 (dgl a) ∧ LiesF W w2.heap.size (dgl x)) ⟨HS.out.1.below (below_allocs _ _), HS.out.2.below (below_allocs _ _), liesF_new w2 (dgl x) _⟩ ?_
  clear HS
  generalize w2.heap.size = p7 at *
  rintro W3 h3
  have HS := hide h3
  have hcb := h3.1.lx.1
  clear h3
  go_wp2_with fail
  refine (HM.out _).mono ?_
  rintro e' w3 ⟨rfl, hb3⟩
  replace HS := hide (show OnSt n w w3 ∧ LiesF w3 p5 (dgl a) ∧ LiesF w3 p7 (dgl x) from ⟨HS.out.1.below hb3, HS.out.2.1.below hb3, HS.out.2.2.below hb3⟩)
  clear hb3 hcb HM
  have hcb := HS.out.1.lx.1
  have hx7 := HS.out.2.2.1
  by_cases h1 : s < 0
  · skip
    have ha5 := HS.out.2.1.1
    have HB := hide HS.out.1.bel
    clear HS
    go_wp2_with fail
    refine (HAW.out _).mono ?_
    rintro e' w9 ⟨rfl, hb9⟩
    replace HB := hide (below_trans HB.out hb9)
    clear hb9
    go_wp2
    go_ret
    exact ⟨rfl, HB.out⟩
  · by_cases h2 : 64 < s
    · skip
      have ha5 := HS.out.2.1.1
      have HB := hide HS.out.1.bel
      clear HS
      go_wp2_with fail
      refine (HAW.out _).mono ?_
      rintro e' w9 ⟨rfl, hb9⟩
      replace HB := hide (below_trans HB.out hb9)
      clear hb9
      go_wp2
      go_ret
      exact ⟨rfl, HB.out⟩
    · skip
      have ha5 := HS.out.2.1.1
      have HB := hide HS.out.1.bel
      clear HS
      go_wp2_with fail
      refine (HAW.out _).mono ?_
      rintro e' w9 ⟨rfl, hb9⟩
      replace HB := hide (below_trans HB.out hb9)
      clear hb9
      go_wp2
      go_ret
      exact ⟨rfl, HB.out⟩

set_option maxHeartbeats 4000000 in
theorem srtrootFar_Y1 (n a x : Nat) (s b : Int) (hz : s < 0 ∨ 64 < s) (hq : ∀ w, (Op.equalIn 10000 24 (.agg #[.int .u64 (dgl (n) 0 : Nat), .int .u64 (dgl (n) 1 : Nat), .int .u64 (dgl (n) 2 : Nat), .int .u64 (dgl (n) 3 : Nat), .int .u64 (dgl (n) 4 : Nat), .int .u64 (dgl (n) 5 : Nat), .int .u64 (dgl (n) 6 : Nat), .int .u64 (dgl (n) 7 : Nat)]) (.agg #[.int .u64 0, .int .u64 0, .int .u64 0, .int .u64 0, .int .u64 0, .int .u64 0, .int .u64 0, .int .u64 0])).run Try.prog w = .ok false w)
    (HL : Hid (∀ w, Calls Try.prog 14 #[.agg #[.int .u64 (dgl (n) 0 : Nat), .int .u64 (dgl (n) 1 : Nat), .int .u64 (dgl (n) 2 : Nat), .int .u64 (dgl (n) 3 : Nat), .int .u64 (dgl (n) 4 : Nat), .int .u64 (dgl (n) 5 : Nat), .int .u64 (dgl (n) 6 : Nat), .int .u64 (dgl (n) 7 : Nat)], .int .i64 s] w fun e w' => e = .returned (.tuple #[.agg #[.int .u64 (dgl (a) 0 : Nat), .int .u64 (dgl (a) 1 : Nat), .int .u64 (dgl (a) 2 : Nat), .int .u64 (dgl (a) 3 : Nat), .int .u64 (dgl (a) 4 : Nat), .int .u64 (dgl (a) 5 : Nat), .int .u64 (dgl (a) 6 : Nat), .int .u64 (dgl (a) 7 : Nat)], .int .i64 4]) ∧ Below w.heap.size w w'))
    (HNO : Hid (∀ w, Calls Try.prog 15 #[.agg #[.int .u64 (dgl (n) 0 : Nat), .int .u64 (dgl (n) 1 : Nat), .int .u64 (dgl (n) 2 : Nat), .int .u64 (dgl (n) 3 : Nat), .int .u64 (dgl (n) 4 : Nat), .int .u64 (dgl (n) 5 : Nat), .int .u64 (dgl (n) 6 : Nat), .int .u64 (dgl (n) 7 : Nat)]] w fun e w' => e = .returned (.tuple #[.agg #[.int .u64 (dgl (x) 0 : Nat), .int .u64 (dgl (x) 1 : Nat), .int .u64 (dgl (x) 2 : Nat), .int .u64 (dgl (x) 3 : Nat), .int .u64 (dgl (x) 4 : Nat), .int .u64 (dgl (x) 5 : Nat), .int .u64 (dgl (x) 6 : Nat), .int .u64 (dgl (x) 7 : Nat)], .int .i64 b, .bool true]) ∧ Below w.heap.size w w'))
    (HM : Hid (∀ w, Calls Try.prog 11 #[.agg #[.int .u64 (dgl (n) 0 : Nat), .int .u64 (dgl (n) 1 : Nat), .int .u64 (dgl (n) 2 : Nat), .int .u64 (dgl (n) 3 : Nat), .int .u64 (dgl (n) 4 : Nat), .int .u64 (dgl (n) 5 : Nat), .int .u64 (dgl (n) 6 : Nat), .int .u64 (dgl (n) 7 : Nat)]] w fun e w' => e = .returned (.bool true) ∧ Below w.heap.size w w'))
    (HAW : Hid (∀ w, Calls Try.prog 9 #[] w fun e w' => e = .returned (.bool true) ∧ Below w.heap.size w w'))
    (hqa : ∀ w, (Op.equalIn 10000 24 (.agg #[.int .u64 (dgl (a) 0 : Nat), .int .u64 (dgl (a) 1 : Nat), .int .u64 (dgl (a) 2 : Nat), .int .u64 (dgl (a) 3 : Nat), .int .u64 (dgl (a) 4 : Nat), .int .u64 (dgl (a) 5 : Nat), .int .u64 (dgl (a) 6 : Nat), .int .u64 (dgl (a) 7 : Nat)]) (.agg #[.int .u64 0, .int .u64 0, .int .u64 0, .int .u64 0, .int .u64 0, .int .u64 0, .int .u64 0, .int .u64 0])).run Try.prog w = .ok true w)
    (HRN : Hid (∀ w, Calls Try.prog 16 #[.agg #[.int .u64 (dgl (n) 0 : Nat), .int .u64 (dgl (n) 1 : Nat), .int .u64 (dgl (n) 2 : Nat), .int .u64 (dgl (n) 3 : Nat), .int .u64 (dgl (n) 4 : Nat), .int .u64 (dgl (n) 5 : Nat), .int .u64 (dgl (n) 6 : Nat), .int .u64 (dgl (n) 7 : Nat)]] w fun e w' => ∃ v, e = .returned (.tuple #[v, .int .i64 b]) ∧ BigV w' v x 300 ∧ Below w.heap.size w w'))
    (hqx : ∀ w, (Op.equalIn 10000 24 (.agg #[.int .u64 (dgl (x) 0 : Nat), .int .u64 (dgl (x) 1 : Nat), .int .u64 (dgl (x) 2 : Nat), .int .u64 (dgl (x) 3 : Nat), .int .u64 (dgl (x) 4 : Nat), .int .u64 (dgl (x) 5 : Nat), .int .u64 (dgl (x) 6 : Nat), .int .u64 (dgl (x) 7 : Nat)]) (.agg #[.int .u64 (dgl (x) 0 : Nat), .int .u64 (dgl (x) 1 : Nat), .int .u64 (dgl (x) 2 : Nat), .int .u64 (dgl (x) 3 : Nat), .int .u64 (dgl (x) 4 : Nat), .int .u64 (dgl (x) 5 : Nat), .int .u64 (dgl (x) 6 : Nat), .int .u64 (dgl (x) 7 : Nat)])).run Try.prog w = .ok true w) (w : World) :
    Calls Try.prog 5 #[.agg #[.int .u64 (dgl (n) 0 : Nat), .int .u64 (dgl (n) 1 : Nat), .int .u64 (dgl (n) 2 : Nat), .int .u64 (dgl (n) 3 : Nat), .int .u64 (dgl (n) 4 : Nat), .int .u64 (dgl (n) 5 : Nat), .int .u64 (dgl (n) 6 : Nat), .int .u64 (dgl (n) 7 : Nat)], .int .i64 s] w fun e w' => e = .returned (.bool true) ∧ Below w.heap.size w w' := by
  have HZ := hide hz
  clear hz
  have HS : Hid (OnSt n w (w.alloc (.cells #[.int .u64 (dgl (n) 0 : Nat), .int .u64 (dgl (n) 1 : Nat), .int .u64 (dgl (n) 2 : Nat), .int .u64 (dgl (n) 3 : Nat), .int .u64 (dgl (n) 4 : Nat), .int .u64 (dgl (n) 5 : Nat), .int .u64 (dgl (n) 6 : Nat), .int .u64 (dgl (n) 7 : Nat)] 24))) := ⟨liesF_new w (dgl n) _, below_allocs _ _⟩
  go_enter Try.func5, Try.ntmps5
  have hca := HS.out.lx.1
  go_wp2_with fail
  refine (HL.out _).mono ?_
  rintro e' w1 ⟨rfl, hb1⟩
  replace HS := hide (HS.out.below hb1)
  clear hb1 hca HL
  go_upto_region 2 with fail
  refine wp_gen (fun W => OnSt n w W ∧ LiesF W w1.heap.size (dgl a)) ⟨HS.out.below (below_allocs _ _), liesF_new w1 (dgl a) _⟩ ?_
  clear HS
  generalize w1.heap.size = p5 at *
  rintro W2 h2
  have HS := hide h2
  have hcb := h2.1.lx.1
  clear h2
  go_wp2_with fail
  refine (HNO.out _).mono ?_
  rintro e' w2 ⟨rfl, hb2⟩
  replace HS := hide (show OnSt n w w2 ∧ LiesF w2 p5 (dgl a) from ⟨HS.out.1.below hb2, HS.out.2.below hb2⟩)
  clear hb2 hcb HNO
  go_upto_region 3 with fail
  refine wp_gen (fun W => OnSt n w W ∧ LiesF W p5 (dgl a) ∧ LiesF W w2.heap.size (dgl x)) ⟨HS.out.1.below (below_allocs _ _), HS.out.2.below (below_allocs _ _), liesF_new w2 (dgl x) _⟩ ?_
  clear HS
  generalize w2.heap.size = p7 at *
  rintro W3 h3
  have HS := hide h3
  have hcb := h3.1.lx.1
  clear h3
  go_wp2_with fail
  refine (HM.out _).mono ?_
  rintro e' w3 ⟨rfl, hb3⟩
  replace HS := hide (show OnSt n w w3 ∧ LiesF w3 p5 (dgl a) ∧ LiesF w3 p7 (dgl x) from ⟨HS.out.1.below hb3, HS.out.2.1.below hb3, HS.out.2.2.below hb3⟩)
  clear hb3 hcb HM
  have hcb := HS.out.1.lx.1
  go_wp2_with fail
  refine (HRN.out _).mono ?_
  rintro e' w4 ⟨v4, rfl, hv4, hb4⟩
  replace HS := hide (show OnSt n w w4 ∧ LiesF w4 p5 (dgl a) ∧ LiesF w4 p7 (dgl x) from ⟨HS.out.1.below hb4, HS.out.2.1.below hb4, HS.out.2.2.below hb4⟩)
  have HWD := hide (refWide_any x 300 v4 w4 hv4)
  clear hb4 hv4 hcb HRN
  go_wp2_with fail
  refine HWD.out.mono ?_
  rintro e' w5 ⟨rfl, hb5⟩
  replace HS := hide (show OnSt n w w5 ∧ LiesF w5 p5 (dgl a) ∧ LiesF w5 p7 (dgl x) from ⟨HS.out.1.below hb5, HS.out.2.1.below hb5, HS.out.2.2.below hb5⟩)
  clear hb5 HWD
  go_upto_region 9 with fail
  refine wp_gen (fun W => (OnSt n w W ∧ LiesF W p5 (dgl a) ∧ LiesF W p7 (dgl x)) ∧ LiesF W w5.heap.size (dgl x)) ⟨⟨HS.out.1.below (below_allocs _ _), HS.out.2.1.below (below_allocs _ _), HS.out.2.2.below (below_allocs _ _)⟩, liesF_new w5 (dgl x) _⟩ ?_
  clear HS
  generalize w5.heap.size = p13 at *
  rintro W9 h9
  have HS := hide h9.1
  have hx7 := h9.1.2.2.1
  have hx13 := h9.2.1
  clear h9
  rcases HZ.out with h | h
  · skip
    have ha5 := HS.out.2.1.1
    have HB := hide HS.out.1.bel
    clear HS
    go_wp2_with fail
    refine (HAW.out _).mono ?_
    rintro e' w9 ⟨rfl, hb9⟩
    replace HB := hide (below_trans HB.out hb9)
    clear hb9
    go_wp2
    go_ret
    exact ⟨rfl, HB.out⟩
  · have h0 : ¬ s < 0 := by omega
    have ha5 := HS.out.2.1.1
    have HB := hide HS.out.1.bel
    clear HS
    go_wp2_with fail
    refine (HAW.out _).mono ?_
    rintro e' w9 ⟨rfl, hb9⟩
    replace HB := hide (below_trans HB.out hb9)
    clear hb9
    go_wp2
    go_ret
    exact ⟨rfl, HB.out⟩

set_option maxHeartbeats 4000000 in
theorem srtrootFar_Y3 (n a x : Nat) (s b : Int) (hz : 0 ≤ s ∧ s ≤ 64) (hq : ∀ w, (Op.equalIn 10000 24 (.agg #[.int .u64 (dgl (n) 0 : Nat), .int .u64 (dgl (n) 1 : Nat), .int .u64 (dgl (n) 2 : Nat), .int .u64 (dgl (n) 3 : Nat), .int .u64 (dgl (n) 4 : Nat), .int .u64 (dgl (n) 5 : Nat), .int .u64 (dgl (n) 6 : Nat), .int .u64 (dgl (n) 7 : Nat)]) (.agg #[.int .u64 0, .int .u64 0, .int .u64 0, .int .u64 0, .int .u64 0, .int .u64 0, .int .u64 0, .int .u64 0])).run Try.prog w = .ok false w)
    (HL : Hid (∀ w, Calls Try.prog 14 #[.agg #[.int .u64 (dgl (n) 0 : Nat), .int .u64 (dgl (n) 1 : Nat), .int .u64 (dgl (n) 2 : Nat), .int .u64 (dgl (n) 3 : Nat), .int .u64 (dgl (n) 4 : Nat), .int .u64 (dgl (n) 5 : Nat), .int .u64 (dgl (n) 6 : Nat), .int .u64 (dgl (n) 7 : Nat)], .int .i64 s] w fun e w' => e = .returned (.tuple #[.agg #[.int .u64 (dgl (a) 0 : Nat), .int .u64 (dgl (a) 1 : Nat), .int .u64 (dgl (a) 2 : Nat), .int .u64 (dgl (a) 3 : Nat), .int .u64 (dgl (a) 4 : Nat), .int .u64 (dgl (a) 5 : Nat), .int .u64 (dgl (a) 6 : Nat), .int .u64 (dgl (a) 7 : Nat)], .int .i64 0]) ∧ Below w.heap.size w w'))
    (HNO : Hid (∀ w, Calls Try.prog 15 #[.agg #[.int .u64 (dgl (n) 0 : Nat), .int .u64 (dgl (n) 1 : Nat), .int .u64 (dgl (n) 2 : Nat), .int .u64 (dgl (n) 3 : Nat), .int .u64 (dgl (n) 4 : Nat), .int .u64 (dgl (n) 5 : Nat), .int .u64 (dgl (n) 6 : Nat), .int .u64 (dgl (n) 7 : Nat)]] w fun e w' => e = .returned (.tuple #[.agg #[.int .u64 (dgl (x) 0 : Nat), .int .u64 (dgl (x) 1 : Nat), .int .u64 (dgl (x) 2 : Nat), .int .u64 (dgl (x) 3 : Nat), .int .u64 (dgl (x) 4 : Nat), .int .u64 (dgl (x) 5 : Nat), .int .u64 (dgl (x) 6 : Nat), .int .u64 (dgl (x) 7 : Nat)], .int .i64 b, .bool true]) ∧ Below w.heap.size w w'))
    (HM : Hid (∀ w, Calls Try.prog 11 #[.agg #[.int .u64 (dgl (n) 0 : Nat), .int .u64 (dgl (n) 1 : Nat), .int .u64 (dgl (n) 2 : Nat), .int .u64 (dgl (n) 3 : Nat), .int .u64 (dgl (n) 4 : Nat), .int .u64 (dgl (n) 5 : Nat), .int .u64 (dgl (n) 6 : Nat), .int .u64 (dgl (n) 7 : Nat)]] w fun e w' => e = .returned (.bool true) ∧ Below w.heap.size w w'))
    (HAW : Hid (∀ w, Calls Try.prog 9 #[] w fun e w' => e = .returned (.bool true) ∧ Below w.heap.size w w'))
    (hqa : ∀ w, (Op.equalIn 10000 24 (.agg #[.int .u64 (dgl (a) 0 : Nat), .int .u64 (dgl (a) 1 : Nat), .int .u64 (dgl (a) 2 : Nat), .int .u64 (dgl (a) 3 : Nat), .int .u64 (dgl (a) 4 : Nat), .int .u64 (dgl (a) 5 : Nat), .int .u64 (dgl (a) 6 : Nat), .int .u64 (dgl (a) 7 : Nat)]) (.agg #[.int .u64 (dgl (a) 0 : Nat), .int .u64 (dgl (a) 1 : Nat), .int .u64 (dgl (a) 2 : Nat), .int .u64 (dgl (a) 3 : Nat), .int .u64 (dgl (a) 4 : Nat), .int .u64 (dgl (a) 5 : Nat), .int .u64 (dgl (a) 6 : Nat), .int .u64 (dgl (a) 7 : Nat)])).run Try.prog w = .ok true w)
    (HRN : Hid (∀ w, Calls Try.prog 16 #[.agg #[.int .u64 (dgl (n) 0 : Nat), .int .u64 (dgl (n) 1 : Nat), .int .u64 (dgl (n) 2 : Nat), .int .u64 (dgl (n) 3 : Nat), .int .u64 (dgl (n) 4 : Nat), .int .u64 (dgl (n) 5 : Nat), .int .u64 (dgl (n) 6 : Nat), .int .u64 (dgl (n) 7 : Nat)]] w fun e w' => ∃ v, e = .returned (.tuple #[v, .int .i64 b]) ∧ BigV w' v x 300 ∧ Below w.heap.size w w'))
    (hqx : ∀ w, (Op.equalIn 10000 24 (.agg #[.int .u64 (dgl (x) 0 : Nat), .int .u64 (dgl (x) 1 : Nat), .int .u64 (dgl (x) 2 : Nat), .int .u64 (dgl (x) 3 : Nat), .int .u64 (dgl (x) 4 : Nat), .int .u64 (dgl (x) 5 : Nat), .int .u64 (dgl (x) 6 : Nat), .int .u64 (dgl (x) 7 : Nat)]) (.agg #[.int .u64 (dgl (x) 0 : Nat), .int .u64 (dgl (x) 1 : Nat), .int .u64 (dgl (x) 2 : Nat), .int .u64 (dgl (x) 3 : Nat), .int .u64 (dgl (x) 4 : Nat), .int .u64 (dgl (x) 5 : Nat), .int .u64 (dgl (x) 6 : Nat), .int .u64 (dgl (x) 7 : Nat)])).run Try.prog w = .ok true w)
    (HRU : Hid (∀ w, Calls Try.prog 12 #[.agg #[.int .u64 (dgl (n) 0 : Nat), .int .u64 (dgl (n) 1 : Nat), .int .u64 (dgl (n) 2 : Nat), .int .u64 (dgl (n) 3 : Nat), .int .u64 (dgl (n) 4 : Nat), .int .u64 (dgl (n) 5 : Nat), .int .u64 (dgl (n) 6 : Nat), .int .u64 (dgl (n) 7 : Nat)], .int .i64 s] w fun e w' => ∃ v vl, e = .returned (.tuple #[v, vl]) ∧ BigV w' vl a 100 ∧ Below w.heap.size w w')) (w : World) :
    Calls Try.prog 5 #[.agg #[.int .u64 (dgl (n) 0 : Nat), .int .u64 (dgl (n) 1 : Nat), .int .u64 (dgl (n) 2 : Nat), .int .u64 (dgl (n) 3 : Nat), .int .u64 (dgl (n) 4 : Nat), .int .u64 (dgl (n) 5 : Nat), .int .u64 (dgl (n) 6 : Nat), .int .u64 (dgl (n) 7 : Nat)], .int .i64 s] w fun e w' => e = .returned (.bool true) ∧ Below w.heap.size w w' := by
  have HZ := hide hz
  clear hz
  have HS : Hid (OnSt n w (w.alloc (.cells #[.int .u64 (dgl (n) 0 : Nat), .int .u64 (dgl (n) 1 : Nat), .int .u64 (dgl (n) 2 : Nat), .int .u64 (dgl (n) 3 : Nat), .int .u64 (dgl (n) 4 : Nat), .int .u64 (dgl (n) 5 : Nat), .int .u64 (dgl (n) 6 : Nat), .int .u64 (dgl (n) 7 : Nat)] 24))) := ⟨liesF_new w (dgl n) _, below_allocs _ _⟩
  go_enter Try.func5, Try.ntmps5
  have hca := HS.out.lx.1
  go_wp2_with fail
  refine (HL.out _).mono ?_
  rintro e' w1 ⟨rfl, hb1⟩
  replace HS := hide (HS.out.below hb1)
  clear hb1 hca HL
  go_upto_region 2 with fail
  refine wp_gen (fun W => OnSt n w W ∧ LiesF W w1.heap.size (dgl a)) ⟨HS.out.below (below_allocs _ _), liesF_new w1 (dgl a) _⟩ ?_
  clear HS
  generalize w1.heap.size = p5 at *
  rintro W2 h2
  have HS := hide h2
  have hcb := h2.1.lx.1
  clear h2
  go_wp2_with fail
  refine (HNO.out _).mono ?_
  rintro e' w2 ⟨rfl, hb2⟩
  replace HS := hide (show OnSt n w w2 ∧ LiesF w2 p5 (dgl a) from ⟨HS.out.1.below hb2, HS.out.2.below hb2⟩)
  clear hb2 hcb HNO
  go_upto_region 3 with fail
  refine wp_gen (fun W => OnSt n w W ∧ LiesF W p5 (dgl a) ∧ LiesF W w2.heap.size (dgl x)) ⟨HS.out.1.below (below_allocs _ _), HS.out.2.below (below_allocs _ _), liesF_new w2 (dgl x) _⟩ ?_
  clear HS
  generalize w2.heap.size = p7 at *
  rintro W3 h3
  have HS := hide h3
  have hcb := h3.1.lx.1
  clear h3
  go_wp2_with fail
  refine (HM.out _).mono ?_
  rintro e' w3 ⟨rfl, hb3⟩
  replace HS := hide (show OnSt n w w3 ∧ LiesF w3 p5 (dgl a) ∧ LiesF w3 p7 (dgl x) from ⟨HS.out.1.below hb3, HS.out.2.1.below hb3, HS.out.2.2.below hb3⟩)
  clear hb3 hcb HM
  have hcb := HS.out.1.lx.1
  go_wp2_with fail
  refine (HRN.out _).mono ?_
  rintro e' w4 ⟨v4, rfl, hv4, hb4⟩
  replace HS := hide (show OnSt n w w4 ∧ LiesF w4 p5 (dgl a) ∧ LiesF w4 p7 (dgl x) from ⟨HS.out.1.below hb4, HS.out.2.1.below hb4, HS.out.2.2.below hb4⟩)
  have HWD := hide (refWide_any x 300 v4 w4 hv4)
  clear hb4 hv4 hcb HRN
  go_wp2_with fail
  refine HWD.out.mono ?_
  rintro e' w5 ⟨rfl, hb5⟩
  replace HS := hide (show OnSt n w w5 ∧ LiesF w5 p5 (dgl a) ∧ LiesF w5 p7 (dgl x) from ⟨HS.out.1.below hb5, HS.out.2.1.below hb5, HS.out.2.2.below hb5⟩)
  clear hb5 HWD
  go_upto_region 9 with fail
  refine wp_gen (fun W => (OnSt n w W ∧ LiesF W p5 (dgl a) ∧ LiesF W p7 (dgl x)) ∧ LiesF W w5.heap.size (dgl x)) ⟨⟨HS.out.1.below (below_allocs _ _), HS.out.2.1.below (below_allocs _ _), HS.out.2.2.below (below_allocs _ _)⟩, liesF_new w5 (dgl x) _⟩ ?_
  clear HS
  generalize w5.heap.size = p13 at *
  rintro W9 h9
  have HS := hide h9.1
  have hx7 := h9.1.2.2.1
  have hx13 := h9.2.1
  clear h9
  have h1 : ¬ s < 0 := by have := HZ.out; omega
  have h2 : ¬ 64 < s := by have := HZ.out; omega
  have hcb := HS.out.1.lx.1
  go_wp2_with fail
  refine (HRU.out _).mono ?_
  rintro e' w6 ⟨v, vl, rfl, hv6, hb6⟩
  replace HS := hide (show OnSt n w w6 ∧ LiesF w6 p5 (dgl a) from ⟨HS.out.1.below hb6, HS.out.2.1.below hb6⟩)
  have HWD := hide (refWide_any a 100 vl w6 hv6)
  clear hb6 hv6 hcb HRU hx7 hx13
  go_wp2_with fail
  refine HWD.out.mono ?_
  rintro e' w7 ⟨rfl, hb7⟩
  replace HS := hide (show OnSt n w w7 ∧ LiesF w7 p5 (dgl a) from ⟨HS.out.1.below hb7, HS.out.2.below hb7⟩)
  clear hb7 HWD
  go_upto_region 17 with fail
  refine wp_gen (fun W => OnSt n w W ∧ LiesF W p5 (dgl a) ∧ LiesF W w7.heap.size (dgl a)) ⟨HS.out.1.below (below_allocs _ _), HS.out.2.below (below_allocs _ _), liesF_new w7 (dgl a) _⟩ ?_
  clear HS
  generalize w7.heap.size = p17 at *
  rintro W17 h17
  have HB := hide h17.1.bel
  have ha5 := h17.2.1.1
  have ha17 := h17.2.2.1
  clear h17
  go_wp2_with fail
  refine (HAW.out _).mono ?_
  rintro e' w9 ⟨rfl, hb9⟩
  replace HB := hide (below_trans HB.out hb9)
  clear hb9
  go_wp2
  go_ret
  exact ⟨rfl, HB.out⟩

theorem srtrootFar_any (n : Nat) (s : Int) (hn : n < QQ) (w : World) :
    Calls Try.prog 5 #[.agg #[.int .u64 (dgl (n) 0 : Nat), .int .u64 (dgl (n) 1 : Nat), .int .u64 (dgl (n) 2 : Nat), .int .u64 (dgl (n) 3 : Nat), .int .u64 (dgl (n) 4 : Nat), .int .u64 (dgl (n) 5 : Nat), .int .u64 (dgl (n) 6 : Nat), .int .u64 (dgl (n) 7 : Nat)], .int .i64 s] w fun e w' => e = .returned (.bool true) ∧ Below w.heap.size w w' := by
  have HAW := hide (fun w => awake16_any w)
  have HM := hide (fun w => rmay12_any n hn w)
  have hqz := fun w => z8_eq qq_pos true rfl w
  have HNO0 : (n = 0 ∨ 256 < Go.bitLen n) → Hid (∀ w, Calls Try.prog 15 #[.agg #[.int .u64 (dgl (n) 0 : Nat), .int .u64 (dgl (n) 1 : Nat), .int .u64 (dgl (n) 2 : Nat), .int .u64 (dgl (n) 3 : Nat), .int .u64 (dgl (n) 4 : Nat), .int .u64 (dgl (n) 5 : Nat), .int .u64 (dgl (n) 6 : Nat), .int .u64 (dgl (n) 7 : Nat)]] w fun e w' => e = .returned (.tuple #[.agg #[.int .u64 (dgl (0) 0 : Nat), .int .u64 (dgl (0) 1 : Nat), .int .u64 (dgl (0) 2 : Nat), .int .u64 (dgl (0) 3 : Nat), .int .u64 (dgl (0) 4 : Nat), .int .u64 (dgl (0) 5 : Nat), .int .u64 (dgl (0) 6 : Nat), .int .u64 (dgl (0) 7 : Nat)], .int .i64 0, .bool false]) ∧ Below w.heap.size w w') := fun h => hide fun w => by
    have h2 := normB_no n hn h w
    rw [dgl_zero]
    exact h2
  have HFR : (s < 0 ∨ 64 < s) → Hid (∀ w, Calls Try.prog 14 #[.agg #[.int .u64 (dgl (n) 0 : Nat), .int .u64 (dgl (n) 1 : Nat), .int .u64 (dgl (n) 2 : Nat), .int .u64 (dgl (n) 3 : Nat), .int .u64 (dgl (n) 4 : Nat), .int .u64 (dgl (n) 5 : Nat), .int .u64 (dgl (n) 6 : Nat), .int .u64 (dgl (n) 7 : Nat)], .int .i64 s] w fun e w' => e = .returned (.tuple #[.agg #[.int .u64 (dgl (0) 0 : Nat), .int .u64 (dgl (0) 1 : Nat), .int .u64 (dgl (0) 2 : Nat), .int .u64 (dgl (0) 3 : Nat), .int .u64 (dgl (0) 4 : Nat), .int .u64 (dgl (0) 5 : Nat), .int .u64 (dgl (0) 6 : Nat), .int .u64 (dgl (0) 7 : Nat)], .int .i64 4]) ∧ Below w.heap.size w w') := fun h => hide fun w => by
    have h2 := farB_far n s h w
    rw [dgl_zero]
    exact h2
  by_cases hL : Go.bitLen n ≤ 256
  · rw [decide_eq_true ((may_len n).2 hL)] at HM
    by_cases h0 : n = 0
    · have hq := fun w => z8_eq hn true (decide_eq_true h0) w
      by_cases hs : s < 0 ∨ 64 < s
      · exact srtrootFar_N1 n 0 0 s hs hq (HFR hs) (HNO0 (.inl h0)) HM HAW hqz hqz w
      · refine srtrootFar_N2 n 0 0 s (by omega) hq (hide fun w => ?_) (HNO0 (.inl h0)) HM HAW hqz hqz w
        have h := farB_any0 n s hn (by omega) (by omega) (.inl h0) w
        rw [if_neg (by omega)] at h
        rw [dgl_zero]
        exact h
    · have hq := fun w => z8_eq hn false (decide_eq_false h0) w
      have hu := up16_bd n h0 hL
      have hqx : ∀ w, (Op.equalIn 10000 24 (.agg #[.int .u64 (dgl (up16 n) 0 : Nat), .int .u64 (dgl (up16 n) 1 : Nat), .int .u64 (dgl (up16 n) 2 : Nat), .int .u64 (dgl (up16 n) 3 : Nat), .int .u64 (dgl (up16 n) 4 : Nat), .int .u64 (dgl (up16 n) 5 : Nat), .int .u64 (dgl (up16 n) 6 : Nat), .int .u64 (dgl (up16 n) 7 : Nat)]) (.agg #[.int .u64 (dgl (up16 n) 0 : Nat), .int .u64 (dgl (up16 n) 1 : Nat), .int .u64 (dgl (up16 n) 2 : Nat), .int .u64 (dgl (up16 n) 3 : Nat), .int .u64 (dgl (up16 n) 4 : Nat), .int .u64 (dgl (up16 n) 5 : Nat), .int .u64 (dgl (up16 n) 6 : Nat), .int .u64 (dgl (up16 n) 7 : Nat)])).run Try.prog w = .ok true w := fun w => wide_sameF (dgl (up16 n)) w
      have HNO := hide (fun w => normB_yes n hn h0 hL w)
      have HRN := hide (fun w => norm16_any n hn h0 w)
      by_cases hs : s < 0 ∨ 64 < s
      · exact srtrootFar_Y1 n 0 (up16 n) s _ hs hq (HFR hs) HNO HM HAW hqz HRN hqx w
      · obtain ⟨t, rfl⟩ : ∃ t : Nat, s = (t : Int) := ⟨s.toNat, by omega⟩
        exact srtrootFar_Y3 n (pn16 n t) (up16 n) (t : Int) _ (by omega) hq (hide fun w => farB_ok n t hn h0 hL (by omega) w) HNO HM HAW (fun w => wide_sameF (dgl (pn16 n t)) w) HRN hqx (hide fun w => (run16_any n t hn h0 hL (by omega) w).mono fun e w' ⟨v, vl, h1, h2, h3, h4⟩ => ⟨v, vl, h1, h3, h4⟩) w
  · rw [decide_eq_false (fun h => hL ((may_len n).1 h))] at HM
    have h0 : n ≠ 0 := fun h => by subst h; exact hL (by decide)
    have hq := fun w => z8_eq hn false (decide_eq_false h0) w
    refine srtrootFar_N3 n 0 0 s hq (hide fun w => ?_) (HNO0 (.inr (by omega))) HM HAW hqz hqz w
    by_cases hs : s < 0 ∨ 64 < s
    · exact (HFR hs).out w
    · have h := farB_any0 n s hn (by omega) (by omega) (.inr (by omega)) w
      rw [if_pos (by omega)] at h
      rw [dgl_zero]
      exact h
end Go.Proofs.Ytbngaajhdaciaaa

/- For all wides and ints the law radicandlaw16.SrtrootFar returns true and leaves what came in as it was. No condition. -/
namespace Go.Proofs.Ytbngaajhdaciaaa.srtrootFar
open Go.ChangeShapes Go.WideShapes Go.ChangeAt Go.RowKit Go.Proofs.Ytbngaajhdaciaaa

theorem own : ownKnob Try.prog.godebug = none := by kernel_rfl
theorem laidOut : laidOutB Try.prog = true := by kernel_rfl

set_option maxRecDepth 100000 in
theorem lifted (os : Os) (started : os.Started) (H : Type) (enc : TypeId × Value → H) :
    ReturnsInHanded {} Try.checked os 5 .any (Rows.srtrootFarSpec.pre6 enc Try.prog Try.f5 Rows.srtrootFarRow.domain false) (Rows.srtrootFarSpec.post enc Try.prog Try.f5 false true false false) := by
  refine returnsInHanded_of_change (C := Try.checked) own started (by kernel_rfl) Try.func5
    (ChangeSpec.witness6 (enc := enc) (C := Try.checked) false ⟨#[], #[.agg #[.int .u64 0, .int .u64 0, .int .u64 0, .int .u64 0, .int .u64 0, .int .u64 0, .int .u64 0, .int .u64 0], .int .i64 0], []⟩ 40 (by kernel_rfl) (by kernel_rfl) (by kernel_rfl) (by kernel_rfl)) ?_
  intro W base args ds gs before hval0 hW hcnd _
  have hval : ∀ (j : Nat) t v, Try.f5.params[j]? = some t → args[j]? = some v → Value.okWide Try.prog W .any base t v := hval0
  have hW' := hW
  obtain ⟨p, q, hA0, hV, rfl, hfz, hnd⟩ := hW
  have hA : DataW.TrodAll enc Try.prog W 0 (fun _ => true) true Try.f5.params.toList args.toList ds p := hA0
  rw [Try.params5] at hA hval
  obtain ⟨v0, vs0, d0, ds0, p0, q0, hargs, rfl, rfl, h0, r0⟩ := trodAll_cons hA
  obtain ⟨v1, vs1, d1, ds1, p1, q1, rfl, rfl, rfl, h1, r1⟩ := trodAll_cons r0
  obtain ⟨rfl, rfl, rfl⟩ := trodAll_nil r1
  obtain rfl : args = #[v0, v1] := by cases args; simp_all
  obtain ⟨rfl, rfl⟩ := trodVars_none hV
  have k0 := h0
  have lt0 : ∀ x ∈ p0, x.block < W.heap.size := by obtain ⟨m, hm⟩ := k0; exact DataW.trod_lt m _ _ _ hm
  have k1 := h1
  have lt1 : ∀ x ∈ p1, x.block < W.heap.size := by obtain ⟨m, hm⟩ := k1; exact DataW.trod_lt m _ _ _ hm
  obtain ⟨x0, hx0, rfl⟩ := wide_of_trod (hval 0 24 v0 rfl rfl) h0
  obtain ⟨a1, rfl, rfl, rfl, wf1⟩ := open_int Try.underlying3 (hval 1 3 v1 rfl rfl) h1
  clear hA0 hval0
  refine (srtrootFar_any x0 a1 hx0 W).mono fun e W' ⟨he, bel⟩ => ?_
  subst he
  exact ⟨_, rfl, _, _, _, [], _, [], hW', trodAll_mk1 (shut_bool Try.underlying4 _), (trodAll_cons_mk (Below.trod laidOut (by kernel_rfl) (of_decide_eq_true (by kernel_rfl)) k0 bel lt0) (trodAll_cons_mk (Below.trod laidOut (by kernel_rfl) (of_decide_eq_true (by kernel_rfl)) k1 bel lt1) trodAll_mk0)), rfl, bel.frame _, fun h => by cases h⟩

theorem over : Rows.srtrootFarRow.holds Try.pinned (OpenSpec.ofChange Rows.srtrootFarSpec) :=
  OpenClaim.holds_of_wide 5 Try.f5 rfl rfl rfl rfl rfl rfl rfl ⟨rfl, rfl, rfl, rfl, rfl⟩ rfl rfl rfl rfl rfl (by kernel_rfl) Try.func5 (by kernel_rfl)
    (of_decide_eq_true (by kernel_rfl)) (by unfold Func.isWrapper; first | (rw [if_pos (by decide +kernel)]; kernel_rfl) | (rw [if_neg (by decide +kernel)]; exact ⟨rfl, rfl⟩))
    (fun os started H enc _ => lifted os started H enc)

theorem proved : Rows.SrtrootFarSaid := over
#print axioms proved
end Go.Proofs.Ytbngaajhdaciaaa.srtrootFar

