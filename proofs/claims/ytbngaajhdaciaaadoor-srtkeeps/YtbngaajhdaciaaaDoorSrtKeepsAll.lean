/- For all wides and steps the law radicandlaw15.SrtKeeps returns true and leaves what came in as it was. Conditions: those of the tied card (the table of rows is laid as the program lays it). -/
import Derived.Test.YtbngaajhdaciaaaDoorPartAV
import Derived.Test.YtbngaajhdaciaaaDoorPartAT
import Derived.Test.YtbngaajhdaciaaaDoorPartAU
import Derived.Test.YtbngaajhdaciaaaDoorPartAG
import Derived.Test.YtbngaajhdaciaaaDoorRows
import Derived.Test.YtbngaajhdaciaaaDoorTie
import Derived.Test.YtbngaajhdaciaaaDoorCards
import Derived.LaidMore
import Derived.Stop.Joined
import Derived.SevenTiedAt
import Derived.WalkKit
import Derived.ProofKit
import Derived.OpenShut
import Derived.ShutString
import Derived.ChangeOld
import Derived.Below
/- For all wides and steps the law radicandlaw15.SrtKeeps returns true. -/
set_option linter.unusedVariables false
set_option linter.unusedSimpArgs false
set_option maxRecDepth 8000
namespace Go.Proofs.YtbngaajhdaciaaaDoor
open Go.RowKit Plain

set_option maxHeartbeats 1000000 in
theorem srtKeeps_E (n d s : Nat) (m : Int) (hm : (m == 0) = false) (hm2 : ¬ m = 0)
    (HD : Hid (∀ w, Calls Tryd.prog 10 #[.agg #[.int .u64 (dgl (n) 0 : Nat), .int .u64 (dgl (n) 1 : Nat), .int .u64 (dgl (n) 2 : Nat), .int .u64 (dgl (n) 3 : Nat), .int .u64 (dgl (n) 4 : Nat), .int .u64 (dgl (n) 5 : Nat), .int .u64 (dgl (n) 6 : Nat), .int .u64 (dgl (n) 7 : Nat)], .agg #[.int .u64 (dgl (d) 0 : Nat), .int .u64 (dgl (d) 1 : Nat), .int .u64 (dgl (d) 2 : Nat), .int .u64 (dgl (d) 3 : Nat), .int .u64 (dgl (d) 4 : Nat), .int .u64 (dgl (d) 5 : Nat), .int .u64 (dgl (d) 6 : Nat), .int .u64 (dgl (d) 7 : Nat)]] w fun e w' => e = .returned (.tuple #[.slice none 0 0, .int .i64 m]) ∧ Below w.heap.size w w'))
    (HM : Hid (∀ w, Calls Tryd.prog 21 #[.agg #[.int .u64 (dgl (n) 0 : Nat), .int .u64 (dgl (n) 1 : Nat), .int .u64 (dgl (n) 2 : Nat), .int .u64 (dgl (n) 3 : Nat), .int .u64 (dgl (n) 4 : Nat), .int .u64 (dgl (n) 5 : Nat), .int .u64 (dgl (n) 6 : Nat), .int .u64 (dgl (n) 7 : Nat)], .agg #[.int .u64 (dgl (d) 0 : Nat), .int .u64 (dgl (d) 1 : Nat), .int .u64 (dgl (d) 2 : Nat), .int .u64 (dgl (d) 3 : Nat), .int .u64 (dgl (d) 4 : Nat), .int .u64 (dgl (d) 5 : Nat), .int .u64 (dgl (d) 6 : Nat), .int .u64 (dgl (d) 7 : Nat)]] w fun e w' => e = .returned (.int .i64 m) ∧ Below w.heap.size w w'))
    (HAW : Hid (∀ w, TabG w → Calls Tryd.prog 9 #[] w fun e w' => e = .returned (.bool true) ∧ Below w.heap.size w w')) (w : World) (hg : TabG w) :
    Calls Tryd.prog 6 #[.agg #[.int .u64 (dgl (n) 0 : Nat), .int .u64 (dgl (n) 1 : Nat), .int .u64 (dgl (n) 2 : Nat), .int .u64 (dgl (n) 3 : Nat), .int .u64 (dgl (n) 4 : Nat), .int .u64 (dgl (n) 5 : Nat), .int .u64 (dgl (n) 6 : Nat), .int .u64 (dgl (n) 7 : Nat)], .agg #[.int .u64 (dgl (d) 0 : Nat), .int .u64 (dgl (d) 1 : Nat), .int .u64 (dgl (d) 2 : Nat), .int .u64 (dgl (d) 3 : Nat), .int .u64 (dgl (d) 4 : Nat), .int .u64 (dgl (d) 5 : Nat), .int .u64 (dgl (d) 6 : Nat), .int .u64 (dgl (d) 7 : Nat)], .int .u8 (s : Nat)] w fun e w' => e = .returned (.bool true) ∧ Below w.heap.size w w' := by
  have HS := hide (twSt_start n d w 24 24)
  have HT := hide hg
  clear hg
  go_enter Tryd.func6, Tryd.ntmps6
  have hca := HS.out.la.1
  have hcb := HS.out.lb.1
  go_wp2_with fail
  refine (HD.out _).mono ?_
  rintro e' w1 ⟨rfl, hb1⟩
  replace HS := hide (HS.out.below hb1)
  clear hb1 hca hcb HD
  have hca := HS.out.la.1
  have hcb := HS.out.lb.1
  go_wp2_with fail
  refine (HM.out _).mono ?_
  rintro e' w2 ⟨rfl, hb2⟩
  have HB := hide (below_trans HS.out.bel hb2)
  clear hb2 hca hcb HM HS
  go_wp2_with fail
  refine (HAW.out _ (HT.out.below HB.out)).mono ?_
  rintro e w4 ⟨rfl, hb4⟩
  replace HB := hide (below_trans HB.out hb4)
  clear hb4
  go_wp2
  go_ret
  exact ⟨rfl, HB.out⟩

set_option maxHeartbeats 8000000 in
theorem srtKeeps_Y (n d s k p1 p2 p3 a x X q r num less : Nat) (b c : Int) (ng bv : Bool) (f : Nat → Int) (hs : s < 256) (hk : 1 + ((s : Nat) : Int) % 65 = (k : Int)) (hp1 : IntKind.i64.wrap (65 - (k : Int)) = (p1 : Int)) (hp2 : IntKind.i64.wrap (2 * (p1 : Int)) = (p2 : Int)) (hp3 : IntKind.i64.wrap (1 + (p2 : Int)) = (p3 : Int)) (hc0 : ¬ 0 < c)
    (hf : ∀ i, i < 65 → -2 ≤ f i ∧ f i ≤ 2)
    (hlq : (∀ w, (Op.equalIn 10000 24 (.agg #[.int .u64 (dgl (less) 0 : Nat), .int .u64 (dgl (less) 1 : Nat), .int .u64 (dgl (less) 2 : Nat), .int .u64 (dgl (less) 3 : Nat), .int .u64 (dgl (less) 4 : Nat), .int .u64 (dgl (less) 5 : Nat), .int .u64 (dgl (less) 6 : Nat), .int .u64 (dgl (less) 7 : Nat)]) (.agg #[.int .u64 0, .int .u64 0, .int .u64 0, .int .u64 0, .int .u64 0, .int .u64 0, .int .u64 0, .int .u64 0])).run Tryd.prog w = .ok true w) ∨ ((∀ w, (Op.equalIn 10000 24 (.agg #[.int .u64 (dgl (less) 0 : Nat), .int .u64 (dgl (less) 1 : Nat), .int .u64 (dgl (less) 2 : Nat), .int .u64 (dgl (less) 3 : Nat), .int .u64 (dgl (less) 4 : Nat), .int .u64 (dgl (less) 5 : Nat), .int .u64 (dgl (less) 6 : Nat), .int .u64 (dgl (less) 7 : Nat)]) (.agg #[.int .u64 0, .int .u64 0, .int .u64 0, .int .u64 0, .int .u64 0, .int .u64 0, .int .u64 0, .int .u64 0])).run Tryd.prog w = .ok false w) ∧ ∀ w, (Op.equalIn 10000 24 (.agg #[.int .u64 (dgl (less) 0 : Nat), .int .u64 (dgl (less) 1 : Nat), .int .u64 (dgl (less) 2 : Nat), .int .u64 (dgl (less) 3 : Nat), .int .u64 (dgl (less) 4 : Nat), .int .u64 (dgl (less) 5 : Nat), .int .u64 (dgl (less) 6 : Nat), .int .u64 (dgl (less) 7 : Nat)]) (.agg #[.int .u64 1, .int .u64 0, .int .u64 0, .int .u64 0, .int .u64 0, .int .u64 0, .int .u64 0, .int .u64 0])).run Tryd.prog w = .ok true w))
    (HD : Hid (∀ w, TabG w → Calls Tryd.prog 10 #[.agg #[.int .u64 (dgl (n) 0 : Nat), .int .u64 (dgl (n) 1 : Nat), .int .u64 (dgl (n) 2 : Nat), .int .u64 (dgl (n) 3 : Nat), .int .u64 (dgl (n) 4 : Nat), .int .u64 (dgl (n) 5 : Nat), .int .u64 (dgl (n) 6 : Nat), .int .u64 (dgl (n) 7 : Nat)], .agg #[.int .u64 (dgl (d) 0 : Nat), .int .u64 (dgl (d) 1 : Nat), .int .u64 (dgl (d) 2 : Nat), .int .u64 (dgl (d) 3 : Nat), .int .u64 (dgl (d) 4 : Nat), .int .u64 (dgl (d) 5 : Nat), .int .u64 (dgl (d) 6 : Nat), .int .u64 (dgl (d) 7 : Nat)]] w fun e w' => ∃ ao ca, e = .returned (.tuple #[.slice ao 65 ca, .int .i64 0]) ∧ Rd mkZ w' (.slice ao 65 ca) (seqL f 65) ∧ Below w.heap.size w w'))
    (HL : Hid (∀ w, TabG w → Calls Tryd.prog 14 #[.agg #[.int .u64 (dgl (n) 0 : Nat), .int .u64 (dgl (n) 1 : Nat), .int .u64 (dgl (n) 2 : Nat), .int .u64 (dgl (n) 3 : Nat), .int .u64 (dgl (n) 4 : Nat), .int .u64 (dgl (n) 5 : Nat), .int .u64 (dgl (n) 6 : Nat), .int .u64 (dgl (n) 7 : Nat)], .agg #[.int .u64 (dgl (d) 0 : Nat), .int .u64 (dgl (d) 1 : Nat), .int .u64 (dgl (d) 2 : Nat), .int .u64 (dgl (d) 3 : Nat), .int .u64 (dgl (d) 4 : Nat), .int .u64 (dgl (d) 5 : Nat), .int .u64 (dgl (d) 6 : Nat), .int .u64 (dgl (d) 7 : Nat)], .int .i64 (k : Nat)] w fun e w' => e = .returned (.tuple #[.agg #[.int .u64 (dgl (a) 0 : Nat), .int .u64 (dgl (a) 1 : Nat), .int .u64 (dgl (a) 2 : Nat), .int .u64 (dgl (a) 3 : Nat), .int .u64 (dgl (a) 4 : Nat), .int .u64 (dgl (a) 5 : Nat), .int .u64 (dgl (a) 6 : Nat), .int .u64 (dgl (a) 7 : Nat)], .bool ng, .int .i64 0]) ∧ Below w.heap.size w w'))
    (HNO : Hid (∀ w, Calls Tryd.prog 15 #[.agg #[.int .u64 (dgl (d) 0 : Nat), .int .u64 (dgl (d) 1 : Nat), .int .u64 (dgl (d) 2 : Nat), .int .u64 (dgl (d) 3 : Nat), .int .u64 (dgl (d) 4 : Nat), .int .u64 (dgl (d) 5 : Nat), .int .u64 (dgl (d) 6 : Nat), .int .u64 (dgl (d) 7 : Nat)]] w fun e w' => e = .returned (.tuple #[.agg #[.int .u64 (dgl (x) 0 : Nat), .int .u64 (dgl (x) 1 : Nat), .int .u64 (dgl (x) 2 : Nat), .int .u64 (dgl (x) 3 : Nat), .int .u64 (dgl (x) 4 : Nat), .int .u64 (dgl (x) 5 : Nat), .int .u64 (dgl (x) 6 : Nat), .int .u64 (dgl (x) 7 : Nat)], .int .i64 b, .bool true]) ∧ Below w.heap.size w w'))
    (HS3 : Hid (∀ w, Calls Tryd.prog 23 #[.int .u64 3] w fun e w' => ∃ v, e = .returned v ∧ BigV w' v 3 2 ∧ Below w.heap.size w w'))
    (HBA : Hid (∀ w, Calls Tryd.prog 16 #[.agg #[.int .u64 (dgl (a) 0 : Nat), .int .u64 (dgl (a) 1 : Nat), .int .u64 (dgl (a) 2 : Nat), .int .u64 (dgl (a) 3 : Nat), .int .u64 (dgl (a) 4 : Nat), .int .u64 (dgl (a) 5 : Nat), .int .u64 (dgl (a) 6 : Nat), .int .u64 (dgl (a) 7 : Nat)]] w fun e w' => ∃ v, e = .returned v ∧ BigV w' v a 40 ∧ Below w.heap.size w w'))
    (HBX : Hid (∀ w, Calls Tryd.prog 16 #[.agg #[.int .u64 (dgl (x) 0 : Nat), .int .u64 (dgl (x) 1 : Nat), .int .u64 (dgl (x) 2 : Nat), .int .u64 (dgl (x) 3 : Nat), .int .u64 (dgl (x) 4 : Nat), .int .u64 (dgl (x) 5 : Nat), .int .u64 (dgl (x) 6 : Nat), .int .u64 (dgl (x) 7 : Nat)]] w fun e w' => ∃ v, e = .returned v ∧ BigV w' v x 40 ∧ Below w.heap.size w w'))
    (HMU : Hid (∀ u v w, BigV w u 3 2 → BigV w v a 40 → Calls Tryd.prog 22 #[u, v] w fun e w' => ∃ v, e = .returned v ∧ BigV w' v (3 * a) (2 + 40) ∧ Below w.heap.size w w'))
    (HSH : Hid (∀ u w, BigV w u x 40 → Calls Tryd.prog 19 #[u, .int .i64 (p3 : Nat)] w fun e w' => ∃ v, e = .returned v ∧ BigV w' v X 200 ∧ Below w.heap.size w w'))
    (HCM : Hid (∀ u v w, BigV w u (3 * a) (2 + 40) → BigV w v X 200 → Calls Tryd.prog 20 #[u, v] w fun e w' => e = .returned (.int .i64 c) ∧ w' = w))
    (HDV : Hid (∀ w, Calls Tryd.prog 24 #[.agg #[.int .u64 (dgl (n) 0 : Nat), .int .u64 (dgl (n) 1 : Nat), .int .u64 (dgl (n) 2 : Nat), .int .u64 (dgl (n) 3 : Nat), .int .u64 (dgl (n) 4 : Nat), .int .u64 (dgl (n) 5 : Nat), .int .u64 (dgl (n) 6 : Nat), .int .u64 (dgl (n) 7 : Nat)], .agg #[.int .u64 (dgl (d) 0 : Nat), .int .u64 (dgl (d) 1 : Nat), .int .u64 (dgl (d) 2 : Nat), .int .u64 (dgl (d) 3 : Nat), .int .u64 (dgl (d) 4 : Nat), .int .u64 (dgl (d) 5 : Nat), .int .u64 (dgl (d) 6 : Nat), .int .u64 (dgl (d) 7 : Nat)]] w fun e w' => e = .returned (.tuple #[.agg #[.int .u64 (dgl (q) 0 : Nat), .int .u64 (dgl (q) 1 : Nat), .int .u64 (dgl (q) 2 : Nat), .int .u64 (dgl (q) 3 : Nat), .int .u64 (dgl (q) 4 : Nat), .int .u64 (dgl (q) 5 : Nat), .int .u64 (dgl (q) 6 : Nat), .int .u64 (dgl (q) 7 : Nat)], .agg #[.int .u64 (dgl (r) 0 : Nat), .int .u64 (dgl (r) 1 : Nat), .int .u64 (dgl (r) 2 : Nat), .int .u64 (dgl (r) 3 : Nat), .int .u64 (dgl (r) 4 : Nat), .int .u64 (dgl (r) 5 : Nat), .int .u64 (dgl (r) 6 : Nat), .int .u64 (dgl (r) 7 : Nat)], .int .i64 0]) ∧ Below w.heap.size w w'))
    (HCV : Hid (∀ (ao : Option Addr) (ca : Nat) w, Rd mkZ w (.slice ao 65 ca) (seqL f 65) → Calls Tryd.prog 25 #[.slice ao 65 ca] w fun e w' => e = .returned (.tuple #[.agg #[.int .u64 (dgl (num) 0 : Nat), .int .u64 (dgl (num) 1 : Nat), .int .u64 (dgl (num) 2 : Nat), .int .u64 (dgl (num) 3 : Nat), .int .u64 (dgl (num) 4 : Nat), .int .u64 (dgl (num) 5 : Nat), .int .u64 (dgl (num) 6 : Nat), .int .u64 (dgl (num) 7 : Nat)], .bool true]) ∧ Below w.heap.size w w'))
    (HSB : Hid (∀ w, Calls Tryd.prog 26 #[.agg #[.int .u64 (dgl (num) 0 : Nat), .int .u64 (dgl (num) 1 : Nat), .int .u64 (dgl (num) 2 : Nat), .int .u64 (dgl (num) 3 : Nat), .int .u64 (dgl (num) 4 : Nat), .int .u64 (dgl (num) 5 : Nat), .int .u64 (dgl (num) 6 : Nat), .int .u64 (dgl (num) 7 : Nat)], .agg #[.int .u64 (dgl (q) 0 : Nat), .int .u64 (dgl (q) 1 : Nat), .int .u64 (dgl (q) 2 : Nat), .int .u64 (dgl (q) 3 : Nat), .int .u64 (dgl (q) 4 : Nat), .int .u64 (dgl (q) 5 : Nat), .int .u64 (dgl (q) 6 : Nat), .int .u64 (dgl (q) 7 : Nat)]] w fun e w' => e = .returned (.tuple #[.agg #[.int .u64 (dgl (less) 0 : Nat), .int .u64 (dgl (less) 1 : Nat), .int .u64 (dgl (less) 2 : Nat), .int .u64 (dgl (less) 3 : Nat), .int .u64 (dgl (less) 4 : Nat), .int .u64 (dgl (less) 5 : Nat), .int .u64 (dgl (less) 6 : Nat), .int .u64 (dgl (less) 7 : Nat)], .bool bv]) ∧ Below w.heap.size w w'))
    (HAW : Hid (∀ w, TabG w → Calls Tryd.prog 9 #[] w fun e w' => e = .returned (.bool true) ∧ Below w.heap.size w w')) (w : World) (hg : TabG w) :
    Calls Tryd.prog 6 #[.agg #[.int .u64 (dgl (n) 0 : Nat), .int .u64 (dgl (n) 1 : Nat), .int .u64 (dgl (n) 2 : Nat), .int .u64 (dgl (n) 3 : Nat), .int .u64 (dgl (n) 4 : Nat), .int .u64 (dgl (n) 5 : Nat), .int .u64 (dgl (n) 6 : Nat), .int .u64 (dgl (n) 7 : Nat)], .agg #[.int .u64 (dgl (d) 0 : Nat), .int .u64 (dgl (d) 1 : Nat), .int .u64 (dgl (d) 2 : Nat), .int .u64 (dgl (d) 3 : Nat), .int .u64 (dgl (d) 4 : Nat), .int .u64 (dgl (d) 5 : Nat), .int .u64 (dgl (d) 6 : Nat), .int .u64 (dgl (d) 7 : Nat)], .int .u8 (s : Nat)] w fun e w' => e = .returned (.bool true) ∧ Below w.heap.size w w' := by
  have HS := hide (twSt_start n d w 24 24)
  have HT := hide hg
  have HK := hide hk
  have HF := hide hf
  have hcf : decide (0 < c) = false := decide_eq_false hc0
  clear hg hk hf
  go_enter Tryd.func6, Tryd.ntmps6
  have hca := HS.out.la.1
  have hcb := HS.out.lb.1
  go_wp2_with fail
  refine (HD.out _ (HT.out.below HS.out.bel)).mono ?_
  rintro e' w1 ⟨ao, ca, rfl, hrd, hb1⟩
  replace HS := hide (show TwSt n d w w1 ∧ Rd mkZ w1 (.slice ao 65 ca) (seqL f 65) from ⟨HS.out.below hb1, hrd⟩)
  clear hb1 hca hcb HD hrd
  go_upto_region 5 with fail
  rw [HK.out]
  go_wp2
  go_loopw [10] (fun i wr => ∃ j : Nat, j ≤ 65 ∧ i = .int .i64 j ∧ Hid (TwSt n d w wr ∧ Rd mkZ wr (.slice ao 65 ca) (seqL f 65)))
    (fun i _ => 65 - (intOf i).toNat)
  case atStart => exact ⟨0, by omega, rfl, HS⟩
  case round =>
    clear HS
    obtain ⟨j, hj, rfl, HS⟩ := hrel
    by_cases hlt : j < 65
    · obtain ⟨bb, off, rfl, hbl, hcell⟩ := rd_seq HS.out.2 (by decide) (fun i hi => by have := HF.out i hi; omega)
      have hck := hcell j hlt
      have hfj := HF.out j hlt
      have hlt2 : (j : Int) < 65 := by omega
      generalize f j = z at hck hfj
      have hz1 : ¬ z < -2 := by omega
      have hz2 : ¬ 2 < z := by omega
      have hwj : IntKind.i64.wrap ((j : Int) + 1) = ((j + 1 : Nat) : Int) := by rw [IntKind.wrap_i64]; omega
      clear hcell
      go_wp2
      go_roundw
      case rel => exact ⟨j + 1, by omega, by first | rfl | go_num, HS⟩
      case measure => simp [intOf]; omega
    · have hlt2 : ¬ (j : Int) < 65 := by omega
      clear hj hlt HF
      have hca := HS.out.1.la.1
      have hcb := HS.out.1.lb.1
      go_wp2_with fail
      refine (HL.out _ (HT.out.below HS.out.1.bel)).mono ?_
      rintro e' w2 ⟨rfl, hb2⟩
      replace HS := hide (show TwSt n d w w2 ∧ Rd mkZ w2 (.slice ao 65 ca) (seqL f 65) from ⟨HS.out.1.below hb2, HS.out.2.below hb2⟩)
      clear hb2 hca hcb HL
      go_upto_region 11 with fail
      refine wp_gen (fun W => TwSt n d w W ∧ LiesF W w2.heap.size (dgl a) ∧ Rd mkZ W (.slice ao 65 ca) (seqL f 65)) ⟨HS.out.1.below (below_allocs _ _), liesF_new w2 (dgl a) _, HS.out.2.below (below_allocs _ _)⟩ ?_
      clear HS
      generalize w2.heap.size = p11 at *
      rintro W2 h2
      have HS := hide h2
      have hcb := h2.1.lb.1
      clear h2
      go_wp2_with fail
      refine (HNO.out _).mono ?_
      rintro e' w3 ⟨rfl, hb3⟩
      replace HS := hide (show TwSt n d w w3 ∧ LiesF w3 p11 (dgl a) ∧ Rd mkZ w3 (.slice ao 65 ca) (seqL f 65) from ⟨HS.out.1.below hb3, HS.out.2.1.below hb3, HS.out.2.2.below hb3⟩)
      clear hb3 hcb HNO
      go_upto_region 14 with fail
      refine wp_gen (fun W => TwSt n d w W ∧ LiesF W p11 (dgl a) ∧ LiesF W w3.heap.size (dgl x) ∧ Rd mkZ W (.slice ao 65 ca) (seqL f 65)) ⟨HS.out.1.below (below_allocs _ _), HS.out.2.1.below (below_allocs _ _), liesF_new w3 (dgl x) _, HS.out.2.2.below (below_allocs _ _)⟩ ?_
      clear HS
      generalize w3.heap.size = p14 at *
      rintro W14 h14
      have HS := hide h14
      clear h14
      have hup : ∀ {V V' : World}, Below V.heap.size V V' → (TwSt n d w V ∧ LiesF V p11 (dgl a) ∧ LiesF V p14 (dgl x) ∧ Rd mkZ V (.slice ao 65 ca) (seqL f 65)) → (TwSt n d w V' ∧ LiesF V' p11 (dgl a) ∧ LiesF V' p14 (dgl x) ∧ Rd mkZ V' (.slice ao 65 ca) (seqL f 65)) := fun hb h => ⟨h.1.below hb, h.2.1.below hb, h.2.2.1.below hb, h.2.2.2.below hb⟩
      refine wp_region_grow 13 [(87, .big 3 2), (88, .val (.agg #[.int .u64 (dgl (a) 0 : Nat), .int .u64 (dgl (a) 1 : Nat), .int .u64 (dgl (a) 2 : Nat), .int .u64 (dgl (a) 3 : Nat), .int .u64 (dgl (a) 4 : Nat), .int .u64 (dgl (a) 5 : Nat), .int .u64 (dgl (a) 6 : Nat), .int .u64 (dgl (a) 7 : Nat)])), (89, .big a 40), (90, .big (3 * a) (2 + 40)), (91, .val (.agg #[.int .u64 (dgl (x) 0 : Nat), .int .u64 (dgl (x) 1 : Nat), .int .u64 (dgl (x) 2 : Nat), .int .u64 (dgl (x) 3 : Nat), .int .u64 (dgl (x) 4 : Nat), .int .u64 (dgl (x) 5 : Nat), .int .u64 (dgl (x) 6 : Nat), .int .u64 (dgl (x) 7 : Nat)])), (92, .big x 40), (93, .val (.int .i64 (k : Nat))), (94, .val (.int .i64 (p1 : Nat))), (95, .val (.int .i64 (p2 : Nat))), (96, .val (.int .i64 (p3 : Nat))), (97, .big X 200), (98, .val (.int .i64 c)), (99, .val (.bool false))]
        (fun W => TwSt n d w W ∧ LiesF W p11 (dgl a) ∧ LiesF W p14 (dgl x) ∧ Rd mkZ W (.slice ao 65 ca) (seqL f 65)) mixedOk (by kernel_rfl) (by kernel_rfl) (hup (Below.refl _ _).drew HS.out) (fun W W' h hb => hup hb h) ?_ ?_
      · refine gSt (gStep_run rfl ?_) ?_
        · intro ρ W hC hc hf hL
          simp [go_sem, hc, hf]
          refine (HS3.out W).mono ?_
          rintro e w' ⟨v, rfl, hv, hb⟩
          exact ⟨_, rfl, hb, hv⟩
        refine gSt (gStep_run rfl ?_) ?_
        · intro ρ W hC hc hf hL
          have e11 : ρ (.tmp 11) = .pointer (some ⟨p11, 0, none⟩) := hL 11 (by decide +kernel)
          have hl := hC.2.1.1
          simp [go_sem, hc, hf, e11, hl]
          exact ⟨Below.refl _ _, rfl⟩
        refine gSt (gStep_run rfl ?_) ?_
        · intro ρ W hC hc hf hL
          have e88 : ρ (.tmp 88) = .agg #[.int .u64 (dgl (a) 0 : Nat), .int .u64 (dgl (a) 1 : Nat), .int .u64 (dgl (a) 2 : Nat), .int .u64 (dgl (a) 3 : Nat), .int .u64 (dgl (a) 4 : Nat), .int .u64 (dgl (a) 5 : Nat), .int .u64 (dgl (a) 6 : Nat), .int .u64 (dgl (a) 7 : Nat)] := hL 88 (by decide +kernel)
          simp [go_sem, hc, hf, e88]
          refine (HBA.out W).mono ?_
          rintro e w' ⟨v, rfl, hv, hb⟩
          exact ⟨_, rfl, hb, hv⟩
        refine gSt (gStep_run rfl ?_) ?_
        · intro ρ W hC hc hf hL
          have b87 : BigV W (ρ (.tmp 87)) (3) (2) := hL 87 (by decide +kernel)
          have b89 : BigV W (ρ (.tmp 89)) (a) (40) := hL 89 (by decide +kernel)
          simp [go_sem, hc, hf]
          refine (HMU.out _ _ W b87 b89).mono ?_
          rintro e w' ⟨v, rfl, hv, hb⟩
          exact ⟨_, rfl, hb, hv⟩
        refine gSt (gStep_run rfl ?_) ?_
        · intro ρ W hC hc hf hL
          have e14 : ρ (.tmp 14) = .pointer (some ⟨p14, 0, none⟩) := hL 14 (by decide +kernel)
          have hl := hC.2.2.1.1
          simp [go_sem, hc, hf, e14, hl]
          exact ⟨Below.refl _ _, rfl⟩
        refine gSt (gStep_run rfl ?_) ?_
        · intro ρ W hC hc hf hL
          have e91 : ρ (.tmp 91) = .agg #[.int .u64 (dgl (x) 0 : Nat), .int .u64 (dgl (x) 1 : Nat), .int .u64 (dgl (x) 2 : Nat), .int .u64 (dgl (x) 3 : Nat), .int .u64 (dgl (x) 4 : Nat), .int .u64 (dgl (x) 5 : Nat), .int .u64 (dgl (x) 6 : Nat), .int .u64 (dgl (x) 7 : Nat)] := hL 91 (by decide +kernel)
          simp [go_sem, hc, hf, e91]
          refine (HBX.out W).mono ?_
          rintro e w' ⟨v, rfl, hv, hb⟩
          exact ⟨_, rfl, hb, hv⟩
        refine gSt (gStep_run rfl (gRun_move 9 93 (.inl rfl) rfl (by decide +kernel) (fun v w h => h))) ?_
        refine gSt (gStep_run rfl ?_) ?_
        · intro ρ W hC hc hf hL
          have e93 : ρ (.tmp 93) = .int .i64 (k : Nat) := hL 93 (by decide +kernel)
          simp [go_sem, hc, hf, e93, hp1]
          exact ⟨Below.refl _ _, rfl⟩
        refine gSt (gStep_run rfl ?_) ?_
        · intro ρ W hC hc hf hL
          have e94 : ρ (.tmp 94) = .int .i64 (p1 : Nat) := hL 94 (by decide +kernel)
          simp [go_sem, hc, hf, e94, hp2]
          exact ⟨Below.refl _ _, rfl⟩
        refine gSt (gStep_run rfl ?_) ?_
        · intro ρ W hC hc hf hL
          have e95 : ρ (.tmp 95) = .int .i64 (p2 : Nat) := hL 95 (by decide +kernel)
          simp [go_sem, hc, hf, e95, hp3]
          exact ⟨Below.refl _ _, rfl⟩
        refine gSt (gStep_run rfl ?_) ?_
        · intro ρ W hC hc hf hL
          have b92 : BigV W (ρ (.tmp 92)) (x) (40) := hL 92 (by decide +kernel)
          have e96 : ρ (.tmp 96) = .int .i64 (p3 : Nat) := hL 96 (by decide +kernel)
          simp [go_sem, hc, hf, e96]
          refine (HSH.out _ W b92).mono ?_
          rintro e w' ⟨v, rfl, hv, hb⟩
          exact ⟨_, rfl, hb, hv⟩
        refine gSt (gStep_run rfl ?_) ?_
        · intro ρ W hC hc hf hL
          have b90 : BigV W (ρ (.tmp 90)) ((3 * a)) ((2 + 40)) := hL 90 (by decide +kernel)
          have b97 : BigV W (ρ (.tmp 97)) (X) (200) := hL 97 (by decide +kernel)
          simp [go_sem, hc, hf]
          refine (HCM.out _ _ W b90 b97).mono ?_
          rintro e w' ⟨rfl, hb⟩
          exact ⟨_, rfl, by first | exact hb | (subst hb; exact Below.refl _ _), rfl⟩
        refine gSt (gStep_run rfl ?_) ?_
        · intro ρ W hC hc hf hL
          have e98 : ρ (.tmp 98) = .int .i64 c := hL 98 (by decide +kernel)
          simp [go_sem, hc, hf, e98, hc0, hcf]
          exact ⟨Below.refl _ _, rfl⟩
        exact gSt0
      · intro W hC
        refine gFi 87 rfl ?_
        rintro u87 b87
        refine gFi 88 rfl ?_
        rintro _ rfl
        refine gFi 89 rfl ?_
        rintro u89 b89
        refine gFi 90 rfl ?_
        rintro u90 b90
        refine gFi 91 rfl ?_
        rintro _ rfl
        refine gFi 92 rfl ?_
        rintro u92 b92
        refine gFi 93 rfl ?_
        rintro _ rfl
        refine gFi 94 rfl ?_
        rintro _ rfl
        refine gFi 95 rfl ?_
        rintro _ rfl
        refine gFi 96 rfl ?_
        rintro _ rfl
        refine gFi 97 rfl ?_
        rintro u97 b97
        refine gFi 98 rfl ?_
        rintro _ rfl
        refine gFi 99 rfl ?_
        rintro _ rfl
        refine gFi0 ?_
        simp only [List.drop_succ_cons, List.drop_zero, Act.put, List.setIfInBounds_toArray, List.set_cons_succ, List.set_cons_zero]
        replace HS := hide (show TwSt n d w W ∧ Rd mkZ W (.slice ao 65 ca) (seqL f 65) from ⟨hC.1, hC.2.2.2⟩)
        clear hC b87 b89 b90 b92 b97 HS3 HBA HMU HBX HSH HCM hup
        have hca := HS.out.1.la.1
        have hcb := HS.out.1.lb.1
        go_wp2_with fail
        refine (HDV.out _).mono ?_
        rintro e' w15 ⟨rfl, hb15⟩
        replace HS := hide (show TwSt n d w w15 ∧ Rd mkZ w15 (.slice ao 65 ca) (seqL f 65) from ⟨HS.out.1.below hb15, HS.out.2.below hb15⟩)
        clear hb15 hca hcb HDV
        go_upto_region 17 with fail
        have hbw := below_trans (below_allocs w15 (.cells #[.int .u64 (dgl (q) 0 : Nat), .int .u64 (dgl (q) 1 : Nat), .int .u64 (dgl (q) 2 : Nat), .int .u64 (dgl (q) 3 : Nat), .int .u64 (dgl (q) 4 : Nat), .int .u64 (dgl (q) 5 : Nat), .int .u64 (dgl (q) 6 : Nat), .int .u64 (dgl (q) 7 : Nat)] 24)) (below_allocs _ (.cells #[.int .u64 (dgl (r) 0 : Nat), .int .u64 (dgl (r) 1 : Nat), .int .u64 (dgl (r) 2 : Nat), .int .u64 (dgl (r) 3 : Nat), .int .u64 (dgl (r) 4 : Nat), .int .u64 (dgl (r) 5 : Nat), .int .u64 (dgl (r) 6 : Nat), .int .u64 (dgl (r) 7 : Nat)] 24))
        refine wp_gen (fun V => Below w.heap.size w V ∧ Rd mkZ V (.slice ao 65 ca) (seqL f 65) ∧ LiesF V w15.heap.size (dgl q)) ⟨below_trans HS.out.1.bel hbw, HS.out.2.below hbw, (liesF_new w15 (dgl q) _).alloc _⟩ ?_
        clear HS hbw
        generalize w15.heap.size = p17 at *
        rintro W17 h17
        have HS := hide h17
        clear h17
        go_wp2_with fail
        refine (HCV.out _ _ _ HS.out.2.1).mono ?_
        rintro e' w18 ⟨rfl, hb18⟩
        replace HS := hide (show Below w.heap.size w w18 ∧ LiesF w18 p17 (dgl q) from ⟨below_trans HS.out.1 hb18, HS.out.2.2.below hb18⟩)
        clear hb18 HCV
        go_upto_region 18 with fail
        refine wp_gen (fun V => Below w.heap.size w V ∧ LiesF V p17 (dgl q) ∧ LiesF V w18.heap.size (dgl num)) ⟨below_trans HS.out.1 (below_allocs _ _), HS.out.2.below (below_allocs _ _), liesF_new w18 (dgl num) _⟩ ?_
        clear HS
        generalize w18.heap.size = p20 at *
        rintro W18 h18
        have HS := hide h18
        have hca := h18.2.1.1
        have hcb := h18.2.2.1
        clear h18
        go_wp2_with fail
        refine (HSB.out _).mono ?_
        rintro e' w19 ⟨rfl, hb19⟩
        have HB := hide (below_trans HS.out.1 hb19)
        clear hb19 hca hcb HSB HS
        go_upto_region 19 with fail
        refine wp_gen (fun V => Below w.heap.size w V ∧ LiesF V w19.heap.size (dgl less)) ⟨below_trans HB.out (below_allocs _ _), liesF_new w19 (dgl less) _⟩ ?_
        clear HB
        generalize w19.heap.size = p22 at *
        rintro W19 h19
        have HB := hide h19.1
        have hl22 := h19.2.1
        clear h19
        rcases hlq with h0 | ⟨h0, h1⟩
        · skip
          go_wp2_with fail
          refine (HAW.out _ (HT.out.below HB.out)).mono ?_
          rintro e' w9 ⟨rfl, hb9⟩
          replace HB := hide (below_trans HB.out hb9)
          clear hb9
          go_wp2
          go_ret
          exact ⟨rfl, HB.out⟩
        · skip
          go_wp2_with fail
          refine (HAW.out _ (HT.out.below HB.out)).mono ?_
          rintro e' w9 ⟨rfl, hb9⟩
          replace HB := hide (below_trans HB.out hb9)
          clear hb9
          go_wp2
          go_ret
          exact ⟨rfl, HB.out⟩
    

theorem srtKeeps_any (n d s : Nat) (hs : s < 256) (hn : n < QQ) (hd : d < QQ) (w : World) (hg : TabG w) :
    Calls Tryd.prog 6 #[.agg #[.int .u64 (dgl (n) 0 : Nat), .int .u64 (dgl (n) 1 : Nat), .int .u64 (dgl (n) 2 : Nat), .int .u64 (dgl (n) 3 : Nat), .int .u64 (dgl (n) 4 : Nat), .int .u64 (dgl (n) 5 : Nat), .int .u64 (dgl (n) 6 : Nat), .int .u64 (dgl (n) 7 : Nat)], .agg #[.int .u64 (dgl (d) 0 : Nat), .int .u64 (dgl (d) 1 : Nat), .int .u64 (dgl (d) 2 : Nat), .int .u64 (dgl (d) 3 : Nat), .int .u64 (dgl (d) 4 : Nat), .int .u64 (dgl (d) 5 : Nat), .int .u64 (dgl (d) 6 : Nat), .int .u64 (dgl (d) 7 : Nat)], .int .u8 (s : Nat)] w fun e w' => e = .returned (.bool true) ∧ Below w.heap.size w w' := by
  have HAW := hide (fun w hg => awake15_any w hg)
  by_cases hm : mayN n d = 0
  · have hz := mayN_zero hm
    have hL : Go.bitLen d ≤ 120 := bitLen_le d 120 hz.2.1
    have hd0 : d ≠ 0 := by omega
    have hl0 := (bitLen_top d hd0).2.2
    have ok := ok15 n d hd0 (by omega) hz.2.2
    obtain ⟨k, hk⟩ : ∃ k : Nat, k = 1 + s % 65 := ⟨_, rfl⟩
    have hk65 : k ≤ 65 := by omega
    have hw := ok.wide k hk65
    have hq2 : ((2 ^ 511 : Nat) : Int) < (QQ : Int) := by decide +kernel
    have hu := up15_lt d hd0 (show Go.bitLen d ≤ 128 by omega)
    have hkp := ok.keeps k hk65
    have hle : 3 * (lf15 n d k).natAbs ≤ up15 d * 2 ^ (1 + 2 * (65 - k)) := by
      rw [pow4_two, ← Int.natCast_mul] at hkp
      rw [Nat.pow_add, Nat.pow_one, Nat.mul_left_comm]
      omega
    have hc0 : ¬ (0 : Int) < cmpN (3 * (lf15 n d k).natAbs) (up15 d * 2 ^ (1 + 2 * (65 - k))) := by
      generalize 3 * (lf15 n d k).natAbs = A at *
      generalize up15 d * 2 ^ (1 + 2 * (65 - k)) = Bq at *
      unfold cmpN
      split
      · decide
      · split
        · omega
        · decide
    have HDV := hide (fun w => divide_any n d hn hd (n / d) (n % d) (by rw [if_pos hm]) (by rw [if_pos hm]) w)
    rw [hm] at HDV
    have hfin := ok.fin
    have hnum : nm15 n d 65 = ((n / d : Nat) : Int) ∨ nm15 n d 65 = ((n / d : Nat) : Int) + 1 := by
      rcases Int.le_total 0 (lf15 n d 65) with h | h
      · exact .inl (hfin.1 h).1.symm
      · rcases Int.lt_or_le (lf15 n d 65) 0 with h2 | h2
        · have := (hfin.2 h2).1
          exact .inr (by omega)
        · exact .inl (hfin.1 h2).1.symm
    have hqd : n / d < QQ := Nat.lt_of_le_of_lt (Nat.div_le_self _ _) hn
    obtain ⟨less, hless, hl01⟩ : ∃ less : Nat, subQ (qz (nm15 n d 65)) (n / d) = less ∧ (less = 0 ∨ less = 1) := by
      refine ⟨_, rfl, ?_⟩
      have h := qz_sub (nm15 n d 65) ((n / d : Nat) : Int)
      rw [qz_nat hqd] at h
      rw [h]
      rcases hnum with e | e
      · exact .inl (by rw [e, Int.sub_self, qz_zero])
      · have e1 : nm15 n d 65 - ((n / d : Nat) : Int) = ((1 : Nat) : Int) := by omega
        have hq1 : (1 : Nat) < QQ := by have := qq_big; omega
        exact .inr (by rw [e1, qz_nat hq1])
    have HSB := hide (fun w => wideSub_any (qz (nm15 n d 65)) (n / d) (qz_lt _) hqd w)
    rw [hless] at HSB
    have hq1 : (1 : Nat) < QQ := by have := qq_big; omega
    have hlq : (∀ w, (Op.equalIn 10000 24 (.agg #[.int .u64 (dgl (less) 0 : Nat), .int .u64 (dgl (less) 1 : Nat), .int .u64 (dgl (less) 2 : Nat), .int .u64 (dgl (less) 3 : Nat), .int .u64 (dgl (less) 4 : Nat), .int .u64 (dgl (less) 5 : Nat), .int .u64 (dgl (less) 6 : Nat), .int .u64 (dgl (less) 7 : Nat)]) (.agg #[.int .u64 0, .int .u64 0, .int .u64 0, .int .u64 0, .int .u64 0, .int .u64 0, .int .u64 0, .int .u64 0])).run Tryd.prog w = .ok true w) ∨ ((∀ w, (Op.equalIn 10000 24 (.agg #[.int .u64 (dgl (less) 0 : Nat), .int .u64 (dgl (less) 1 : Nat), .int .u64 (dgl (less) 2 : Nat), .int .u64 (dgl (less) 3 : Nat), .int .u64 (dgl (less) 4 : Nat), .int .u64 (dgl (less) 5 : Nat), .int .u64 (dgl (less) 6 : Nat), .int .u64 (dgl (less) 7 : Nat)]) (.agg #[.int .u64 0, .int .u64 0, .int .u64 0, .int .u64 0, .int .u64 0, .int .u64 0, .int .u64 0, .int .u64 0])).run Tryd.prog w = .ok false w) ∧ ∀ w, (Op.equalIn 10000 24 (.agg #[.int .u64 (dgl (less) 0 : Nat), .int .u64 (dgl (less) 1 : Nat), .int .u64 (dgl (less) 2 : Nat), .int .u64 (dgl (less) 3 : Nat), .int .u64 (dgl (less) 4 : Nat), .int .u64 (dgl (less) 5 : Nat), .int .u64 (dgl (less) 6 : Nat), .int .u64 (dgl (less) 7 : Nat)]) (.agg #[.int .u64 1, .int .u64 0, .int .u64 0, .int .u64 0, .int .u64 0, .int .u64 0, .int .u64 0, .int .u64 0])).run Tryd.prog w = .ok true w) := by
      rcases hl01 with rfl | rfl
      · left
        intro w
        have h := wide_eqz (a := 0) qq_pos w
        rwa [decide_eq_true rfl] at h
      · right
        refine ⟨fun w => ?_, fun w => ?_⟩
        · have h := wide_eqz (a := 1) hq1 w
          rwa [decide_eq_false (by decide)] at h
        · have h := wide_lit 1 1 hq1 (by decide) w
          rwa [decide_eq_true rfl] at h
    refine srtKeeps_Y n d s k (65 - k) (2 * (65 - k)) (1 + 2 * (65 - k)) (lf15 n d k).natAbs (up15 d) (up15 d * 2 ^ (1 + 2 * (65 - k))) (n / d) (n % d) (qz (nm15 n d 65)) less _ _ (decide (lf15 n d k < 0)) _ (dg15 n d) hs (by omega) (by rw [IntKind.wrap_i64]; omega) (by rw [IntKind.wrap_i64]; omega) (by rw [IntKind.wrap_i64]; omega) hc0 (fun i hi => ok.bd i hi) hlq
      (hide fun w hg => (digA_ok n d hn hd hm w hg).mono fun e w' ⟨v, h1, h2, h3⟩ => by
        obtain ⟨ao, ca, rfl⟩ := rd_slice h2
        exact ⟨ao, ca, h1, h2, h3⟩)
      (hide fun w hg => leftA_ok n d k hn hd hm hk65 w hg) (hide fun w => normA_yes d hd hl0 hL w) (hide fun w => small_any 3 (by decide) w) (hide fun w => refBig_any _ (by omega) w) (hide fun w => refBig_any _ hu w)
      (hide fun u v w h1 h2 => refMul_any 3 _ 2 40 u v w h1 h2 (by decide) (by decide)) (hide fun u w h1 => ?_) (hide fun u v w h1 h2 => cmp_any _ _ _ _ u v w h1 h2) HDV (hide fun ao ca w h1 => ?_) HSB HAW w hg
    · refine (refShl_any (up15 d) 40 (1 + 2 * (65 - k)) u w h1 (by decide) (by omega)).mono ?_
      rintro e w' ⟨v, rfl, h2, h3⟩
      exact ⟨v, rfl, h2.mono (by omega), h3⟩
    · have h := convert_yes (seqL (dg15 n d) 65) (.slice ao 65 ca) w h1 (by rw [seqL_len]; decide) (fun i hi => ok.digits 65 (by decide) i (by rw [seqL_len] at hi; exact hi))
      rw [ok.pZ] at h
      exact h
  · exact srtKeeps_E n d s ((mayN n d : Nat) : Int) (by rw [beq_eq_false_iff_ne]; omega) (by omega) (hide fun w => digA_err n d hn hd hm w) (hide fun w => may_any n d hn hd w) HAW w hg
end Go.Proofs.YtbngaajhdaciaaaDoor

/- For all wides and steps the law radicandlaw15.SrtKeeps returns true and leaves what came in as it was. Conditions: those of the tied card (the table of rows is laid as the program lays it). -/
namespace Go.Proofs.YtbngaajhdaciaaaDoor.srtKeeps
open Go.ChangeShapes Go.WideShapes Go.ChangeAt Go.RowKit Go.Proofs.YtbngaajhdaciaaaDoor

theorem own : ownKnob Tryd.prog.godebug = none := by kernel_rfl
theorem laidOut : laidOutB Tryd.prog = true := by kernel_rfl

theorem door_met (os : Os) (args : Array Value) : laidMetH Tryd.prog [("radicand/table.rows", Rows.laid_radicand_table_rows)] ((World.doorLaid Tryd.prog 400 os).forCall (fun _ _ => 0) ⟨#[], args, []⟩).memory :=
  laidMetH_of_parts3 (fuel := 8) (laidMet_of_run' 8 (by kernel_rfl) (by kernel_rfl)) (by kernel_rfl) (by kernel_rfl)

set_option maxRecDepth 100000 in
theorem lifted (os : Os) (started : os.Started) (H : Type) (enc : TypeId × Value → H) :
    ReturnsInHanded {} Tryd.checked os 6 .any (fun w args => (Rows.srtKeepsSpec.pre enc Tryd.prog Tryd.f6 [] false w args ∧ laidMetH Tryd.prog [("radicand/table.rows", Rows.laid_radicand_table_rows)] w) ∧ sizedMet enc Tryd.prog Tryd.f6 (OpenSpec.ofChange Rows.srtKeepsSpec) false w args) (Rows.srtKeepsSpec.post enc Tryd.prog Tryd.f6 false true false false) := by
  refine returnsInHanded_of_change_and (C := Tryd.checked) (X := fun w _ => laidMetH Tryd.prog [("radicand/table.rows", Rows.laid_radicand_table_rows)] w) (fun _ _ _ hh h => h.of_heap hh) own started (by kernel_rfl) Tryd.func6
    (ChangeSpec.witness_shaped (enc := enc) (C := Tryd.checked) (os := os) (X := fun w _ => laidMetH Tryd.prog [("radicand/table.rows", Rows.laid_radicand_table_rows)] w) false (World.doorLaid Tryd.prog 400 os) #[.agg #[.int .u64 0, .int .u64 0, .int .u64 0, .int .u64 0, .int .u64 0, .int .u64 0, .int .u64 0, .int .u64 0], .agg #[.int .u64 0, .int .u64 0, .int .u64 0, .int .u64 0, .int .u64 0, .int .u64 0, .int .u64 0, .int .u64 0], .int .u8 0] 40 rfl (World.shaped_of_RefB (by kernel_rfl) (by kernel_rfl)) (by kernel_rfl) (by kernel_rfl) (by kernel_rfl) (door_met os _)) ?_
  intro W base args ds gs before hval0 hW _ _ hL _
  have hval : ∀ (j : Nat) t v, Tryd.f6.params[j]? = some t → args[j]? = some v → Value.okWide Tryd.prog W .any base t v := hval0
  have hW' := hW
  obtain ⟨p, q, hA0, hV, rfl, hfz, hnd⟩ := hW
  have hA : DataW.TrodAll enc Tryd.prog W 0 (fun _ => true) true Tryd.f6.params.toList args.toList ds p := hA0
  rw [Tryd.params6] at hA hval
  obtain ⟨v0, vs0, d0, ds0, p0, q0, hargs, rfl, rfl, h0, r0⟩ := trodAll_cons hA
  obtain ⟨v1, vs1, d1, ds1, p1, q1, rfl, rfl, rfl, h1, r1⟩ := trodAll_cons r0
  obtain ⟨v2, vs2, d2, ds2, p2, q2, rfl, rfl, rfl, h2, r2⟩ := trodAll_cons r1
  obtain ⟨rfl, rfl, rfl⟩ := trodAll_nil r2
  obtain rfl : args = #[v0, v1, v2] := by cases args; simp_all
  obtain ⟨rfl, rfl⟩ := trodVars_none hV
  have k0 := h0
  have lt0 : ∀ x ∈ p0, x.block < W.heap.size := by obtain ⟨m, hm⟩ := k0; exact DataW.trod_lt m _ _ _ hm
  have k1 := h1
  have lt1 : ∀ x ∈ p1, x.block < W.heap.size := by obtain ⟨m, hm⟩ := k1; exact DataW.trod_lt m _ _ _ hm
  have k2 := h2
  have lt2 : ∀ x ∈ p2, x.block < W.heap.size := by obtain ⟨m, hm⟩ := k2; exact DataW.trod_lt m _ _ _ hm
  obtain ⟨x0, hx0, rfl⟩ := wide_of_trod (hval 0 24 v0 rfl rfl) h0
  obtain ⟨x1, hx1, rfl⟩ := wide_of_trod (hval 1 24 v1 rfl rfl) h1
  obtain ⟨a2, rfl, rfl, rfl, wf2⟩ := open_int Tryd.underlying5 (hval 2 5 v2 rfl rfl) h2
  clear hA0 hval0
  obtain ⟨z2, rfl, hz2⟩ := u8_natS wf2
  refine (srtKeeps_any x0 x1 z2 hz2 hx0 hx1 W (of_laidT hL)).mono fun e W' ⟨he, bel⟩ => ?_
  subst he
  exact ⟨_, rfl, _, _, _, [], _, [], hW', trodAll_mk1 (shut_bool Tryd.underlying4 _), (trodAll_cons_mk (Below.trod laidOut (by kernel_rfl) (of_decide_eq_true (by kernel_rfl)) k0 bel lt0) (trodAll_cons_mk (Below.trod laidOut (by kernel_rfl) (of_decide_eq_true (by kernel_rfl)) k1 bel lt1) (trodAll_cons_mk (Below.trod laidOut (by kernel_rfl) (of_decide_eq_true (by kernel_rfl)) k2 bel lt2) trodAll_mk0))), rfl, bel.frame _, fun h => by cases h⟩

theorem over : Rows.srtKeepsRow.holds Tryd.pinned (OpenSpec.ofChange Rows.srtKeepsSpec) :=
  OpenClaim.holds_of_wide 6 Tryd.f6 rfl rfl rfl rfl rfl rfl rfl ⟨rfl, rfl, rfl, rfl, rfl⟩ rfl rfl rfl rfl rfl (by kernel_rfl) Tryd.func6 (by kernel_rfl)
    (of_decide_eq_true (by kernel_rfl)) (by unfold Func.isWrapper; first | (rw [if_pos (by decide +kernel)]; kernel_rfl) | (rw [if_neg (by decide +kernel)]; exact ⟨rfl, rfl⟩))
    (fun os started H enc _ => lifted os started H enc)

theorem proved : Rows.SrtKeepsCardSaid :=
  Claim7.holds_tied_plain_at .later [] [.data] true (true, "3e99c42790b836898fde4b8c37d6e5e63d47bdf8389b5c4cfb3ee20f31068c85") false
    over (fun _ h => by cases h) (by kernel_rfl) (fun _ h => by cases h) srtKeeps_row_tie rfl ⟨rfl, rfl⟩ (by kernel_rfl) rfl
    (fun f fn hf hfn => by
      obtain rfl : f = 6 := Option.some.inj ((show Tryd.prog.funcNamed "radicand/radicandlaw15.SrtKeeps" = some 6 by kernel_rfl).symm.trans hf) |>.symm
      obtain rfl : fn = Tryd.f6 := (Option.some.inj (Tryd.func6.symm.trans hfn)).symm
      exact ⟨by kernel_rfl, fun j t ht => by
        rw [Tryd.params6] at ht
        rcases j with _ | j
        · obtain rfl : t = 24 := by simpa using ht.symm
          exact (show Tryd.prog.wantsStandIn 24 = false by kernel_rfl)
        rcases j with _ | j
        · obtain rfl : t = 24 := by simpa using ht.symm
          exact (show Tryd.prog.wantsStandIn 24 = false by kernel_rfl)
        rcases j with _ | j
        · obtain rfl : t = 5 := by simpa using ht.symm
          exact (show Tryd.prog.wantsStandIn 5 = false by kernel_rfl)
        simp at ht⟩)
    (by kernel_rfl)
#print axioms proved
end Go.Proofs.YtbngaajhdaciaaaDoor.srtKeeps

