/- UnpackShort: for every number the law returns true. Conditions: those of the tied card (the table of formats is laid as the program lays it). -/
import Derived.Test.YtidfegilddlglaaDoorXUnF
import Derived.Test.YtidfegilddlglaaDoorRows
import Derived.Test.YtidfegilddlglaaDoorTie
import Derived.Test.YtidfegilddlglaaDoorCards
import Derived.LaidMore
import Derived.Stop.Joined
import Derived.SevenTiedAt
import Derived.Test.YtidfegilddlglaaDoorXFmtJ
import Derived.WalkKit
import Derived.ProofKit
import Derived.OpenShut
import Derived.ShutString
import Derived.ChangeOld
import Derived.Below
/- The walk of UnpackShort. -/
set_option linter.unusedVariables false
set_option linter.unusedSimpArgs false
set_option maxRecDepth 8000
namespace Go.Proofs.YtidfegilddlglaaDoor
open Go.RowKit Plain

structure UsSt (neg : Bool) (z : Int) (s : Nat) (w W : World) : Prop where
  g : FmtG W
  n : NB W w.heap.size neg z s
  bel : Below w.heap.size w W
theorem UsSt.below {neg : Bool} {z : Int} {s : Nat} {w W W' : World} (h : UsSt neg z s w W) (hb : Below W.heap.size W W') : UsSt neg z s w W' :=
  ⟨h.g.below hb, h.n.below hb, below_trans h.bel hb⟩
theorem usSt_start (neg : Bool) (z : Int) (s : Nat) (w : World) (hg : FmtG w) : UsSt neg z s w (w.alloc (.cells #[.bool (neg), .int .i64 (z), .int .u64 (dgl (s) 0 : Nat), .int .u64 (dgl (s) 1 : Nat), .int .u64 (dgl (s) 2 : Nat), .int .u64 (dgl (s) 3 : Nat), .int .u64 (dgl (s) 4 : Nat), .int .u64 (dgl (s) 5 : Nat), .int .u64 (dgl (s) 6 : Nat), .int .u64 (dgl (s) 7 : Nat)] 49)) :=
  ⟨hg.below (below_allocs _ _), nb_new w neg z s 49, below_allocs _ _⟩

set_option maxHeartbeats 4000000 in
theorem unpackShort_N (neg : Bool) (z : Int) (s t q l : Nat)
    (HSH : Hid (∀ w, Calls Tryd.prog 47 #[.agg #[.bool (neg), .int .i64 (z), .int .u64 (dgl (s) 0 : Nat), .int .u64 (dgl (s) 1 : Nat), .int .u64 (dgl (s) 2 : Nat), .int .u64 (dgl (s) 3 : Nat), .int .u64 (dgl (s) 4 : Nat), .int .u64 (dgl (s) 5 : Nat), .int .u64 (dgl (s) 6 : Nat), .int .u64 (dgl (s) 7 : Nat)]] w fun e w' => e = .returned (.agg #[.bool (false), .int .i64 (0), .int .u64 (dgl (0) 0 : Nat), .int .u64 (dgl (0) 1 : Nat), .int .u64 (dgl (0) 2 : Nat), .int .u64 (dgl (0) 3 : Nat), .int .u64 (dgl (0) 4 : Nat), .int .u64 (dgl (0) 5 : Nat), .int .u64 (dgl (0) 6 : Nat), .int .u64 (dgl (0) 7 : Nat)]) ∧ Below w.heap.size w w'))
    (HTP : Hid (∀ w, Calls Tryd.prog 48 #[.agg #[.bool (neg), .int .i64 (z), .int .u64 (dgl (s) 0 : Nat), .int .u64 (dgl (s) 1 : Nat), .int .u64 (dgl (s) 2 : Nat), .int .u64 (dgl (s) 3 : Nat), .int .u64 (dgl (s) 4 : Nat), .int .u64 (dgl (s) 5 : Nat), .int .u64 (dgl (s) 6 : Nat), .int .u64 (dgl (s) 7 : Nat)]] w fun e w' => e = .returned (.tuple #[.int .i64 0, .bool false]) ∧ Below w.heap.size w w'))
    (HRI : Hid (∀ w, Calls Tryd.prog 41 #[.agg #[.bool (neg), .int .i64 (z), .int .u64 (dgl (s) 0 : Nat), .int .u64 (dgl (s) 1 : Nat), .int .u64 (dgl (s) 2 : Nat), .int .u64 (dgl (s) 3 : Nat), .int .u64 (dgl (s) 4 : Nat), .int .u64 (dgl (s) 5 : Nat), .int .u64 (dgl (s) 6 : Nat), .int .u64 (dgl (s) 7 : Nat)]] w fun e w' => e = .returned (.bool false) ∧ Below w.heap.size w w'))
    (hq : ∀ w, (Op.equalIn 10000 49 (.agg #[.bool (false), .int .i64 (0), .int .u64 (dgl (0) 0 : Nat), .int .u64 (dgl (0) 1 : Nat), .int .u64 (dgl (0) 2 : Nat), .int .u64 (dgl (0) 3 : Nat), .int .u64 (dgl (0) 4 : Nat), .int .u64 (dgl (0) 5 : Nat), .int .u64 (dgl (0) 6 : Nat), .int .u64 (dgl (0) 7 : Nat)]) (.agg #[.bool false, .int .i64 0, .int .u64 0, .int .u64 0, .int .u64 0, .int .u64 0, .int .u64 0, .int .u64 0, .int .u64 0, .int .u64 0])).run Tryd.prog w = .ok true w) (w : World) (hg : FmtG w) :
    Calls Tryd.prog 10 #[.agg #[.bool (neg), .int .i64 (z), .int .u64 (dgl (s) 0 : Nat), .int .u64 (dgl (s) 1 : Nat), .int .u64 (dgl (s) 2 : Nat), .int .u64 (dgl (s) 3 : Nat), .int .u64 (dgl (s) 4 : Nat), .int .u64 (dgl (s) 5 : Nat), .int .u64 (dgl (s) 6 : Nat), .int .u64 (dgl (s) 7 : Nat)]] w fun e w' => e = .returned (.bool true) ∧ Below w.heap.size w w' := by
  have HS := hide (usSt_start neg z s w hg)
  clear hg
  go_enter Tryd.func10, Tryd.ntmps10
  go_upto_region 1 with fail
  refine wp_gen (fun W => UsSt neg z s w W) HS.out ?_
  clear HS
  rintro W1 g1
  have HS := hide g1
  clear g1
  have ln := HS.out.n.n
  have le := HS.out.n.e
  have l0 := HS.out.n.x0
  have l1 := HS.out.n.x1
  have l2 := HS.out.n.x2
  have l3 := HS.out.n.x3
  have l4 := HS.out.n.x4
  have l5 := HS.out.n.x5
  have l6 := HS.out.n.x6
  have l7 := HS.out.n.x7
  go_wp2_with fail
  refine (HSH.out _).mono ?_
  rintro e w1 ⟨rfl, hb1⟩
  replace HS := hide (HS.out.below hb1)
  clear hb1 ln le l0 l1 l2 l3 l4 l5 l6 l7
  go_upto_region 2 with fail
  refine wp_gen (fun W => UsSt neg z s w W ∧ NB W w1.heap.size false (0) (0)) ⟨HS.out.below (below_allocs _ _), nb_new _ _ _ _ _⟩ ?_
  clear HS
  generalize w1.heap.size = p3
  rintro W2 ⟨g1, g2⟩
  have HS := hide g1
  have HN := hide g2
  clear g1 g2
  have ln := HS.out.n.n
  have le := HS.out.n.e
  have l0 := HS.out.n.x0
  have l1 := HS.out.n.x1
  have l2 := HS.out.n.x2
  have l3 := HS.out.n.x3
  have l4 := HS.out.n.x4
  have l5 := HS.out.n.x5
  have l6 := HS.out.n.x6
  have l7 := HS.out.n.x7
  go_wp2_with fail
  refine (HTP.out _).mono ?_
  rintro e w2 ⟨rfl, hb2⟩
  replace HS := hide (HS.out.below hb2)
  replace HN := hide (HN.out.below hb2)
  clear hb2 ln le l0 l1 l2 l3 l4 l5 l6 l7
  have ln := HS.out.n.n
  have le := HS.out.n.e
  have l0 := HS.out.n.x0
  have l1 := HS.out.n.x1
  have l2 := HS.out.n.x2
  have l3 := HS.out.n.x3
  have l4 := HS.out.n.x4
  have l5 := HS.out.n.x5
  have l6 := HS.out.n.x6
  have l7 := HS.out.n.x7
  go_wp2_with fail
  refine (HRI.out _).mono ?_
  rintro e w3 ⟨rfl, hb3⟩
  replace HS := hide (HS.out.below hb3)
  replace HN := hide (HN.out.below hb3)
  clear hb3 ln le l0 l1 l2 l3 l4 l5 l6 l7
  have mn := HN.out.n
  have me := HN.out.e
  have m0 := HN.out.x0
  have m1 := HN.out.x1
  have m2 := HN.out.x2
  have m3 := HN.out.x3
  have m4 := HN.out.x4
  have m5 := HN.out.x5
  have m6 := HN.out.x6
  have m7 := HN.out.x7
  go_wp2_with fail
  refine (awake7_any _ HS.out.g).mono ?_
  rintro e w9 ⟨rfl, hb9⟩
  have HB := hide (below_trans HS.out.bel hb9)
  clear hb9 HS
  go_wp2
  go_ret
  exact ⟨rfl, HB.out⟩

set_option maxHeartbeats 4000000 in
theorem unpackShort_Z (neg : Bool) (z : Int) (s t q l : Nat)
    (HSH : Hid (∀ w, Calls Tryd.prog 47 #[.agg #[.bool (neg), .int .i64 (z), .int .u64 (dgl (0) 0 : Nat), .int .u64 (dgl (0) 1 : Nat), .int .u64 (dgl (0) 2 : Nat), .int .u64 (dgl (0) 3 : Nat), .int .u64 (dgl (0) 4 : Nat), .int .u64 (dgl (0) 5 : Nat), .int .u64 (dgl (0) 6 : Nat), .int .u64 (dgl (0) 7 : Nat)]] w fun e w' => e = .returned (.agg #[.bool (neg), .int .i64 (0), .int .u64 (dgl (0) 0 : Nat), .int .u64 (dgl (0) 1 : Nat), .int .u64 (dgl (0) 2 : Nat), .int .u64 (dgl (0) 3 : Nat), .int .u64 (dgl (0) 4 : Nat), .int .u64 (dgl (0) 5 : Nat), .int .u64 (dgl (0) 6 : Nat), .int .u64 (dgl (0) 7 : Nat)]) ∧ Below w.heap.size w w'))
    (HTP : Hid (∀ w, Calls Tryd.prog 48 #[.agg #[.bool (neg), .int .i64 (z), .int .u64 (dgl (0) 0 : Nat), .int .u64 (dgl (0) 1 : Nat), .int .u64 (dgl (0) 2 : Nat), .int .u64 (dgl (0) 3 : Nat), .int .u64 (dgl (0) 4 : Nat), .int .u64 (dgl (0) 5 : Nat), .int .u64 (dgl (0) 6 : Nat), .int .u64 (dgl (0) 7 : Nat)]] w fun e w' => e = .returned (.tuple #[.int .i64 0, .bool false]) ∧ Below w.heap.size w w'))
    (HRI : Hid (∀ w, Calls Tryd.prog 41 #[.agg #[.bool (neg), .int .i64 (z), .int .u64 (dgl (0) 0 : Nat), .int .u64 (dgl (0) 1 : Nat), .int .u64 (dgl (0) 2 : Nat), .int .u64 (dgl (0) 3 : Nat), .int .u64 (dgl (0) 4 : Nat), .int .u64 (dgl (0) 5 : Nat), .int .u64 (dgl (0) 6 : Nat), .int .u64 (dgl (0) 7 : Nat)]] w fun e w' => e = .returned (.bool true) ∧ Below w.heap.size w w'))
    (HBG : Hid (∀ w, Calls Tryd.prog 30 #[.agg #[.int .u64 (dgl (0) 0 : Nat), .int .u64 (dgl (0) 1 : Nat), .int .u64 (dgl (0) 2 : Nat), .int .u64 (dgl (0) 3 : Nat), .int .u64 (dgl (0) 4 : Nat), .int .u64 (dgl (0) 5 : Nat), .int .u64 (dgl (0) 6 : Nat), .int .u64 (dgl (0) 7 : Nat)]] w fun e w' => ∃ v, e = .returned v ∧ BigV w' v 0 40 ∧ Below w.heap.size w w'))
    (HLN : Hid (∀ v w, BigV w v 0 40 → Calls Tryd.prog 29 #[v] w fun e w' => e = .returned (.int .i64 0) ∧ w' = w))
    (hq : ∀ w, (Op.equalIn 10000 49 (.agg #[.bool (neg), .int .i64 (0), .int .u64 (dgl (0) 0 : Nat), .int .u64 (dgl (0) 1 : Nat), .int .u64 (dgl (0) 2 : Nat), .int .u64 (dgl (0) 3 : Nat), .int .u64 (dgl (0) 4 : Nat), .int .u64 (dgl (0) 5 : Nat), .int .u64 (dgl (0) 6 : Nat), .int .u64 (dgl (0) 7 : Nat)]) (.agg #[.bool neg, .int .i64 0, .int .u64 0, .int .u64 0, .int .u64 0, .int .u64 0, .int .u64 0, .int .u64 0, .int .u64 0, .int .u64 0])).run Tryd.prog w = .ok true w) (w : World) (hg : FmtG w) :
    Calls Tryd.prog 10 #[.agg #[.bool (neg), .int .i64 (z), .int .u64 (dgl (0) 0 : Nat), .int .u64 (dgl (0) 1 : Nat), .int .u64 (dgl (0) 2 : Nat), .int .u64 (dgl (0) 3 : Nat), .int .u64 (dgl (0) 4 : Nat), .int .u64 (dgl (0) 5 : Nat), .int .u64 (dgl (0) 6 : Nat), .int .u64 (dgl (0) 7 : Nat)]] w fun e w' => e = .returned (.bool true) ∧ Below w.heap.size w w' := by
  have HS := hide (usSt_start neg z 0 w hg)
  clear hg
  go_enter Tryd.func10, Tryd.ntmps10
  go_upto_region 1 with fail
  refine wp_gen (fun W => UsSt neg z 0 w W) HS.out ?_
  clear HS
  rintro W1 g1
  have HS := hide g1
  clear g1
  have ln := HS.out.n.n
  have le := HS.out.n.e
  have l0 := HS.out.n.x0
  have l1 := HS.out.n.x1
  have l2 := HS.out.n.x2
  have l3 := HS.out.n.x3
  have l4 := HS.out.n.x4
  have l5 := HS.out.n.x5
  have l6 := HS.out.n.x6
  have l7 := HS.out.n.x7
  go_wp2_with fail
  refine (HSH.out _).mono ?_
  rintro e w1 ⟨rfl, hb1⟩
  replace HS := hide (HS.out.below hb1)
  clear hb1 ln le l0 l1 l2 l3 l4 l5 l6 l7
  go_upto_region 2 with fail
  refine wp_gen (fun W => UsSt neg z 0 w W ∧ NB W w1.heap.size neg (0) (0)) ⟨HS.out.below (below_allocs _ _), nb_new _ _ _ _ _⟩ ?_
  clear HS
  generalize w1.heap.size = p3
  rintro W2 ⟨g1, g2⟩
  have HS := hide g1
  have HN := hide g2
  clear g1 g2
  have ln := HS.out.n.n
  have le := HS.out.n.e
  have l0 := HS.out.n.x0
  have l1 := HS.out.n.x1
  have l2 := HS.out.n.x2
  have l3 := HS.out.n.x3
  have l4 := HS.out.n.x4
  have l5 := HS.out.n.x5
  have l6 := HS.out.n.x6
  have l7 := HS.out.n.x7
  go_wp2_with fail
  refine (HTP.out _).mono ?_
  rintro e w2 ⟨rfl, hb2⟩
  replace HS := hide (HS.out.below hb2)
  replace HN := hide (HN.out.below hb2)
  clear hb2 ln le l0 l1 l2 l3 l4 l5 l6 l7
  have ln := HS.out.n.n
  have le := HS.out.n.e
  have l0 := HS.out.n.x0
  have l1 := HS.out.n.x1
  have l2 := HS.out.n.x2
  have l3 := HS.out.n.x3
  have l4 := HS.out.n.x4
  have l5 := HS.out.n.x5
  have l6 := HS.out.n.x6
  have l7 := HS.out.n.x7
  go_wp2_with fail
  refine (HRI.out _).mono ?_
  rintro e w3 ⟨rfl, hb3⟩
  replace HS := hide (HS.out.below hb3)
  replace HN := hide (HN.out.below hb3)
  clear hb3 ln le l0 l1 l2 l3 l4 l5 l6 l7
  have ln := HS.out.n.n
  have le := HS.out.n.e
  have l0 := HS.out.n.x0
  have l1 := HS.out.n.x1
  have l2 := HS.out.n.x2
  have l3 := HS.out.n.x3
  have l4 := HS.out.n.x4
  have l5 := HS.out.n.x5
  have l6 := HS.out.n.x6
  have l7 := HS.out.n.x7
  go_wp2_with fail
  refine (HBG.out _).mono ?_
  rintro e w4 ⟨v4, rfl, hv4, hb4⟩
  replace HS := hide (HS.out.below hb4)
  replace HN := hide (HN.out.below hb4)
  have HV := hide hv4
  clear hb4 hv4 ln le l0 l1 l2 l3 l4 l5 l6 l7
  go_wp2_with fail
  refine (HLN.out _ _ HV.out).mono ?_
  rintro e wl ⟨rfl, hw⟩
  subst wl
  have ln := HS.out.n.n
  have le := HS.out.n.e
  have l0 := HS.out.n.x0
  have l1 := HS.out.n.x1
  have l2 := HS.out.n.x2
  have l3 := HS.out.n.x3
  have l4 := HS.out.n.x4
  have l5 := HS.out.n.x5
  have l6 := HS.out.n.x6
  have l7 := HS.out.n.x7
  have mn := HN.out.n
  have me := HN.out.e
  have m0 := HN.out.x0
  have m1 := HN.out.x1
  have m2 := HN.out.x2
  have m3 := HN.out.x3
  have m4 := HN.out.x4
  have m5 := HN.out.x5
  have m6 := HN.out.x6
  have m7 := HN.out.x7
  go_wp2_with fail
  refine (awake7_any _ HS.out.g).mono ?_
  rintro e w9 ⟨rfl, hb9⟩
  have HB := hide (below_trans HS.out.bel hb9)
  clear hb9 HS
  go_wp2
  go_ret
  exact ⟨rfl, HB.out⟩

set_option maxHeartbeats 4000000 in
theorem unpackShort_Y (neg : Bool) (z : Int) (s t q l : Nat)
    (HSH : Hid (∀ w, Calls Tryd.prog 47 #[.agg #[.bool (neg), .int .i64 (z), .int .u64 (dgl (s) 0 : Nat), .int .u64 (dgl (s) 1 : Nat), .int .u64 (dgl (s) 2 : Nat), .int .u64 (dgl (s) 3 : Nat), .int .u64 (dgl (s) 4 : Nat), .int .u64 (dgl (s) 5 : Nat), .int .u64 (dgl (s) 6 : Nat), .int .u64 (dgl (s) 7 : Nat)]] w fun e w' => e = .returned (.agg #[.bool (neg), .int .i64 (z + (t : Int)), .int .u64 (dgl (q) 0 : Nat), .int .u64 (dgl (q) 1 : Nat), .int .u64 (dgl (q) 2 : Nat), .int .u64 (dgl (q) 3 : Nat), .int .u64 (dgl (q) 4 : Nat), .int .u64 (dgl (q) 5 : Nat), .int .u64 (dgl (q) 6 : Nat), .int .u64 (dgl (q) 7 : Nat)]) ∧ Below w.heap.size w w'))
    (HTP : Hid (∀ w, Calls Tryd.prog 48 #[.agg #[.bool (neg), .int .i64 (z), .int .u64 (dgl (s) 0 : Nat), .int .u64 (dgl (s) 1 : Nat), .int .u64 (dgl (s) 2 : Nat), .int .u64 (dgl (s) 3 : Nat), .int .u64 (dgl (s) 4 : Nat), .int .u64 (dgl (s) 5 : Nat), .int .u64 (dgl (s) 6 : Nat), .int .u64 (dgl (s) 7 : Nat)]] w fun e w' => e = .returned (.tuple #[.int .i64 (z + (l : Int) - 1), .bool true]) ∧ Below w.heap.size w w'))
    (HRI : Hid (∀ w, Calls Tryd.prog 41 #[.agg #[.bool (neg), .int .i64 (z), .int .u64 (dgl (s) 0 : Nat), .int .u64 (dgl (s) 1 : Nat), .int .u64 (dgl (s) 2 : Nat), .int .u64 (dgl (s) 3 : Nat), .int .u64 (dgl (s) 4 : Nat), .int .u64 (dgl (s) 5 : Nat), .int .u64 (dgl (s) 6 : Nat), .int .u64 (dgl (s) 7 : Nat)]] w fun e w' => e = .returned (.bool true) ∧ Below w.heap.size w w'))
    (HBG : Hid (∀ w, Calls Tryd.prog 30 #[.agg #[.int .u64 (dgl (s) 0 : Nat), .int .u64 (dgl (s) 1 : Nat), .int .u64 (dgl (s) 2 : Nat), .int .u64 (dgl (s) 3 : Nat), .int .u64 (dgl (s) 4 : Nat), .int .u64 (dgl (s) 5 : Nat), .int .u64 (dgl (s) 6 : Nat), .int .u64 (dgl (s) 7 : Nat)]] w fun e w' => ∃ v, e = .returned v ∧ BigV w' v s 40 ∧ Below w.heap.size w w'))
    (HLN : Hid (∀ v w, BigV w v s 40 → Calls Tryd.prog 29 #[v] w fun e w' => e = .returned (.int .i64 (l : Nat)) ∧ w' = w))
    (hl : 1 ≤ l ∧ l ≤ 512) (hz : -1048576 ≤ z ∧ z ≤ 1048576) (ht : t ≤ 512) (HOD : Hid (((dgl q 0 : Nat) : Int).tmod 2 = 1))
    (HO1 : Hid (∀ w, Calls Tryd.prog 40 #[.agg #[.bool (neg), .int .i64 (z + (t : Int)), .int .u64 (dgl (q) 0 : Nat), .int .u64 (dgl (q) 1 : Nat), .int .u64 (dgl (q) 2 : Nat), .int .u64 (dgl (q) 3 : Nat), .int .u64 (dgl (q) 4 : Nat), .int .u64 (dgl (q) 5 : Nat), .int .u64 (dgl (q) 6 : Nat), .int .u64 (dgl (q) 7 : Nat)]] w fun e w' => ∃ v, e = .returned v ∧ NumV w' v neg (z + (t : Int)) q 40 ∧ Below w.heap.size w w'))
    (HO2 : Hid (∀ w, Calls Tryd.prog 40 #[.agg #[.bool (neg), .int .i64 (z), .int .u64 (dgl (s) 0 : Nat), .int .u64 (dgl (s) 1 : Nat), .int .u64 (dgl (s) 2 : Nat), .int .u64 (dgl (s) 3 : Nat), .int .u64 (dgl (s) 4 : Nat), .int .u64 (dgl (s) 5 : Nat), .int .u64 (dgl (s) 6 : Nat), .int .u64 (dgl (s) 7 : Nat)]] w fun e w' => ∃ v, e = .returned v ∧ NumV w' v neg z s 40 ∧ Below w.heap.size w w'))
    (HSZ : Hid (∀ u v w, NumV w u neg (z + (t : Int)) q 40 → NumV w v neg z s 40 → Calls Tryd.prog 39 #[u, v] w fun e w' => e = .returned (.int .i64 0) ∧ Below w.heap.size w w')) (w : World) (hg : FmtG w) :
    Calls Tryd.prog 10 #[.agg #[.bool (neg), .int .i64 (z), .int .u64 (dgl (s) 0 : Nat), .int .u64 (dgl (s) 1 : Nat), .int .u64 (dgl (s) 2 : Nat), .int .u64 (dgl (s) 3 : Nat), .int .u64 (dgl (s) 4 : Nat), .int .u64 (dgl (s) 5 : Nat), .int .u64 (dgl (s) 6 : Nat), .int .u64 (dgl (s) 7 : Nat)]] w fun e w' => e = .returned (.bool true) ∧ Below w.heap.size w w' := by
  have HS := hide (usSt_start neg z s w hg)
  clear hg
  go_enter Tryd.func10, Tryd.ntmps10
  go_upto_region 1 with fail
  refine wp_gen (fun W => UsSt neg z s w W) HS.out ?_
  clear HS
  rintro W1 g1
  have HS := hide g1
  clear g1
  have ln := HS.out.n.n
  have le := HS.out.n.e
  have l0 := HS.out.n.x0
  have l1 := HS.out.n.x1
  have l2 := HS.out.n.x2
  have l3 := HS.out.n.x3
  have l4 := HS.out.n.x4
  have l5 := HS.out.n.x5
  have l6 := HS.out.n.x6
  have l7 := HS.out.n.x7
  go_wp2_with fail
  refine (HSH.out _).mono ?_
  rintro e w1 ⟨rfl, hb1⟩
  replace HS := hide (HS.out.below hb1)
  clear hb1 ln le l0 l1 l2 l3 l4 l5 l6 l7
  go_upto_region 2 with fail
  refine wp_gen (fun W => UsSt neg z s w W ∧ NB W w1.heap.size neg (z + (t : Int)) (q)) ⟨HS.out.below (below_allocs _ _), nb_new _ _ _ _ _⟩ ?_
  clear HS
  generalize w1.heap.size = p3
  rintro W2 ⟨g1, g2⟩
  have HS := hide g1
  have HN := hide g2
  clear g1 g2
  have ln := HS.out.n.n
  have le := HS.out.n.e
  have l0 := HS.out.n.x0
  have l1 := HS.out.n.x1
  have l2 := HS.out.n.x2
  have l3 := HS.out.n.x3
  have l4 := HS.out.n.x4
  have l5 := HS.out.n.x5
  have l6 := HS.out.n.x6
  have l7 := HS.out.n.x7
  go_wp2_with fail
  refine (HTP.out _).mono ?_
  rintro e w2 ⟨rfl, hb2⟩
  replace HS := hide (HS.out.below hb2)
  replace HN := hide (HN.out.below hb2)
  clear hb2 ln le l0 l1 l2 l3 l4 l5 l6 l7
  have ln := HS.out.n.n
  have le := HS.out.n.e
  have l0 := HS.out.n.x0
  have l1 := HS.out.n.x1
  have l2 := HS.out.n.x2
  have l3 := HS.out.n.x3
  have l4 := HS.out.n.x4
  have l5 := HS.out.n.x5
  have l6 := HS.out.n.x6
  have l7 := HS.out.n.x7
  go_wp2_with fail
  refine (HRI.out _).mono ?_
  rintro e w3 ⟨rfl, hb3⟩
  replace HS := hide (HS.out.below hb3)
  replace HN := hide (HN.out.below hb3)
  clear hb3 ln le l0 l1 l2 l3 l4 l5 l6 l7
  have ln := HS.out.n.n
  have le := HS.out.n.e
  have l0 := HS.out.n.x0
  have l1 := HS.out.n.x1
  have l2 := HS.out.n.x2
  have l3 := HS.out.n.x3
  have l4 := HS.out.n.x4
  have l5 := HS.out.n.x5
  have l6 := HS.out.n.x6
  have l7 := HS.out.n.x7
  go_wp2_with fail
  refine (HBG.out _).mono ?_
  rintro e w4 ⟨v4, rfl, hv4, hb4⟩
  replace HS := hide (HS.out.below hb4)
  replace HN := hide (HN.out.below hb4)
  have HV := hide hv4
  clear hb4 hv4 ln le l0 l1 l2 l3 l4 l5 l6 l7
  go_wp2_with fail
  refine (HLN.out _ _ HV.out).mono ?_
  rintro e wl ⟨rfl, hw⟩
  subst wl
  have hl0 : (((l : Nat) : Int) == 0) = false := by rw [beq_eq_false_iff_ne]; omega
  go_upto_region 8 with fail
  refine wp_gen (fun W => UsSt neg z s w W ∧ NB W p3 neg (z + (t : Int)) q ∧ BigV W v4 s 40) ⟨HS.out, HN.out, HV.out⟩ ?_
  clear HS HN HV hl0
  rintro W8 h8
  refine wp_region_grow 37 [(53, .val (.pointer (some ⟨p3, 0, none⟩))), (54, .val (.bool neg)), (55, .val (.pointer (some ⟨w.heap.size, 0, none⟩))), (56, .val (.bool neg)), (57, .val (.bool true)), (58, .val (.bool true)), (59, .val (.pointer (some ⟨p3, 2, none⟩))), (60, .val (.pointer (some ⟨p3, 2, none⟩))), (61, .val (.int .u64 (dgl q 0 : Nat))), (62, .val (.int .u64 1)), (63, .val (.bool true)), (64, .val (.bool true)), (65, .val (.bool true)), (66, .val (.agg #[.bool (neg), .int .i64 (z + (t : Int)), .int .u64 (dgl (q) 0 : Nat), .int .u64 (dgl (q) 1 : Nat), .int .u64 (dgl (q) 2 : Nat), .int .u64 (dgl (q) 3 : Nat), .int .u64 (dgl (q) 4 : Nat), .int .u64 (dgl (q) 5 : Nat), .int .u64 (dgl (q) 6 : Nat), .int .u64 (dgl (q) 7 : Nat)])), (67, .num neg (z + (t : Int)) q 40), (68, .val (.agg #[.bool (neg), .int .i64 (z), .int .u64 (dgl (s) 0 : Nat), .int .u64 (dgl (s) 1 : Nat), .int .u64 (dgl (s) 2 : Nat), .int .u64 (dgl (s) 3 : Nat), .int .u64 (dgl (s) 4 : Nat), .int .u64 (dgl (s) 5 : Nat), .int .u64 (dgl (s) 6 : Nat), .int .u64 (dgl (s) 7 : Nat)])), (69, .num neg z s 40), (70, .val (.int .i64 0)), (71, .val (.bool true)), (72, .val (.bool true)), (73, .val (.bool true)), (74, .val (.bool true)), (75, .val (.bool true)), (76, .val (.bool true)), (77, .val (.int .i64 (z + (l : Int) - 1))), (78, .val (.pointer (some ⟨w.heap.size, 1, none⟩))), (79, .val (.int .i64 z)), (80, .val (v4)), (81, .val (.int .i64 (l : Nat))), (82, .val (.int .i64 (z + (l : Int)))), (83, .val (.int .i64 (z + (l : Int) - 1))), (84, .val (.bool true)), (85, .val (.bool true)), (86, .val (.bool true)), (87, .val (.bool true)), (88, .val (.bool true)), (2, .val (.bool true))]
    (fun W => UsSt neg z s w W ∧ NB W p3 neg (z + (t : Int)) q ∧ BigV W v4 s 40) mixedOk (by kernel_rfl) (by kernel_rfl) (⟨h8.1.below (Below.refl _ _).drew, h8.2.1.below (Below.refl _ _).drew, h8.2.2.below (Below.refl _ _).drew⟩) (fun W W' h hb => ⟨h.1.below hb, h.2.1.below hb, h.2.2.below hb⟩) ?_ ?_
  · refine gSt (gStep_run rfl ?_) ?_
    · intro ρ W hC hc hf hL
      have e3 : ρ (.tmp 3) = .pointer (some ⟨p3, 0, none⟩) := hL 3 (by decide +kernel)
      simp [go_sem, hc, hf, e3]
      exact ⟨Below.refl _ _, rfl⟩
    refine gSt (gStep_run rfl ?_) ?_
    · intro ρ W hC hc hf hL
      have e53 : ρ (.tmp 53) = .pointer (some ⟨p3, 0, none⟩) := hL 53 (by decide +kernel)
      have l0 := hC.2.1.n
      simp [go_sem, hc, hf, e53, l0]
      exact ⟨Below.refl _ _, rfl⟩
    refine gSt (gStep_run rfl ?_) ?_
    · intro ρ W hC hc hf hL
      have e1 : ρ (.tmp 1) = .pointer (some ⟨w.heap.size, 0, none⟩) := hL 1 (by decide +kernel)
      simp [go_sem, hc, hf, e1]
      exact ⟨Below.refl _ _, rfl⟩
    refine gSt (gStep_run rfl ?_) ?_
    · intro ρ W hC hc hf hL
      have e55 : ρ (.tmp 55) = .pointer (some ⟨w.heap.size, 0, none⟩) := hL 55 (by decide +kernel)
      have l0 := hC.1.n.n
      simp [go_sem, hc, hf, e55, l0]
      exact ⟨Below.refl _ _, rfl⟩
    refine gSt (gStep_run rfl ?_) ?_
    · intro ρ W hC hc hf hL
      have e54 : ρ (.tmp 54) = .bool neg := hL 54 (by decide +kernel)
      have e56 : ρ (.tmp 56) = .bool neg := hL 56 (by decide +kernel)
      simp [go_sem, hc, hf, e54, e56]
      exact ⟨Below.refl _ _, rfl⟩
    refine gSt (gStep_run rfl (gRun_move 57 58 (.inl rfl) rfl (by decide +kernel) (fun v w h => h))) ?_
    refine gSt (gStep_on 5 58 true rfl rfl (by decide +kernel) (fun v w h => h) ?_) ?_
    · intro ρ W hC hc hf hL
      have e3 : ρ (.tmp 3) = .pointer (some ⟨p3, 0, none⟩) := hL 3 (by decide +kernel)
      simp [go_sem, hc, hf, e3]
      exact ⟨Below.refl _ _, rfl⟩
    refine gSt (gStep_on 5 58 true rfl rfl (by decide +kernel) (fun v w h => h) ?_) ?_
    · intro ρ W hC hc hf hL
      have e59 : ρ (.tmp 59) = .pointer (some ⟨p3, 2, none⟩) := hL 59 (by decide +kernel)
      simp [go_sem, hc, hf, e59]
      exact ⟨Below.refl _ _, rfl⟩
    refine gSt (gStep_on 5 58 true rfl rfl (by decide +kernel) (fun v w h => h) ?_) ?_
    · intro ρ W hC hc hf hL
      have e60 : ρ (.tmp 60) = .pointer (some ⟨p3, 2, none⟩) := hL 60 (by decide +kernel)
      have l0 := hC.2.1.x0
      simp [go_sem, hc, hf, e60, l0]
      exact ⟨Below.refl _ _, rfl⟩
    refine gSt (gStep_on 5 58 true rfl rfl (by decide +kernel) (fun v w h => h) ?_) ?_
    · intro ρ W hC hc hf hL
      have e61 : ρ (.tmp 61) = .int .u64 (dgl q 0 : Nat) := hL 61 (by decide +kernel)
      have l0 := HOD.out
      simp [go_sem, hc, hf, e61, l0]
      exact ⟨Below.refl _ _, rfl⟩
    refine gSt (gStep_on 5 58 true rfl rfl (by decide +kernel) (fun v w h => h) ?_) ?_
    · intro ρ W hC hc hf hL
      have e62 : ρ (.tmp 62) = .int .u64 1 := hL 62 (by decide +kernel)
      simp [go_sem, hc, hf, e62]
      exact ⟨Below.refl _ _, rfl⟩
    refine gSt (gStep_run rfl (gRun_pickT 58 63 64 _ rfl rfl (by decide +kernel) (by decide +kernel) (fun v w h => h) (fun v w h => h))) ?_
    refine gSt (gStep_run rfl (gRun_move 64 65 (.inl rfl) rfl (by decide +kernel) (fun v w h => h))) ?_
    refine gSt (gStep_on 12 65 true rfl rfl (by decide +kernel) (fun v w h => h) ?_) ?_
    · intro ρ W hC hc hf hL
      have e3 : ρ (.tmp 3) = .pointer (some ⟨p3, 0, none⟩) := hL 3 (by decide +kernel)
      have mn := hC.2.1.n
      have me := hC.2.1.e
      have m0 := hC.2.1.x0
      have m1 := hC.2.1.x1
      have m2 := hC.2.1.x2
      have m3 := hC.2.1.x3
      have m4 := hC.2.1.x4
      have m5 := hC.2.1.x5
      have m6 := hC.2.1.x6
      have m7 := hC.2.1.x7
      simp [go_sem, hc, hf, e3, mn, me, m0, m1, m2, m3, m4, m5, m6, m7]
      exact ⟨Below.refl _ _, rfl⟩
    refine gSt (gStep_on 12 65 true rfl rfl (by decide +kernel) (fun v w h => h) ?_) ?_
    · intro ρ W hC hc hf hL
      have e66 : ρ (.tmp 66) = .agg #[.bool (neg), .int .i64 (z + (t : Int)), .int .u64 (dgl (q) 0 : Nat), .int .u64 (dgl (q) 1 : Nat), .int .u64 (dgl (q) 2 : Nat), .int .u64 (dgl (q) 3 : Nat), .int .u64 (dgl (q) 4 : Nat), .int .u64 (dgl (q) 5 : Nat), .int .u64 (dgl (q) 6 : Nat), .int .u64 (dgl (q) 7 : Nat)] := hL 66 (by decide +kernel)
      simp [go_sem, hc, hf, e66]
      refine (HO1.out W).mono ?_
      rintro e w' ⟨v, rfl, hv, hb⟩
      exact ⟨_, rfl, hb, hv⟩
    refine gSt (gStep_on 12 65 true rfl rfl (by decide +kernel) (fun v w h => h) ?_) ?_
    · intro ρ W hC hc hf hL
      have e1 : ρ (.tmp 1) = .pointer (some ⟨w.heap.size, 0, none⟩) := hL 1 (by decide +kernel)
      have ln := hC.1.n.n
      have le := hC.1.n.e
      have l0 := hC.1.n.x0
      have l1 := hC.1.n.x1
      have l2 := hC.1.n.x2
      have l3 := hC.1.n.x3
      have l4 := hC.1.n.x4
      have l5 := hC.1.n.x5
      have l6 := hC.1.n.x6
      have l7 := hC.1.n.x7
      simp [go_sem, hc, hf, e1, ln, le, l0, l1, l2, l3, l4, l5, l6, l7]
      exact ⟨Below.refl _ _, rfl⟩
    refine gSt (gStep_on 12 65 true rfl rfl (by decide +kernel) (fun v w h => h) ?_) ?_
    · intro ρ W hC hc hf hL
      have e68 : ρ (.tmp 68) = .agg #[.bool (neg), .int .i64 (z), .int .u64 (dgl (s) 0 : Nat), .int .u64 (dgl (s) 1 : Nat), .int .u64 (dgl (s) 2 : Nat), .int .u64 (dgl (s) 3 : Nat), .int .u64 (dgl (s) 4 : Nat), .int .u64 (dgl (s) 5 : Nat), .int .u64 (dgl (s) 6 : Nat), .int .u64 (dgl (s) 7 : Nat)] := hL 68 (by decide +kernel)
      simp [go_sem, hc, hf, e68]
      refine (HO2.out W).mono ?_
      rintro e w' ⟨v, rfl, hv, hb⟩
      exact ⟨_, rfl, hb, hv⟩
    refine gSt (gStep_on 12 65 true rfl rfl (by decide +kernel) (fun v w h => h) ?_) ?_
    · intro ρ W hC hc hf hL
      have b67 := hL 67 (by decide +kernel)
      have b69 := hL 69 (by decide +kernel)
      simp [go_sem, hc, hf]
      refine (HSZ.out _ _ W b67 b69).mono ?_
      rintro e w' ⟨rfl, hb⟩
      exact ⟨_, rfl, by first | exact hb | (subst hb; exact Below.refl _ _), rfl⟩
    refine gSt (gStep_on 12 65 true rfl rfl (by decide +kernel) (fun v w h => h) ?_) ?_
    · intro ρ W hC hc hf hL
      have e70 : ρ (.tmp 70) = .int .i64 0 := hL 70 (by decide +kernel)
      simp [go_sem, hc, hf, e70]
      exact ⟨Below.refl _ _, rfl⟩
    refine gSt (gStep_run rfl (gRun_pickT 65 71 72 _ rfl rfl (by decide +kernel) (by decide +kernel) (fun v w h => h) (fun v w h => h))) ?_
    refine gSt (gStep_run rfl (gRun_move 72 73 (.inl rfl) rfl (by decide +kernel) (fun v w h => h))) ?_
    refine gSt (gStep_on 20 73 true rfl rfl (by decide +kernel) (fun v w h => h) (gRun_move 5 74 (.inl rfl) rfl (by decide +kernel) (fun v w h => h))) ?_
    refine gSt (gStep_run rfl (gRun_pickT 73 74 75 _ rfl rfl (by decide +kernel) (by decide +kernel) (fun v w h => h) (fun v w h => h))) ?_
    refine gSt (gStep_run rfl (gRun_move 75 76 (.inl rfl) rfl (by decide +kernel) (fun v w h => h))) ?_
    refine gSt (gStep_on 23 76 true rfl rfl (by decide +kernel) (fun v w h => h) (gRun_move 4 77 (.inl rfl) rfl (by decide +kernel) (fun v w h => h))) ?_
    refine gSt (gStep_on 23 76 true rfl rfl (by decide +kernel) (fun v w h => h) ?_) ?_
    · intro ρ W hC hc hf hL
      have e1 : ρ (.tmp 1) = .pointer (some ⟨w.heap.size, 0, none⟩) := hL 1 (by decide +kernel)
      simp [go_sem, hc, hf, e1]
      exact ⟨Below.refl _ _, rfl⟩
    refine gSt (gStep_on 23 76 true rfl rfl (by decide +kernel) (fun v w h => h) ?_) ?_
    · intro ρ W hC hc hf hL
      have e78 : ρ (.tmp 78) = .pointer (some ⟨w.heap.size, 1, none⟩) := hL 78 (by decide +kernel)
      have l0 := hC.1.n.e
      simp [go_sem, hc, hf, e78, l0]
      exact ⟨Below.refl _ _, rfl⟩
    refine gSt (gStep_on 23 76 true rfl rfl (by decide +kernel) (fun v w h => h) (gRun_move 6 80 (.inl rfl) rfl (by decide +kernel) (fun v w h => h))) ?_
    refine gSt (gStep_on 23 76 true rfl rfl (by decide +kernel) (fun v w h => h) ?_) ?_
    · intro ρ W hC hc hf hL
      have e80 : ρ (.tmp 80) = v4 := hL 80 (by decide +kernel)
      simp [go_sem, hc, hf, e80]
      refine (HLN.out _ W hC.2.2).mono ?_
      rintro e w' ⟨rfl, hb⟩
      exact ⟨_, rfl, by first | exact hb | (subst hb; exact Below.refl _ _), rfl⟩
    refine gSt (gStep_on 23 76 true rfl rfl (by decide +kernel) (fun v w h => h) ?_) ?_
    · intro ρ W hC hc hf hL
      have e79 : ρ (.tmp 79) = .int .i64 z := hL 79 (by decide +kernel)
      have e81 : ρ (.tmp 81) = .int .i64 (l : Nat) := hL 81 (by decide +kernel)
      have l0 : IntKind.i64.wrap (z + (l : Int)) = z + (l : Int) := by rw [IntKind.wrap_i64]; omega
      simp [go_sem, hc, hf, e79, e81, l0]
      exact ⟨Below.refl _ _, rfl⟩
    refine gSt (gStep_on 23 76 true rfl rfl (by decide +kernel) (fun v w h => h) ?_) ?_
    · intro ρ W hC hc hf hL
      have e82 : ρ (.tmp 82) = .int .i64 (z + (l : Int)) := hL 82 (by decide +kernel)
      have l0 : IntKind.i64.wrap (z + (l : Int) - 1) = z + (l : Int) - 1 := by rw [IntKind.wrap_i64]; omega
      simp [go_sem, hc, hf, e82, l0]
      exact ⟨Below.refl _ _, rfl⟩
    refine gSt (gStep_on 23 76 true rfl rfl (by decide +kernel) (fun v w h => h) ?_) ?_
    · intro ρ W hC hc hf hL
      have e77 : ρ (.tmp 77) = .int .i64 (z + (l : Int) - 1) := hL 77 (by decide +kernel)
      have e83 : ρ (.tmp 83) = .int .i64 (z + (l : Int) - 1) := hL 83 (by decide +kernel)
      simp [go_sem, hc, hf, e77, e83]
      exact ⟨Below.refl _ _, rfl⟩
    refine gSt (gStep_run rfl (gRun_pickT 76 84 85 _ rfl rfl (by decide +kernel) (by decide +kernel) (fun v w h => h) (fun v w h => h))) ?_
    refine gSt (gStep_run rfl (gRun_move 85 86 (.inl rfl) rfl (by decide +kernel) (fun v w h => h))) ?_
    refine gSt (gStep_on 33 86 true rfl rfl (by decide +kernel) (fun v w h => h) ?_) ?_
    · intro ρ W hC hc hf hL
      simp [go_sem, hc, hf]
      refine (awake7_any _ hC.1.g).mono ?_
      rintro e w' ⟨rfl, hb⟩
      exact ⟨_, rfl, by first | exact hb | (subst hb; exact Below.refl _ _), rfl⟩
    refine gSt (gStep_run rfl (gRun_pickT 86 87 88 _ rfl rfl (by decide +kernel) (by decide +kernel) (fun v w h => h) (fun v w h => h))) ?_
    refine gSt (gStep_run rfl (gRun_move 88 2 (.inr rfl) rfl (by decide +kernel) (fun v w h => h))) ?_
    exact gSt0
  · intro W hC
    refine gFi 53 rfl ?_
    rintro _ rfl
    refine gFi 54 rfl ?_
    rintro _ rfl
    refine gFi 55 rfl ?_
    rintro _ rfl
    refine gFi 56 rfl ?_
    rintro _ rfl
    refine gFi 57 rfl ?_
    rintro _ rfl
    refine gFi 58 rfl ?_
    rintro _ rfl
    refine gFi 59 rfl ?_
    rintro _ rfl
    refine gFi 60 rfl ?_
    rintro _ rfl
    refine gFi 61 rfl ?_
    rintro _ rfl
    refine gFi 62 rfl ?_
    rintro _ rfl
    refine gFi 63 rfl ?_
    rintro _ rfl
    refine gFi 64 rfl ?_
    rintro _ rfl
    refine gFi 65 rfl ?_
    rintro _ rfl
    refine gFi 66 rfl ?_
    rintro _ rfl
    refine gFi 67 rfl ?_
    rintro u67 b67
    refine gFi 68 rfl ?_
    rintro _ rfl
    refine gFi 69 rfl ?_
    rintro u69 b69
    refine gFi 70 rfl ?_
    rintro _ rfl
    refine gFi 71 rfl ?_
    rintro _ rfl
    refine gFi 72 rfl ?_
    rintro _ rfl
    refine gFi 73 rfl ?_
    rintro _ rfl
    refine gFi 74 rfl ?_
    rintro _ rfl
    refine gFi 75 rfl ?_
    rintro _ rfl
    refine gFi 76 rfl ?_
    rintro _ rfl
    refine gFi 77 rfl ?_
    rintro _ rfl
    refine gFi 78 rfl ?_
    rintro _ rfl
    refine gFi 79 rfl ?_
    rintro _ rfl
    refine gFi 80 rfl ?_
    rintro _ rfl
    refine gFi 81 rfl ?_
    rintro _ rfl
    refine gFi 82 rfl ?_
    rintro _ rfl
    refine gFi 83 rfl ?_
    rintro _ rfl
    refine gFi 84 rfl ?_
    rintro _ rfl
    refine gFi 85 rfl ?_
    rintro _ rfl
    refine gFi 86 rfl ?_
    rintro _ rfl
    refine gFi 87 rfl ?_
    rintro _ rfl
    refine gFi 88 rfl ?_
    rintro _ rfl
    refine gFi 2 rfl ?_
    rintro _ rfl
    refine gFi0 ?_
    simp only [List.drop_succ_cons, List.drop_zero, Act.put, List.setIfInBounds_toArray, List.set_cons_succ, List.set_cons_zero]
    have HB := hide hC.1.bel
    clear hC h8 b67 b69
    go_wp2
    go_ret
    exact ⟨rfl, HB.out⟩

theorem unpackShort_all (neg : Bool) (z : Int) (s : Nat) (hs : s < QQ) (w : World) (hg : FmtG w) :
    Calls Tryd.prog 10 #[.agg (#[.bool neg, .int .i64 z] ++ #[.int .u64 (dgl (s) 0 : Nat), .int .u64 (dgl (s) 1 : Nat), .int .u64 (dgl (s) 2 : Nat), .int .u64 (dgl (s) 3 : Nat), .int .u64 (dgl (s) 4 : Nat), .int .u64 (dgl (s) 5 : Nat), .int .u64 (dgl (s) 6 : Nat), .int .u64 (dgl (s) 7 : Nat)])] w fun e w' => e = .returned (.bool true) ∧ Below w.heap.size w w' := by
  show Calls Tryd.prog 10 #[.agg #[.bool (neg), .int .i64 (z), .int .u64 (dgl (s) 0 : Nat), .int .u64 (dgl (s) 1 : Nat), .int .u64 (dgl (s) 2 : Nat), .int .u64 (dgl (s) 3 : Nat), .int .u64 (dgl (s) 4 : Nat), .int .u64 (dgl (s) 5 : Nat), .int .u64 (dgl (s) 6 : Nat), .int .u64 (dgl (s) 7 : Nat)]] w fun e w' => e = .returned (.bool true) ∧ Below w.heap.size w w'
  have hq0 : 0 < QQ := Nat.lt_trans (by decide) one_lt_qq
  have HRI := fun w => refRight_any neg z s w
  by_cases hr : rgt z = true
  · have hz : -1048576 ≤ z ∧ z ≤ 1048576 := by
      unfold rgt at hr
      rw [Bool.and_eq_true, decide_eq_true_iff, decide_eq_true_iff] at hr
      exact hr
    rw [hr] at HRI
    by_cases h0 : s = 0
    · subst h0
      refine unpackShort_Z neg z 0 0 0 0 (fun w => ?_) (fun w => top_Z neg z 0 hr hz w) HRI (fun w => refBig_any 0 hq0 w) (fun v w h => refLen_any 0 40 v w h (by decide)) (fun w => ?_) w hg
      · have := short_Z neg z 0 hr hz w
        rw [zeroN] at this
        exact this
      · rw [zeroN]
        have := num_eq neg neg 0 0 hq0 hq0 w
        simpa using this
    · obtain ⟨t, h1, h2, h3⟩ := odd_part s h0
      have hl := len_qq hs
      have ht := odd_len h2
      have hqq : s / 2 ^ t < QQ := Nat.lt_of_le_of_lt (Nat.div_le_self _ _) hs
      refine unpackShort_Y neg z s t (s / 2 ^ t) (Go.bitLen s) (fun w => short_Y neg z s hr hz hs h0 t h1 h2 h3 w) (fun w => top_Y neg z s hr hz hs h0 w) HRI (fun w => refBig_any s hs w) (fun v w h => refLen_any s 40 v w h (by decide))
        ⟨len_pos h0, hl⟩ hz (by omega) (by unfold Hid; rw [dgl0, Int.tmod_eq_emod_of_nonneg (by omega)]; omega) (fun w => refOf7_any neg _ _ hqq w) (fun w => refOf7_any neg z s hs w) (fun u v w hu hv => ?_) w hg
      have h := refSize_any neg neg (s / 2 ^ t) s (z + (t : Int)) z u v w hu hv hqq hs (by omega) (by omega)
      rw [((sizeZ_spec (s / 2 ^ t) s (z + (t : Int)) z z (by omega) (by omega)).2).2 (by
        unfold vl
        rw [show (z + (t : Int) - z).toNat = t by omega, show (z - z).toNat = 0 by omega, Nat.pow_zero, Nat.mul_one]
        exact h1)] at h
      exact h
  · have hr2 : rgt z = false := by simpa using hr
    rw [hr2] at HRI
    refine unpackShort_N neg z s 0 0 0 (fun w => ?_) (fun w => top_N neg z s hr2 w) HRI (fun w => ?_) w hg
    · have := short_N neg z s hr2 w
      rw [zero10] at this
      exact this
    · rw [zero10]
      have := num_eq false false 0 0 hq0 hq0 w
      simpa using this

end Go.Proofs.YtidfegilddlglaaDoor

/- UnpackShort: for every number the law returns true. Conditions: those of the tied card (the table of formats is laid as the program lays it). -/
namespace Go.Proofs.YtidfegilddlglaaDoor.unpackShort
open Go.ChangeShapes Go.WideShapes Go.ChangeAt Go.RowKit Go.Proofs.YtidfegilddlglaaDoor

theorem own : ownKnob Tryd.prog.godebug = none := by kernel_rfl
theorem laidOut : laidOutB Tryd.prog = true := by kernel_rfl

theorem door_met (os : Os) (args : Array Value) : laidMetH Tryd.prog [("radicand/format.formats", Rows.laid_radicand_format_formats)] ((World.doorLaid Tryd.prog 400 os).forCall (fun _ _ => 0) ⟨#[], args, []⟩).memory :=
  laidMetH_of_parts3 (fuel := 8) (laidMet_of_run' 8 (by kernel_rfl) (by kernel_rfl)) (by kernel_rfl) (by kernel_rfl)

set_option maxRecDepth 100000 in
theorem lifted (os : Os) (started : os.Started) (H : Type) (enc : TypeId × Value → H) :
    ReturnsInHanded {} Tryd.checked os 10 .any (fun w args => (Rows.unpackShortSpec.pre enc Tryd.prog Tryd.f10 [] false w args ∧ laidMetH Tryd.prog [("radicand/format.formats", Rows.laid_radicand_format_formats)] w) ∧ sizedMet enc Tryd.prog Tryd.f10 (OpenSpec.ofChange Rows.unpackShortSpec) false w args) (Rows.unpackShortSpec.post enc Tryd.prog Tryd.f10 false true false false) := by
  refine returnsInHanded_of_change_and (C := Tryd.checked) (X := fun w _ => laidMetH Tryd.prog [("radicand/format.formats", Rows.laid_radicand_format_formats)] w) (fun _ _ _ hh h => h.of_heap hh) own started (by kernel_rfl) Tryd.func10
    (ChangeSpec.witness_shaped (enc := enc) (C := Tryd.checked) (os := os) (X := fun w _ => laidMetH Tryd.prog [("radicand/format.formats", Rows.laid_radicand_format_formats)] w) false (World.doorLaid Tryd.prog 400 os) #[.agg #[.bool false, .int .i64 0, .int .u64 0, .int .u64 0, .int .u64 0, .int .u64 0, .int .u64 0, .int .u64 0, .int .u64 0, .int .u64 0]] 40 rfl (World.shaped_of_RefB (by kernel_rfl) (by kernel_rfl)) (by kernel_rfl) (by kernel_rfl) (by kernel_rfl) (door_met os _)) ?_
  intro W base args ds gs before hval0 hW _ _ hL _
  have hval : ∀ (j : Nat) t v, Tryd.f10.params[j]? = some t → args[j]? = some v → Value.okWide Tryd.prog W .any base t v := hval0
  have hW' := hW
  obtain ⟨p, q, hA0, hV, rfl, hfz, hnd⟩ := hW
  have hA : DataW.TrodAll enc Tryd.prog W 0 (fun _ => true) true Tryd.f10.params.toList args.toList ds p := hA0
  rw [Tryd.params10] at hA hval
  obtain ⟨v0, vs0, d0, ds0, p0, q0, hargs, rfl, rfl, h0, r0⟩ := trodAll_cons hA
  obtain ⟨rfl, rfl, rfl⟩ := trodAll_nil r0
  obtain rfl : args = #[v0] := by cases args; simp_all
  obtain ⟨rfl, rfl⟩ := trodVars_none hV
  have k0 := h0
  have lt0 : ∀ x ∈ p0, x.block < W.heap.size := by obtain ⟨m, hm⟩ := k0; exact DataW.trod_lt m _ _ _ hm
  obtain ⟨n0, z0, b0, hb0, rfl⟩ := number_open (hval 0 49 v0 rfl rfl) h0
  clear hA0 hval0
  have hg := of_laid1 hL
  refine (unpackShort_all n0 z0 b0 hb0.2 W hg).mono fun e W' ⟨he, bel⟩ => ?_
  subst he
  exact ⟨_, rfl, _, _, _, [], _, [], hW', trodAll_mk1 (shut_bool Tryd.underlying4 _), (trodAll_cons_mk (Below.trod laidOut (by kernel_rfl) (of_decide_eq_true (by kernel_rfl)) k0 bel lt0) trodAll_mk0), rfl, bel.frame _, fun h => by cases h⟩

theorem over : Rows.unpackShortRow.holds Tryd.pinned (OpenSpec.ofChange Rows.unpackShortSpec) :=
  OpenClaim.holds_of_wide 10 Tryd.f10 rfl rfl rfl rfl rfl rfl rfl ⟨rfl, rfl, rfl, rfl, rfl⟩ rfl rfl rfl rfl rfl (by kernel_rfl) Tryd.func10 (by kernel_rfl)
    (of_decide_eq_true (by kernel_rfl)) (by unfold Func.isWrapper; first | (rw [if_pos (by decide +kernel)]; kernel_rfl) | (rw [if_neg (by decide +kernel)]; exact ⟨rfl, rfl⟩))
    (fun os started H enc _ => lifted os started H enc)

theorem proved : Rows.UnpackShortCardSaid :=
  Claim7.holds_tied_plain_at .later [] [.data] true (true, "9d98287acc8507a5882954404ba6dd5c8d1129bdd2c779bce0d65498184581fc") false
    over (fun _ h => by cases h) (by kernel_rfl) (fun _ h => by cases h) unpackShort_row_tie rfl ⟨rfl, rfl⟩ (by kernel_rfl) rfl
    (fun f fn hf hfn => by
      obtain rfl : f = 10 := Option.some.inj ((show Tryd.prog.funcNamed "radicand/radicandlaw07.UnpackShort" = some 10 by kernel_rfl).symm.trans hf) |>.symm
      obtain rfl : fn = Tryd.f10 := (Option.some.inj (Tryd.func10.symm.trans hfn)).symm
      exact ⟨by kernel_rfl, fun j t ht => by
        rw [Tryd.params10] at ht
        rcases j with _ | j
        · obtain rfl : t = 49 := by simpa using ht.symm
          exact (show Tryd.prog.wantsStandIn 49 = false by kernel_rfl)
        simp at ht⟩)
    (by kernel_rfl)
#print axioms proved
end Go.Proofs.YtidfegilddlglaaDoor.unpackShort

