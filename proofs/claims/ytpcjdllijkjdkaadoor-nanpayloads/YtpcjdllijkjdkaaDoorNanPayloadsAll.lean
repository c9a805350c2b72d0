/- NanPayloads: for every format, sign and wide the law returns true. Conditions: those of the tied card (the table of formats is laid as the program lays it). -/
import Derived.Test.YtpcjdllijkjdkaaDoorPartBA
import Derived.Test.YtpcjdllijkjdkaaDoorPartAJ
import Derived.Test.YtpcjdllijkjdkaaDoorPartAG
import Derived.Test.YtpcjdllijkjdkaaDoorRows
import Derived.Test.YtpcjdllijkjdkaaDoorTie
import Derived.Test.YtpcjdllijkjdkaaDoorCards
import Derived.LaidMore
import Derived.Stop.Joined
import Derived.SevenTiedAt
import Derived.Test.YtpcjdllijkjdkaaDoorPartAC
import Derived.WalkKit
import Derived.ProofKit
import Derived.OpenShut
import Derived.ShutString
import Derived.ChangeOld
import Derived.Below
/- The walk of NanPayloads. -/
set_option linter.unusedVariables false
set_option linter.unusedSimpArgs false
set_option maxRecDepth 8000
namespace Go.Proofs.YtpcjdllijkjdkaaDoor
open Go.RowKit Plain

theorem wz_zz (w : World) : (Op.equalIn 10000 28 (.agg #[.int .u64 0, .int .u64 0]) (.agg #[.int .u64 0, .int .u64 0])).run Tryd.prog w = .ok true w := by
  have h := wordEq (a := 0) (b := 0) (by decide) (by decide) w
  rw [dgl_zero, dgl_zero] at h
  exact h
theorem isf_u (f : Int) (h : 1 ≤ f ∧ f ≤ 4) (w : World) : Calls Tryd.prog 12 #[.int .i64 f] w fun e w' => e = .returned (.bool true) ∧ w' = w := by
  rcases f_cases f with rfl | rfl | rfl | rfl | h0
  · exact is_1 w
  · exact is_2 w
  · exact is_3 w
  · exact is_4 w
  · omega
structure NlSt (s : Nat) (w W : World) : Prop where
  g : FmtG W
  gl : 1 < w.heap.size
  l : LiesF W (w.heap.size) (dgl s)
  lt : w.heap.size < W.heap.size
  bel : Below w.heap.size w W
theorem NlSt.under {s : Nat} {w W W' : World} (h : NlSt s w W) {C : Nat} (hb : Below C W W') (hc : w.heap.size < C) : NlSt s w W' :=
  ⟨⟨fun i hi => (hb.cell (p := ⟨1, i, none⟩) (show 1 < C by have := h.gl; omega)).trans (h.g.c i hi), Nat.lt_of_lt_of_le h.g.lt hb.size⟩, h.gl, lies_box h.l hb (show w.heap.size < C by omega), Nat.lt_of_lt_of_le h.lt hb.size, h.bel.trans (hb.mono (by omega))⟩
theorem NlSt.below {s : Nat} {w W W' : World} (h : NlSt s w W) (hb : Below W.heap.size W W') : NlSt s w W' := h.under hb h.lt
theorem nlSt_start (s : Nat) (w : World) (hg : FmtG w) : NlSt s w (w.alloc (.cells #[.int .u64 (dgl (s) 0 : Nat), .int .u64 (dgl (s) 1 : Nat), .int .u64 (dgl (s) 2 : Nat), .int .u64 (dgl (s) 3 : Nat), .int .u64 (dgl (s) 4 : Nat), .int .u64 (dgl (s) 5 : Nat), .int .u64 (dgl (s) 6 : Nat), .int .u64 (dgl (s) 7 : Nat)] 24)) :=
  ⟨hg.below (below_allocs _ _), hg.lt, liesF_new _ _ _, by simp, below_allocs _ _⟩

set_option maxHeartbeats 4000000 in
theorem nanPayloads_N (f : Int) (neg : Bool) (s y ln P : Nat)
    (HW : Hid (∀ w, FmtG w → Calls Tryd.prog 45 #[.int .i64 f, .bool neg, .agg #[.int .u64 (dgl (s) 0 : Nat), .int .u64 (dgl (s) 1 : Nat), .int .u64 (dgl (s) 2 : Nat), .int .u64 (dgl (s) 3 : Nat), .int .u64 (dgl (s) 4 : Nat), .int .u64 (dgl (s) 5 : Nat), .int .u64 (dgl (s) 6 : Nat), .int .u64 (dgl (s) 7 : Nat)]] w fun e w' => e = .returned (.tuple #[.agg #[.int .u64 0, .int .u64 0], .bool false]) ∧ Below w.heap.size w w'))
    (HIS : Hid (∀ w, Calls Tryd.prog 12 #[.int .i64 f] w fun e w' => e = .returned (.bool false) ∧ w' = w)) (w : World) (hg : FmtG w) :
    Calls Tryd.prog 10 #[.int .i64 f, .bool neg, .agg #[.int .u64 (dgl (s) 0 : Nat), .int .u64 (dgl (s) 1 : Nat), .int .u64 (dgl (s) 2 : Nat), .int .u64 (dgl (s) 3 : Nat), .int .u64 (dgl (s) 4 : Nat), .int .u64 (dgl (s) 5 : Nat), .int .u64 (dgl (s) 6 : Nat), .int .u64 (dgl (s) 7 : Nat)]] w fun e w' => e = .returned (.bool true) ∧ Below w.heap.size w w' := by
  have HS := hide (nlSt_start s w hg)
  clear hg
  go_enter Tryd.func10, Tryd.ntmps10
  go_upto_region 1 with fail
  refine wp_gen (fun W => NlSt s w W) HS.out ?_
  clear HS
  rintro W1 h1_
  have HS := hide h1_
  clear h1_
  have zl := HS.out.l.1
  go_wp2_with fail
  refine (HW.out _ HS.out.g).mono ?_
  rintro e w1 ⟨rfl, hb1⟩
  replace HS := hide (HS.out.below hb1)
  clear hb1 zl
  go_upto_region 2 with fail
  refine wp_gen (fun W => NlSt s w W ∧ WB W w1.heap.size 0 0) ⟨HS.out.below (below_allocs _ _), wb_new _ _⟩ ?_
  clear HS
  generalize w1.heap.size = p7 at *
  rintro W2 ⟨g1, g2⟩
  have HS := hide g1
  have HY := hide g2
  clear g1 g2
  go_wp2_with fail
  refine (HIS.out _).mono ?_
  rintro e w2 ⟨rfl, hw⟩
  subst w2
  have yh := HY.out.h
  have yl := HY.out.l
  have hz0 := fun w => wz_zz w
  go_wp2_with fail
  refine (awake10_any _ HS.out.g).mono ?_
  rintro e w9 ⟨rfl, hb9⟩
  have HB := hide (below_trans HS.out.bel hb9)
  clear hb9 HS
  go_wp2
  go_ret
  exact ⟨rfl, HB.out⟩

set_option maxHeartbeats 4000000 in
theorem nanPayloads_L (f : Int) (neg : Bool) (s y ln P : Nat)
    (HW : Hid (∀ w, FmtG w → Calls Tryd.prog 45 #[.int .i64 f, .bool neg, .agg #[.int .u64 (dgl (s) 0 : Nat), .int .u64 (dgl (s) 1 : Nat), .int .u64 (dgl (s) 2 : Nat), .int .u64 (dgl (s) 3 : Nat), .int .u64 (dgl (s) 4 : Nat), .int .u64 (dgl (s) 5 : Nat), .int .u64 (dgl (s) 6 : Nat), .int .u64 (dgl (s) 7 : Nat)]] w fun e w' => e = .returned (.tuple #[.agg #[.int .u64 0, .int .u64 0], .bool false]) ∧ Below w.heap.size w w'))
    (HIS : Hid (∀ w, Calls Tryd.prog 12 #[.int .i64 f] w fun e w' => e = .returned (.bool true) ∧ w' = w))
    (HBG : Hid (∀ w, Calls Tryd.prog 23 #[.agg #[.int .u64 (dgl (s) 0 : Nat), .int .u64 (dgl (s) 1 : Nat), .int .u64 (dgl (s) 2 : Nat), .int .u64 (dgl (s) 3 : Nat), .int .u64 (dgl (s) 4 : Nat), .int .u64 (dgl (s) 5 : Nat), .int .u64 (dgl (s) 6 : Nat), .int .u64 (dgl (s) 7 : Nat)]] w fun e w' => ∃ v, e = .returned v ∧ BigV w' v s 40 ∧ Below w.heap.size w w'))
    (HLN : Hid (∀ v w, BigV w v s 40 → Calls Tryd.prog 22 #[v] w fun e w' => e = .returned (.int .i64 (ln : Nat)) ∧ w' = w))
    (HPR : Hid (∀ w, Calls Tryd.prog 34 #[.int .i64 f] w fun e w' => e = .returned (.int .i64 (P : Nat)) ∧ w' = w))
    (hP : P ≤ 200)
    (hl : ((P : Int) - 2 < (ln : Int))) (w : World) (hg : FmtG w) :
    Calls Tryd.prog 10 #[.int .i64 f, .bool neg, .agg #[.int .u64 (dgl (s) 0 : Nat), .int .u64 (dgl (s) 1 : Nat), .int .u64 (dgl (s) 2 : Nat), .int .u64 (dgl (s) 3 : Nat), .int .u64 (dgl (s) 4 : Nat), .int .u64 (dgl (s) 5 : Nat), .int .u64 (dgl (s) 6 : Nat), .int .u64 (dgl (s) 7 : Nat)]] w fun e w' => e = .returned (.bool true) ∧ Below w.heap.size w w' := by
  have HS := hide (nlSt_start s w hg)
  clear hg
  go_enter Tryd.func10, Tryd.ntmps10
  go_upto_region 1 with fail
  refine wp_gen (fun W => NlSt s w W) HS.out ?_
  clear HS
  rintro W1 h1_
  have HS := hide h1_
  clear h1_
  have zl := HS.out.l.1
  go_wp2_with fail
  refine (HW.out _ HS.out.g).mono ?_
  rintro e w1 ⟨rfl, hb1⟩
  replace HS := hide (HS.out.below hb1)
  clear hb1 zl
  go_upto_region 2 with fail
  refine wp_gen (fun W => NlSt s w W ∧ WB W w1.heap.size 0 0) ⟨HS.out.below (below_allocs _ _), wb_new _ _⟩ ?_
  clear HS
  generalize w1.heap.size = p7 at *
  rintro W2 ⟨g1, g2⟩
  have HS := hide g1
  have HY := hide g2
  clear g1 g2
  go_wp2_with fail
  refine (HIS.out _).mono ?_
  rintro e w2 ⟨rfl, hw⟩
  subst w2
  have zl := HS.out.l.1
  go_wp2_with fail
  refine (HBG.out _).mono ?_
  rintro e w3 ⟨v3, rfl, hv3, hb3⟩
  replace HS := hide (HS.out.below hb3)
  replace HY := hide (HY.out.below hb3)
  clear hb3 zl
  go_wp2_with fail
  refine (HLN.out _ _ hv3).mono ?_
  rintro e w4 ⟨rfl, hw⟩
  subst w4
  go_wp2_with fail
  refine (HPR.out _).mono ?_
  rintro e w4 ⟨rfl, hw⟩
  subst w4
  have hw2 : IntKind.i64.wrap ((P : Int) - 2) = (P : Int) - 2 := by rw [IntKind.wrap_i64]; omega
  have yh := HY.out.h
  have yl := HY.out.l
  have hz0 := fun w => wz_zz w
  go_wp2_with fail
  refine (awake10_any _ HS.out.g).mono ?_
  rintro e w9 ⟨rfl, hb9⟩
  have HB := hide (below_trans HS.out.bel hb9)
  clear hb9 HS
  go_wp2
  go_ret
  exact ⟨rfl, HB.out⟩

set_option maxHeartbeats 4000000 in
theorem nanPayloads_Y (f : Int) (neg : Bool) (s y ln P : Nat)
    (HW : Hid (∀ w, FmtG w → Calls Tryd.prog 45 #[.int .i64 f, .bool neg, .agg #[.int .u64 (dgl (s) 0 : Nat), .int .u64 (dgl (s) 1 : Nat), .int .u64 (dgl (s) 2 : Nat), .int .u64 (dgl (s) 3 : Nat), .int .u64 (dgl (s) 4 : Nat), .int .u64 (dgl (s) 5 : Nat), .int .u64 (dgl (s) 6 : Nat), .int .u64 (dgl (s) 7 : Nat)]] w fun e w' => e = .returned (.tuple #[.agg #[.int .u64 (dgl (y) 1 : Nat), .int .u64 (dgl (y) 0 : Nat)], .bool true]) ∧ Below w.heap.size w w'))
    (HIS : Hid (∀ w, Calls Tryd.prog 12 #[.int .i64 f] w fun e w' => e = .returned (.bool true) ∧ w' = w))
    (HBG : Hid (∀ w, Calls Tryd.prog 23 #[.agg #[.int .u64 (dgl (s) 0 : Nat), .int .u64 (dgl (s) 1 : Nat), .int .u64 (dgl (s) 2 : Nat), .int .u64 (dgl (s) 3 : Nat), .int .u64 (dgl (s) 4 : Nat), .int .u64 (dgl (s) 5 : Nat), .int .u64 (dgl (s) 6 : Nat), .int .u64 (dgl (s) 7 : Nat)]] w fun e w' => ∃ v, e = .returned v ∧ BigV w' v s 40 ∧ Below w.heap.size w w'))
    (HLN : Hid (∀ v w, BigV w v s 40 → Calls Tryd.prog 22 #[v] w fun e w' => e = .returned (.int .i64 (ln : Nat)) ∧ w' = w))
    (HPR : Hid (∀ w, Calls Tryd.prog 34 #[.int .i64 f] w fun e w' => e = .returned (.int .i64 (P : Nat)) ∧ w' = w))
    (hP : P ≤ 200)
    (hl : ¬ ((P : Int) - 2 < (ln : Int)))
    (HPL : Hid (∀ w, FmtG w → Calls Tryd.prog 44 #[.int .i64 f, .agg #[.int .u64 (dgl (y) 1 : Nat), .int .u64 (dgl (y) 0 : Nat)]] w fun e w' => e = .returned (.tuple #[.agg #[.int .u64 (dgl (s) 0 : Nat), .int .u64 (dgl (s) 1 : Nat), .int .u64 (dgl (s) 2 : Nat), .int .u64 (dgl (s) 3 : Nat), .int .u64 (dgl (s) 4 : Nat), .int .u64 (dgl (s) 5 : Nat), .int .u64 (dgl (s) 6 : Nat), .int .u64 (dgl (s) 7 : Nat)], .bool true]) ∧ Below w.heap.size w w'))
    (HC2 : Hid (∀ w, Calls Tryd.prog 31 #[.int .i64 f, .agg #[.int .u64 (dgl (y) 1 : Nat), .int .u64 (dgl (y) 0 : Nat)]] w fun e w' => e = .returned (.int .i64 2) ∧ Below w.heap.size w w'))
    (HNG : Hid (∀ w, Calls Tryd.prog 46 #[.int .i64 f, .agg #[.int .u64 (dgl (y) 1 : Nat), .int .u64 (dgl (y) 0 : Nat)]] w fun e w' => e = .returned (.bool neg) ∧ Below w.heap.size w w'))
    (hs : ∀ w, (Op.equalIn 10000 24 (.agg #[.int .u64 (dgl (s) 0 : Nat), .int .u64 (dgl (s) 1 : Nat), .int .u64 (dgl (s) 2 : Nat), .int .u64 (dgl (s) 3 : Nat), .int .u64 (dgl (s) 4 : Nat), .int .u64 (dgl (s) 5 : Nat), .int .u64 (dgl (s) 6 : Nat), .int .u64 (dgl (s) 7 : Nat)]) (.agg #[.int .u64 (dgl (s) 0 : Nat), .int .u64 (dgl (s) 1 : Nat), .int .u64 (dgl (s) 2 : Nat), .int .u64 (dgl (s) 3 : Nat), .int .u64 (dgl (s) 4 : Nat), .int .u64 (dgl (s) 5 : Nat), .int .u64 (dgl (s) 6 : Nat), .int .u64 (dgl (s) 7 : Nat)])).run Tryd.prog w = .ok true w) (w : World) (hg : FmtG w) :
    Calls Tryd.prog 10 #[.int .i64 f, .bool neg, .agg #[.int .u64 (dgl (s) 0 : Nat), .int .u64 (dgl (s) 1 : Nat), .int .u64 (dgl (s) 2 : Nat), .int .u64 (dgl (s) 3 : Nat), .int .u64 (dgl (s) 4 : Nat), .int .u64 (dgl (s) 5 : Nat), .int .u64 (dgl (s) 6 : Nat), .int .u64 (dgl (s) 7 : Nat)]] w fun e w' => e = .returned (.bool true) ∧ Below w.heap.size w w' := by
  have HS := hide (nlSt_start s w hg)
  clear hg
  go_enter Tryd.func10, Tryd.ntmps10
  go_upto_region 1 with fail
  refine wp_gen (fun W => NlSt s w W) HS.out ?_
  clear HS
  rintro W1 h1_
  have HS := hide h1_
  clear h1_
  have zl := HS.out.l.1
  go_wp2_with fail
  refine (HW.out _ HS.out.g).mono ?_
  rintro e w1 ⟨rfl, hb1⟩
  replace HS := hide (HS.out.below hb1)
  clear hb1 zl
  go_upto_region 2 with fail
  refine wp_gen (fun W => NlSt s w W ∧ WB W w1.heap.size (dgl y 1) (dgl y 0)) ⟨HS.out.below (below_allocs _ _), wb_new2 _ _ _ _⟩ ?_
  clear HS
  generalize w1.heap.size = p7 at *
  rintro W2 ⟨g1, g2⟩
  have HS := hide g1
  have HY := hide g2
  clear g1 g2
  go_wp2_with fail
  refine (HIS.out _).mono ?_
  rintro e w2 ⟨rfl, hw⟩
  subst w2
  have zl := HS.out.l.1
  go_wp2_with fail
  refine (HBG.out _).mono ?_
  rintro e w3 ⟨v3, rfl, hv3, hb3⟩
  replace HS := hide (HS.out.below hb3)
  replace HY := hide (HY.out.below hb3)
  clear hb3 zl
  go_wp2_with fail
  refine (HLN.out _ _ hv3).mono ?_
  rintro e w4 ⟨rfl, hw⟩
  subst w4
  go_wp2_with fail
  refine (HPR.out _).mono ?_
  rintro e w4 ⟨rfl, hw⟩
  subst w4
  have hw2 : IntKind.i64.wrap ((P : Int) - 2) = (P : Int) - 2 := by rw [IntKind.wrap_i64]; omega
  have yh := HY.out.h
  have yl := HY.out.l
  go_wp2_with fail
  refine (HPL.out _ HS.out.g).mono ?_
  rintro e w5 ⟨rfl, hb5⟩
  replace HS := hide (HS.out.below hb5)
  replace HY := hide (HY.out.below hb5)
  clear hb5
  clear yh yl
  go_upto_region 5 with fail
  refine wp_gen (fun W => NlSt s w W ∧ WB W p7 (dgl y 1) (dgl y 0) ∧ LiesF W w5.heap.size (dgl s)) ⟨HS.out.below (below_allocs _ _), HY.out.below (below_allocs _ _), liesF_new _ _ _⟩ ?_
  clear HS HY
  generalize w5.heap.size = p9 at *
  rintro W5 ⟨g1, g2, g3⟩
  have HS := hide g1
  have HY := hide g2
  have z9 := g3.1
  clear g1 g2 g3
  have zl := HS.out.l.1
  have yh := HY.out.h
  have yl := HY.out.l
  go_wp2_with fail
  refine (HC2.out _).mono ?_
  rintro e w6 ⟨rfl, hb6⟩
  replace HS := hide (HS.out.below hb6)
  replace HY := hide (HY.out.below hb6)
  clear hb6
  clear yh yl
  clear zl z9
  have yh := HY.out.h
  have yl := HY.out.l
  go_wp2_with fail
  refine (HNG.out _).mono ?_
  rintro e w7 ⟨rfl, hb7⟩
  replace HS := hide (HS.out.below hb7)
  clear hb7
  clear yh yl
  have hnn : (neg == neg) = true := beq_self_eq_true neg
  go_wp2_with fail
  refine (awake10_any _ HS.out.g).mono ?_
  rintro e w9 ⟨rfl, hb9⟩
  have HB := hide (below_trans HS.out.bel hb9)
  clear hb9 HS
  go_wp2
  go_ret
  exact ⟨rfl, HB.out⟩

theorem nanPayloads_all (f : Int) (neg : Bool) (s : Nat) (hs : s < QQ) (w : World) (hg : FmtG w) :
    Calls Tryd.prog 10 #[.int .i64 f, .bool neg, .agg #[.int .u64 (dgl (s) 0 : Nat), .int .u64 (dgl (s) 1 : Nat), .int .u64 (dgl (s) 2 : Nat), .int .u64 (dgl (s) 3 : Nat), .int .u64 (dgl (s) 4 : Nat), .int .u64 (dgl (s) 5 : Nat), .int .u64 (dgl (s) 6 : Nat), .int .u64 (dgl (s) 7 : Nat)]] w fun e w' => e = .returned (.bool true) ∧ Below w.heap.size w w' := by
  have HBG := fun w => refBig_any s hs w
  have HLN := fun v w h => refLen_any s 40 v w h (by decide)
  by_cases hf : 1 ≤ f ∧ f ≤ 4
  · have hp := prU_bd f hf
    have HI := fun w => isf_u f hf w
    have HP := fun w => prec_u f hf w
    have hl := len_le s (prU f - 2)
    rw [← qb_pow f hf] at hl
    by_cases h : s < qb f
    · obtain ⟨b, hb, e1, e2, e3, e4, e5⟩ := with_yes f hf neg s h
      have hpl : payU f b = s := by
        rw [show payU f b = frcU f b - qb f from if_pos e4, e3]; omega
      have HPL := fun w hg => payload_u f b hb w hg
      rw [hpl, nanB_iff.2 (.inr e4)] at HPL
      have HC := fun w => refCls_u f b hb w
      rw [e4] at HC
      have HN := fun w => refNeg_u f b hb w
      rw [e1] at HN
      have hq := fun w => wide_eqb hs hs w
      rw [decide_eq_true rfl] at hq
      exact nanPayloads_Y f neg s b (Go.bitLen s) (prU f) e5 HI HBG HLN HP (by omega) (by have := hl.2 h; omega) HPL HC HN hq w hg
    · exact nanPayloads_L f neg s 0 (Go.bitLen s) (prU f) (fun w hg => with_no f neg s hs (fun h1 => h h1.2) w hg) HI HBG HLN HP (by omega) (by have := mt hl.1 h; omega) w hg
  · exact nanPayloads_N f neg s 0 0 0 (fun w hg => with_no f neg s hs (fun h1 => hf h1.1) w hg) (fun w => is_none f (by omega) w) w hg

end Go.Proofs.YtpcjdllijkjdkaaDoor

/- NanPayloads: for every format, sign and wide the law returns true. Conditions: those of the tied card (the table of formats is laid as the program lays it). -/
namespace Go.Proofs.YtpcjdllijkjdkaaDoor.nanPayloads
open Go.ChangeShapes Go.WideShapes Go.ChangeAt Go.RowKit Go.Proofs.YtpcjdllijkjdkaaDoor

theorem own : ownKnob Tryd.prog.godebug = none := by kernel_rfl
theorem laidOut : laidOutB Tryd.prog = true := by kernel_rfl

theorem door_met (os : Os) (args : Array Value) : laidMetH Tryd.prog [("radicand/format.formats", Rows.laid_radicand_format_formats)] ((World.doorLaid Tryd.prog 400 os).forCall (fun _ _ => 0) ⟨#[], args, []⟩).memory :=
  laidMetH_of_parts3 (fuel := 8) (laidMet_of_run' 8 (by kernel_rfl) (by kernel_rfl)) (by kernel_rfl) (by kernel_rfl)

set_option maxRecDepth 100000 in
theorem lifted (os : Os) (started : os.Started) (H : Type) (enc : TypeId × Value → H) :
    ReturnsInHanded {} Tryd.checked os 10 .any (fun w args => (Rows.nanPayloadsSpec.pre enc Tryd.prog Tryd.f10 [] false w args ∧ laidMetH Tryd.prog [("radicand/format.formats", Rows.laid_radicand_format_formats)] w) ∧ sizedMet enc Tryd.prog Tryd.f10 (OpenSpec.ofChange Rows.nanPayloadsSpec) false w args) (Rows.nanPayloadsSpec.post enc Tryd.prog Tryd.f10 false true false false) := by
  refine returnsInHanded_of_change_and (C := Tryd.checked) (X := fun w _ => laidMetH Tryd.prog [("radicand/format.formats", Rows.laid_radicand_format_formats)] w) (fun _ _ _ hh h => h.of_heap hh) own started (by kernel_rfl) Tryd.func10
    (ChangeSpec.witness_shaped (enc := enc) (C := Tryd.checked) (os := os) (X := fun w _ => laidMetH Tryd.prog [("radicand/format.formats", Rows.laid_radicand_format_formats)] w) false (World.doorLaid Tryd.prog 400 os) #[.int .i64 0, .bool false, .agg #[.int .u64 0, .int .u64 0, .int .u64 0, .int .u64 0, .int .u64 0, .int .u64 0, .int .u64 0, .int .u64 0]] 40 rfl (World.shaped_of_RefB (by kernel_rfl) (by kernel_rfl)) (by kernel_rfl) (by kernel_rfl) (by kernel_rfl) (door_met os _)) ?_
  intro W base args ds gs before hval0 hW _ _ hL _
  have hval : ∀ (j : Nat) t v, Tryd.f10.params[j]? = some t → args[j]? = some v → Value.okWide Tryd.prog W .any base t v := hval0
  have hW' := hW
  obtain ⟨p, q, hA0, hV, rfl, hfz, hnd⟩ := hW
  have hA : DataW.TrodAll enc Tryd.prog W 0 (fun _ => true) true Tryd.f10.params.toList args.toList ds p := hA0
  rw [Tryd.params10] at hA hval
  obtain ⟨v0, vs0, d0, ds0, p0, q0, hargs, rfl, rfl, h0, r0⟩ := trodAll_cons hA
  obtain ⟨v1, vs1, d1, ds1, p1, q1, rfl, rfl, rfl, h1, r1⟩ := trodAll_cons r0
  obtain ⟨v2, vs2, d2, ds2, p2, q2, rfl, rfl, rfl, h2, r2⟩ := trodAll_cons r1
  obtain ⟨rfl, rfl, rfl⟩ := trodAll_nil r2
  obtain rfl : args = #[v0, v1, v2] := by cases args; simp_all
  obtain ⟨rfl, rfl⟩ := trodVars_none hV
  have k0 := h0
  have lt0 : ∀ x ∈ p0, x.block < W.heap.size := by obtain ⟨m, hm⟩ := k0; exact DataW.trod_lt m _ _ _ hm
  have k1 := h1
  have lt1 : ∀ x ∈ p1, x.block < W.heap.size := by obtain ⟨m, hm⟩ := k1; exact DataW.trod_lt m _ _ _ hm
  have k2 := h2
  have lt2 : ∀ x ∈ p2, x.block < W.heap.size := by obtain ⟨m, hm⟩ := k2; exact DataW.trod_lt m _ _ _ hm
  obtain ⟨a0, rfl, rfl, rfl, wf0⟩ := open_int Tryd.underlying3 (hval 0 3 v0 rfl rfl) h0
  obtain ⟨b1, rfl, rfl, rfl⟩ := open_bool Tryd.underlying4 (hval 1 4 v1 rfl rfl) h1
  obtain ⟨x2, hx2, rfl⟩ := wide_of_trod (hval 2 24 v2 rfl rfl) h2
  clear hA0 hval0
  have hg := of_laid1 hL
  refine (nanPayloads_all a0 b1 x2 hx2 W hg).mono fun e W' ⟨he, bel⟩ => ?_
  subst he
  exact ⟨_, rfl, _, _, _, [], _, [], hW', trodAll_mk1 (shut_bool Tryd.underlying4 _), (trodAll_cons_mk (Below.trod laidOut (by kernel_rfl) (of_decide_eq_true (by kernel_rfl)) k0 bel lt0) (trodAll_cons_mk (Below.trod laidOut (by kernel_rfl) (of_decide_eq_true (by kernel_rfl)) k1 bel lt1) (trodAll_cons_mk (Below.trod laidOut (by kernel_rfl) (of_decide_eq_true (by kernel_rfl)) k2 bel lt2) trodAll_mk0))), rfl, bel.frame _, fun h => by cases h⟩

theorem over : Rows.nanPayloadsRow.holds Tryd.pinned (OpenSpec.ofChange Rows.nanPayloadsSpec) :=
  OpenClaim.holds_of_wide 10 Tryd.f10 rfl rfl rfl rfl rfl rfl rfl ⟨rfl, rfl, rfl, rfl, rfl⟩ rfl rfl rfl rfl rfl (by kernel_rfl) Tryd.func10 (by kernel_rfl)
    (of_decide_eq_true (by kernel_rfl)) (by unfold Func.isWrapper; first | (rw [if_pos (by decide +kernel)]; kernel_rfl) | (rw [if_neg (by decide +kernel)]; exact ⟨rfl, rfl⟩))
    (fun os started H enc _ => lifted os started H enc)

theorem proved : Rows.NanPayloadsCardSaid :=
  Claim7.holds_tied_plain_at .later [] [.data] true (true, "bda7307485677e703060dea11d85374f6d1941a46d5c51f47956e134a69fc123") false
    over (fun _ h => by cases h) (by kernel_rfl) (fun _ h => by cases h) nanPayloads_row_tie rfl ⟨rfl, rfl⟩ (by kernel_rfl) rfl
    (fun f fn hf hfn => by
      obtain rfl : f = 10 := Option.some.inj ((show Tryd.prog.funcNamed "radicand/radicandlaw10.NanPayloads" = some 10 by kernel_rfl).symm.trans hf) |>.symm
      obtain rfl : fn = Tryd.f10 := (Option.some.inj (Tryd.func10.symm.trans hfn)).symm
      exact ⟨by kernel_rfl, fun j t ht => by
        rw [Tryd.params10] at ht
        rcases j with _ | j
        · obtain rfl : t = 3 := by simpa using ht.symm
          exact (show Tryd.prog.wantsStandIn 3 = false by kernel_rfl)
        rcases j with _ | j
        · obtain rfl : t = 4 := by simpa using ht.symm
          exact (show Tryd.prog.wantsStandIn 4 = false by kernel_rfl)
        rcases j with _ | j
        · obtain rfl : t = 24 := by simpa using ht.symm
          exact (show Tryd.prog.wantsStandIn 24 = false by kernel_rfl)
        simp at ht⟩)
    (by kernel_rfl)
#print axioms proved
end Go.Proofs.YtpcjdllijkjdkaaDoor.nanPayloads

