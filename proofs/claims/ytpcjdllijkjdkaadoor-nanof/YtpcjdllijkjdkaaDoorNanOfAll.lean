/- NanOf: for every format and any words the law returns true. Conditions: those of the tied card (the table of formats is laid as the program lays it). -/
import Derived.Test.YtpcjdllijkjdkaaDoorPartBA
import Derived.Test.YtpcjdllijkjdkaaDoorNanPayloadsAll
import Derived.Test.YtpcjdllijkjdkaaDoorRows
import Derived.Test.YtpcjdllijkjdkaaDoorTie
import Derived.Test.YtpcjdllijkjdkaaDoorCards
import Derived.LaidMore
import Derived.Stop.Joined
import Derived.SevenTiedAt
import Derived.Test.YtpcjdllijkjdkaaDoorPartAC
import Derived.WalkKit
import Derived.ProofKit
import Derived.OpenShut
import Derived.ShutString
import Derived.ChangeOld
import Derived.Below
/- The walk of NanOf. -/
set_option linter.unusedVariables false
set_option linter.unusedSimpArgs false
set_option maxRecDepth 8000
namespace Go.Proofs.YtpcjdllijkjdkaaDoor
open Go.RowKit Plain
structure NfSt  (w W : World) : Prop where
  g : FmtG W
  gl : 1 < w.heap.size
  bel : Below w.heap.size w W
theorem NfSt.below {w W W' : World} (h : NfSt w W) (hb : Below W.heap.size W W') : NfSt w W' := ⟨h.g.below hb, h.gl, below_trans h.bel hb⟩

set_option maxHeartbeats 4000000 in
theorem nanOf_B (f z : Int) (b : Bool) (ao : Option Addr) (n ca x y : Nat) (w : World)
    (hn : (40 : Int) < (n : Int)) (hg : FmtG w) :
    Calls Tryd.prog 8 #[.int .i64 f, .slice ao n ca] w fun e w' => e = .returned (.bool true) ∧ Below w.heap.size w w' := by
  have HS := hide (show NfSt w w from ⟨hg, hg.lt, Below.refl _ _⟩)
  clear hg
  go_enter Tryd.func8, Tryd.ntmps8
  go_wp2_with fail
  refine (awake10_any _ HS.out.g).mono ?_
  rintro e w9 ⟨rfl, hb9⟩
  have HB := hide (below_trans HS.out.bel hb9)
  clear hb9 HS
  go_wp2
  go_ret
  exact ⟨rfl, HB.out⟩

set_option maxHeartbeats 4000000 in
theorem nanOf_N (f z : Int) (b : Bool) (ao : Option Addr) (n ca x y : Nat) (w : World)
    (hn : ¬ (40 : Int) < (n : Int))
    (HO : Hid (∀ W, FmtG W → Below w.heap.size w W → Calls Tryd.prog 38 #[.int .i64 f, .slice ao n ca] W fun e w' => e = .returned (.tuple #[.agg #[.int .u64 (dgl (x) 1 : Nat), .int .u64 (dgl (x) 0 : Nat)], .int .i64 z, .bool b]) ∧ Below W.heap.size W w'))
    (HRO : Hid (∀ W, Below w.heap.size w W → Calls Tryd.prog 39 #[.int .i64 f, .slice ao n ca] W fun e w' => e = .returned (.tuple #[.agg #[.int .u64 (dgl (x) 1 : Nat), .int .u64 (dgl (x) 0 : Nat)], .int .i64 z, .bool b]) ∧ Below W.heap.size W w'))
    (HNO : Hid (∀ w, FmtG w → Calls Tryd.prog 40 #[.int .i64 f] w fun e w' => e = .returned (.tuple #[.agg #[.int .u64 0, .int .u64 0], .int .i64 0]) ∧ Below w.heap.size w w'))
    (HIS : Hid (∀ w, Calls Tryd.prog 12 #[.int .i64 f] w fun e w' => e = .returned (.bool false) ∧ w' = w))
    (hx : ∀ w, (Op.equalIn 10000 28 (.agg #[.int .u64 (dgl (x) 1 : Nat), .int .u64 (dgl (x) 0 : Nat)]) (.agg #[.int .u64 (dgl (x) 1 : Nat), .int .u64 (dgl (x) 0 : Nat)])).run Tryd.prog w = .ok true w) (hg : FmtG w) :
    Calls Tryd.prog 8 #[.int .i64 f, .slice ao n ca] w fun e w' => e = .returned (.bool true) ∧ Below w.heap.size w w' := by
  have HS := hide (show NfSt w w from ⟨hg, hg.lt, Below.refl _ _⟩)
  clear hg
  go_enter Tryd.func8, Tryd.ntmps8
  go_wp2_with fail
  refine (HO.out _ HS.out.g HS.out.bel).mono ?_
  rintro e w1 ⟨rfl, hb1⟩
  replace HS := hide (HS.out.below hb1)
  clear hb1
  go_upto_region 4 with fail
  refine wp_gen (fun W => NfSt w W ∧ WB W w1.heap.size (dgl x 1) (dgl x 0)) ⟨HS.out.below (below_allocs _ _), wb_new2 _ _ _ _⟩ ?_
  clear HS
  generalize w1.heap.size = p5 at *
  rintro W2 ⟨g1, g2⟩
  have HS := hide g1
  have H5 := hide g2
  clear g1 g2
  go_wp2_with fail
  refine (HRO.out _ HS.out.bel).mono ?_
  rintro e w2 ⟨rfl, hb2⟩
  replace HS := hide (HS.out.below hb2)
  replace H5 := hide (H5.out.below hb2)
  clear hb2
  go_upto_region 5 with fail
  refine wp_gen (fun W => NfSt w W ∧ WB W p5 (dgl x 1) (dgl x 0) ∧ WB W w2.heap.size (dgl x 1) (dgl x 0)) ⟨HS.out.below (below_allocs _ _), H5.out.below (below_allocs _ _), wb_new2 _ _ _ _⟩ ?_
  clear HS H5
  generalize w2.heap.size = p8 at *
  rintro W3 ⟨g1, g2, g3⟩
  have HS := hide g1
  have H5 := hide g2
  have H8 := hide g3
  clear g1 g2 g3
  go_wp2_with fail
  refine (HNO.out _ HS.out.g).mono ?_
  rintro e w3 ⟨rfl, hb3⟩
  replace HS := hide (HS.out.below hb3)
  replace H5 := hide (H5.out.below hb3)
  replace H8 := hide (H8.out.below hb3)
  clear hb3
  go_upto_region 6 with fail
  refine wp_gen (fun W => NfSt w W ∧ WB W p5 (dgl x 1) (dgl x 0) ∧ WB W p8 (dgl x 1) (dgl x 0) ∧ WB W w3.heap.size 0 0) ⟨HS.out.below (below_allocs _ _), H5.out.below (below_allocs _ _), H8.out.below (below_allocs _ _), wb_new _ _⟩ ?_
  clear HS H5 H8
  generalize w3.heap.size = p11 at *
  rintro W4 ⟨g1, g2, g3, g4⟩
  go_upto_region 7 with fail
  refine wp_gen (fun W => NfSt w W ∧ WB W p5 (dgl x 1) (dgl x 0) ∧ WB W p8 (dgl x 1) (dgl x 0) ∧ WB W p11 0 0 ∧ WB W W4.heap.size 0 0 ∧ (∀ i, W.frozen? ⟨W4.heap.size, i, none⟩ = false) ∧ p5 < W4.heap.size ∧ p8 < W4.heap.size ∧ p11 < W4.heap.size ∧ w.heap.size ≤ W4.heap.size) ⟨g1.below (below_allocs _ _), g2.below (below_allocs _ _), g3.below (below_allocs _ _), g4.below (below_allocs _ _), wb_new _ _, fun i => by simp [go_sem], g2.lt, g3.lt, g4.lt, g1.bel.size⟩ ?_
  clear g1 g2 g3 g4
  generalize W4.heap.size = p13 at *
  rintro W5 ⟨g1, g2, g3, g4, g5, g6, g7, g8, g9, g10⟩
  have HS := hide g1
  have H5 := hide g2
  have H8 := hide g3
  have H11 := hide g4
  have H13 := hide g5
  have HF := hide g6
  clear g1 g2 g3 g4 g5 g6
  go_wp2_with fail
  refine (HIS.out _).mono ?_
  rintro e w6 ⟨rfl, hw⟩
  subst w6
  have a0 := H5.out.h
  have a1 := H5.out.l
  have b0 := H8.out.h
  have b1 := H8.out.l
  have c0 := H11.out.h
  have c1 := H11.out.l
  have d0 := H13.out.h
  have d1 := H13.out.l
  clear H5 H8 H11 H13
  have hzz : (z == z) = true := beq_self_eq_true z
  have hbb : (b == b) = true := beq_self_eq_true b
  have hz0 := fun w => wz_zz w
  go_wp2_with fail
  refine (awake10_any _ HS.out.g).mono ?_
  rintro e w9 ⟨rfl, hb9⟩
  have HB := hide (below_trans HS.out.bel hb9)
  clear hb9 HS
  go_wp2
  go_ret
  exact ⟨rfl, HB.out⟩

set_option maxHeartbeats 4000000 in
theorem nanOf_Y (f z : Int) (b : Bool) (ao : Option Addr) (n ca x y : Nat) (w : World)
    (hn : ¬ (40 : Int) < (n : Int))
    (HO : Hid (∀ W, FmtG W → Below w.heap.size w W → Calls Tryd.prog 38 #[.int .i64 f, .slice ao n ca] W fun e w' => e = .returned (.tuple #[.agg #[.int .u64 (dgl (x) 1 : Nat), .int .u64 (dgl (x) 0 : Nat)], .int .i64 z, .bool b]) ∧ Below W.heap.size W w'))
    (HRO : Hid (∀ W, Below w.heap.size w W → Calls Tryd.prog 39 #[.int .i64 f, .slice ao n ca] W fun e w' => e = .returned (.tuple #[.agg #[.int .u64 (dgl (x) 1 : Nat), .int .u64 (dgl (x) 0 : Nat)], .int .i64 z, .bool b]) ∧ Below W.heap.size W w'))
    (HNO : Hid (∀ w, FmtG w → Calls Tryd.prog 40 #[.int .i64 f] w fun e w' => e = .returned (.tuple #[.agg #[.int .u64 (dgl (y) 1 : Nat), .int .u64 (dgl (y) 0 : Nat)], .int .i64 1]) ∧ Below w.heap.size w w'))
    (HIS : Hid (∀ w, Calls Tryd.prog 12 #[.int .i64 f] w fun e w' => e = .returned (.bool true) ∧ w' = w))
    (hx : ∀ w, (Op.equalIn 10000 28 (.agg #[.int .u64 (dgl (x) 1 : Nat), .int .u64 (dgl (x) 0 : Nat)]) (.agg #[.int .u64 (dgl (x) 1 : Nat), .int .u64 (dgl (x) 0 : Nat)])).run Tryd.prog w = .ok true w)
    (HNA : Hid (∀ w, Calls Tryd.prog 41 #[.int .i64 f] w fun e w' => e = .returned (.agg #[.int .u64 (dgl (y) 1 : Nat), .int .u64 (dgl (y) 0 : Nat)]) ∧ Below w.heap.size w w'))
    (hy : ∀ w, (Op.equalIn 10000 28 (.agg #[.int .u64 (dgl (y) 1 : Nat), .int .u64 (dgl (y) 0 : Nat)]) (.agg #[.int .u64 (dgl (y) 1 : Nat), .int .u64 (dgl (y) 0 : Nat)])).run Tryd.prog w = .ok true w) (hg : FmtG w) :
    Calls Tryd.prog 8 #[.int .i64 f, .slice ao n ca] w fun e w' => e = .returned (.bool true) ∧ Below w.heap.size w w' := by
  have HS := hide (show NfSt w w from ⟨hg, hg.lt, Below.refl _ _⟩)
  clear hg
  go_enter Tryd.func8, Tryd.ntmps8
  go_wp2_with fail
  refine (HO.out _ HS.out.g HS.out.bel).mono ?_
  rintro e w1 ⟨rfl, hb1⟩
  replace HS := hide (HS.out.below hb1)
  clear hb1
  go_upto_region 4 with fail
  refine wp_gen (fun W => NfSt w W ∧ WB W w1.heap.size (dgl x 1) (dgl x 0)) ⟨HS.out.below (below_allocs _ _), wb_new2 _ _ _ _⟩ ?_
  clear HS
  generalize w1.heap.size = p5 at *
  rintro W2 ⟨g1, g2⟩
  have HS := hide g1
  have H5 := hide g2
  clear g1 g2
  go_wp2_with fail
  refine (HRO.out _ HS.out.bel).mono ?_
  rintro e w2 ⟨rfl, hb2⟩
  replace HS := hide (HS.out.below hb2)
  replace H5 := hide (H5.out.below hb2)
  clear hb2
  go_upto_region 5 with fail
  refine wp_gen (fun W => NfSt w W ∧ WB W p5 (dgl x 1) (dgl x 0) ∧ WB W w2.heap.size (dgl x 1) (dgl x 0)) ⟨HS.out.below (below_allocs _ _), H5.out.below (below_allocs _ _), wb_new2 _ _ _ _⟩ ?_
  clear HS H5
  generalize w2.heap.size = p8 at *
  rintro W3 ⟨g1, g2, g3⟩
  have HS := hide g1
  have H5 := hide g2
  have H8 := hide g3
  clear g1 g2 g3
  go_wp2_with fail
  refine (HNO.out _ HS.out.g).mono ?_
  rintro e w3 ⟨rfl, hb3⟩
  replace HS := hide (HS.out.below hb3)
  replace H5 := hide (H5.out.below hb3)
  replace H8 := hide (H8.out.below hb3)
  clear hb3
  go_upto_region 6 with fail
  refine wp_gen (fun W => NfSt w W ∧ WB W p5 (dgl x 1) (dgl x 0) ∧ WB W p8 (dgl x 1) (dgl x 0) ∧ WB W w3.heap.size (dgl y 1) (dgl y 0)) ⟨HS.out.below (below_allocs _ _), H5.out.below (below_allocs _ _), H8.out.below (below_allocs _ _), wb_new2 _ _ _ _⟩ ?_
  clear HS H5 H8
  generalize w3.heap.size = p11 at *
  rintro W4 ⟨g1, g2, g3, g4⟩
  go_upto_region 7 with fail
  refine wp_gen (fun W => NfSt w W ∧ WB W p5 (dgl x 1) (dgl x 0) ∧ WB W p8 (dgl x 1) (dgl x 0) ∧ WB W p11 (dgl y 1) (dgl y 0) ∧ WB W W4.heap.size 0 0 ∧ (∀ i, W.frozen? ⟨W4.heap.size, i, none⟩ = false) ∧ p5 < W4.heap.size ∧ p8 < W4.heap.size ∧ p11 < W4.heap.size ∧ w.heap.size ≤ W4.heap.size) ⟨g1.below (below_allocs _ _), g2.below (below_allocs _ _), g3.below (below_allocs _ _), g4.below (below_allocs _ _), wb_new _ _, fun i => by simp [go_sem], g2.lt, g3.lt, g4.lt, g1.bel.size⟩ ?_
  clear g1 g2 g3 g4
  generalize W4.heap.size = p13 at *
  rintro W5 ⟨g1, g2, g3, g4, g5, g6, g7, g8, g9, g10⟩
  have HS := hide g1
  have H5 := hide g2
  have H8 := hide g3
  have H11 := hide g4
  have H13 := hide g5
  have HF := hide g6
  clear g1 g2 g3 g4 g5 g6
  go_wp2_with fail
  refine (HIS.out _).mono ?_
  rintro e w6 ⟨rfl, hw⟩
  subst w6
  go_wp2_with fail
  refine (HNA.out _).mono ?_
  rintro e w7 ⟨rfl, hb7⟩
  have k0 := (H13.out.below hb7).h
  have k1 := (H13.out.below hb7).l
  have k2 := (H13.out.below hb7).lt
  have k3 : ∀ i, w7.frozen? ⟨p13, i, none⟩ = false := fun i => (hb7.frozen (p := ⟨p13, i, none⟩) H13.out.lt).trans (HF.out i)
  have hb8 := ((Below.refl p13 w7).setCell (p := ⟨p13, 0, none⟩) (Nat.le_refl _) (.int .u64 (dgl y 1 : Nat))).setCell (p := ⟨p13, 1, none⟩) (Nat.le_refl _) (.int .u64 (dgl y 0 : Nat))
  have HSS := hide (show NfSt w _ ∧ WB _ p5 (dgl x 1) (dgl x 0) ∧ WB _ p8 (dgl x 1) (dgl x 0) ∧ WB _ p11 (dgl y 1) (dgl y 0) ∧ WB ((w7.setCell ⟨p13, 0, none⟩ (.int .u64 (dgl y 1 : Nat))).setCell ⟨p13, 1, none⟩ (.int .u64 (dgl y 0 : Nat))) p13 (dgl y 1) (dgl y 0) from
    ⟨⟨⟨fun i hi => (hb8.cell (p := ⟨1, i, none⟩) (show 1 < _ by have := HS.out.gl; omega)).trans ((HS.out.below hb7).g.c i hi), Nat.lt_of_lt_of_le (HS.out.below hb7).g.lt hb8.size⟩, HS.out.gl, (HS.out.below hb7).bel.trans (hb8.mono g10)⟩,
      (H5.out.below hb7).under hb8 g7, (H8.out.below hb7).under hb8 g8, (H11.out.below hb7).under hb8 g9, wb_set (H13.out.below hb7)⟩)
  clear HS H5 H8 H11 H13 HF hb7 hb8 g7 g8 g9 g10
  go_upto_region 9 with fail
  refine wp_gen (fun W => NfSt w W ∧ WB W p5 (dgl x 1) (dgl x 0) ∧ WB W p8 (dgl x 1) (dgl x 0) ∧ WB W p11 (dgl y 1) (dgl y 0) ∧ WB W p13 (dgl y 1) (dgl y 0)) HSS.out ?_
  clear HSS k0 k1 k2 k3
  rintro W7 ⟨g1, g2, g3, g4, g5⟩
  have HS := hide g1
  have H5 := hide g2
  have H8 := hide g3
  have H11 := hide g4
  have H13 := hide g5
  clear g1 g2 g3 g4 g5
  have a0 := H5.out.h
  have a1 := H5.out.l
  have b0 := H8.out.h
  have b1 := H8.out.l
  have c0 := H11.out.h
  have c1 := H11.out.l
  have d0 := H13.out.h
  have d1 := H13.out.l
  clear H5 H8 H11 H13
  have hzz : (z == z) = true := beq_self_eq_true z
  have hbb : (b == b) = true := beq_self_eq_true b
  go_wp2_with fail
  refine (awake10_any _ HS.out.g).mono ?_
  rintro e w9 ⟨rfl, hb9⟩
  have HB := hide (below_trans HS.out.bel hb9)
  clear hb9 HS
  go_wp2
  go_ret
  exact ⟨rfl, HB.out⟩

theorem nanOf_all (f : Int) (l : List Nat) (v : Value) (w : World) (hr : RdD w v l) (hl : ∀ i, dg l i < 2 ^ 128) (hg : FmtG w) :
    Calls Tryd.prog 8 #[.int .i64 f, v] w fun e w' => e = .returned (.bool true) ∧ Below w.heap.size w w' := by
  have hr0 := hr
  obtain ⟨ao, ca, rfl, -⟩ := hr0
  by_cases hn : (40 : Int) < (l.length : Int)
  · exact nanOf_B f 0 false ao l.length ca 0 0 w hn hg
  · have HO := fun W hg hb => nanof_any f l (.slice ao l.length ca) W (hr.below hb) hl hg
    have HR := fun W hb => rof_any f l (.slice ao l.length ca) W (hr.below hb) hl
    have hx : (ofR f l).1 < 2 ^ 128 := by
      rw [(ofR_nan f l).2]
      split
      · exact quU_lt (hl _)
      · decide
    have hxq := fun w => wordEq hx hx w
    rw [decide_eq_true rfl] at hxq
    have HN := fun w hg => none_u f w hg
    by_cases hf : 1 ≤ f ∧ f ≤ 4
    · rw [if_pos hf] at HN
      have hyq := fun w => wordEq (nanW_lt f) (nanW_lt f) w
      rw [decide_eq_true rfl] at hyq
      exact nanOf_Y f _ _ ao l.length ca _ (nanW f) w hn HO HR HN (fun w => isf_u f hf w) hxq (fun w => rnan_u f hf w) hyq hg
    · rw [if_neg hf, show nanW f = 0 from tU_none f (by omega) _ _ _ _ _, dgl_zero, dgl_zero] at HN
      exact nanOf_N f _ _ ao l.length ca _ 0 w hn HO HR HN (fun w => is_none f (by omega) w) hxq hg

end Go.Proofs.YtpcjdllijkjdkaaDoor

/- NanOf: for every format and any words the law returns true. Conditions: those of the tied card (the table of formats is laid as the program lays it). -/
namespace Go.Proofs.YtpcjdllijkjdkaaDoor.nanOf
open Go.ChangeShapes Go.WideShapes Go.ChangeAt Go.RowKit Go.Proofs.YtpcjdllijkjdkaaDoor

theorem own : ownKnob Tryd.prog.godebug = none := by kernel_rfl
theorem laidOut : laidOutB Tryd.prog = true := by kernel_rfl

theorem door_met (os : Os) (args : Array Value) : laidMetH Tryd.prog [("radicand/format.formats", Rows.laid_radicand_format_formats)] ((World.doorLaid Tryd.prog 400 os).forCall (fun _ _ => 0) ⟨#[], args, []⟩).memory :=
  laidMetH_of_parts3 (fuel := 8) (laidMet_of_run' 8 (by kernel_rfl) (by kernel_rfl)) (by kernel_rfl) (by kernel_rfl)

set_option maxRecDepth 100000 in
theorem lifted (os : Os) (started : os.Started) (H : Type) (enc : TypeId × Value → H) :
    ReturnsInHanded {} Tryd.checked os 8 .any (fun w args => (Rows.nanOfSpec.pre enc Tryd.prog Tryd.f8 [] false w args ∧ laidMetH Tryd.prog [("radicand/format.formats", Rows.laid_radicand_format_formats)] w) ∧ sizedMet enc Tryd.prog Tryd.f8 (OpenSpec.ofChange Rows.nanOfSpec) false w args) (Rows.nanOfSpec.post enc Tryd.prog Tryd.f8 false true false false) := by
  refine returnsInHanded_of_change_and (C := Tryd.checked) (X := fun w _ => laidMetH Tryd.prog [("radicand/format.formats", Rows.laid_radicand_format_formats)] w) (fun _ _ _ hh h => h.of_heap hh) own started (by kernel_rfl) Tryd.func8
    (ChangeSpec.witness_shaped (enc := enc) (C := Tryd.checked) (os := os) (X := fun w _ => laidMetH Tryd.prog [("radicand/format.formats", Rows.laid_radicand_format_formats)] w) false (World.doorLaid Tryd.prog 400 os) #[.int .i64 0, .slice none 0 0] 8 rfl (World.shaped_of_RefB (by kernel_rfl) (by kernel_rfl)) (by kernel_rfl) (by kernel_rfl) (by kernel_rfl) (door_met os _)) ?_
  intro W base args ds gs before hval0 hW _ _ hL _
  have hval : ∀ (j : Nat) t v, Tryd.f8.params[j]? = some t → args[j]? = some v → Value.okWide Tryd.prog W .any base t v := hval0
  have hW' := hW
  obtain ⟨p, q, hA0, hV, rfl, hfz, hnd⟩ := hW
  have hA : DataW.TrodAll enc Tryd.prog W 0 (fun _ => true) true Tryd.f8.params.toList args.toList ds p := hA0
  rw [Tryd.params8] at hA hval
  obtain ⟨v0, vs0, d0, ds0, p0, q0, hargs, rfl, rfl, h0, r0⟩ := trodAll_cons hA
  obtain ⟨v1, vs1, d1, ds1, p1, q1, rfl, rfl, rfl, h1, r1⟩ := trodAll_cons r0
  obtain ⟨rfl, rfl, rfl⟩ := trodAll_nil r1
  obtain rfl : args = #[v0, v1] := by cases args; simp_all
  obtain ⟨rfl, rfl⟩ := trodVars_none hV
  have k0 := h0
  have lt0 : ∀ x ∈ p0, x.block < W.heap.size := by obtain ⟨m, hm⟩ := k0; exact DataW.trod_lt m _ _ _ hm
  have k1 := h1
  have lt1 : ∀ x ∈ p1, x.block < W.heap.size := by obtain ⟨m, hm⟩ := k1; exact DataW.trod_lt m _ _ _ hm
  obtain ⟨a0, rfl, rfl, rfl, wf0⟩ := open_int Tryd.underlying3 (hval 0 3 v0 rfl rfl) h0
  obtain ⟨l1, rd1, dig1⟩ := words_of_trod (hval 1 70 v1 rfl rfl) h1
  clear hA0 hval0
  have hg := of_laid1 hL
  refine (nanOf_all a0 l1 _ W rd1 dig1 hg).mono fun e W' ⟨he, bel⟩ => ?_
  subst he
  exact ⟨_, rfl, _, _, _, [], _, [], hW', trodAll_mk1 (shut_bool Tryd.underlying4 _), (trodAll_cons_mk (Below.trod laidOut (by kernel_rfl) (of_decide_eq_true (by kernel_rfl)) k0 bel lt0) (trodAll_cons_mk (Below.trod laidOut (by kernel_rfl) (of_decide_eq_true (by kernel_rfl)) k1 bel lt1) trodAll_mk0)), rfl, bel.frame _, fun h => by cases h⟩

theorem over : Rows.nanOfRow.holds Tryd.pinned (OpenSpec.ofChange Rows.nanOfSpec) :=
  OpenClaim.holds_of_wide 8 Tryd.f8 rfl rfl rfl rfl rfl rfl rfl ⟨rfl, rfl, rfl, rfl, rfl⟩ rfl rfl rfl rfl rfl (by kernel_rfl) Tryd.func8 (by kernel_rfl)
    (of_decide_eq_true (by kernel_rfl)) (by unfold Func.isWrapper; first | (rw [if_pos (by decide +kernel)]; kernel_rfl) | (rw [if_neg (by decide +kernel)]; exact ⟨rfl, rfl⟩))
    (fun os started H enc _ => lifted os started H enc)

theorem proved : Rows.NanOfCardSaid :=
  Claim7.holds_tied_plain_at .later [] [.data] true (true, "bda7307485677e703060dea11d85374f6d1941a46d5c51f47956e134a69fc123") false
    over (fun _ h => by cases h) (by kernel_rfl) (fun _ h => by cases h) nanOf_row_tie rfl ⟨rfl, rfl⟩ (by kernel_rfl) rfl
    (fun f fn hf hfn => by
      obtain rfl : f = 8 := Option.some.inj ((show Tryd.prog.funcNamed "radicand/radicandlaw10.NanOf" = some 8 by kernel_rfl).symm.trans hf) |>.symm
      obtain rfl : fn = Tryd.f8 := (Option.some.inj (Tryd.func8.symm.trans hfn)).symm
      exact ⟨by kernel_rfl, fun j t ht => by
        rw [Tryd.params8] at ht
        rcases j with _ | j
        · obtain rfl : t = 3 := by simpa using ht.symm
          exact (show Tryd.prog.wantsStandIn 3 = false by kernel_rfl)
        rcases j with _ | j
        · obtain rfl : t = 70 := by simpa using ht.symm
          exact (show Tryd.prog.wantsStandIn 70 = false by kernel_rfl)
        simp at ht⟩)
    (by kernel_rfl)
#print axioms proved
end Go.Proofs.YtpcjdllijkjdkaaDoor.nanOf

