/- Contracts and laws: ModD, ModE, ModF, ModG. -/
import Derived.Test.YtidfegilddlglabDoorXModA
import Derived.Test.YtidfegilddlglabDoorBaseM
import Derived.Test.YtidfegilddlglabDoorBaseQ
import Derived.Deep.DeepCutAuto
import Derived.Test.YtidfegilddlglabDoorBaseH
/- Contracts: mode.Cut; the document's Cut. -/
set_option linter.unusedVariables false
set_option linter.unusedSimpArgs false
set_option maxRecDepth 8000
namespace Go.Proofs.YtidfegilddlglabDoor
open Go.RowKit Plain

/-- Where Cut begins: the number, and the result. -/
structure CtSt (a : Nat) (w W : World) : Prop where
  la : LiesF W w.heap.size (dgl a)
  lr : LiesF W (w.heap.size + 1) (fun _ => 0)
  fr : ∀ i, W.frozen? ⟨w.heap.size + 1, i, none⟩ = false
  bel : Below w.heap.size w W
theorem CtSt.under {a : Nat} {w W W' : World} (h : CtSt a w W) {C : Nat} (hb : Below C W W') (hc : w.heap.size + 1 < C) : CtSt a w W' :=
  ⟨lies_box h.la hb (by omega), lies_box h.lr hb (by omega), fun i => (hb.frozen (p := ⟨w.heap.size + 1, i, none⟩) hc).trans (h.fr i), h.bel.trans (hb.mono (by omega))⟩
theorem CtSt.below {a : Nat} {w W W' : World} (h : CtSt a w W) (hb : Below W.heap.size W W') : CtSt a w W' := h.under hb h.lr.2
theorem ctSt_start (a : Nat) (w : World) : CtSt a w ((w.alloc (.cells #[.int .u64 (dgl (a) 0 : Nat), .int .u64 (dgl (a) 1 : Nat), .int .u64 (dgl (a) 2 : Nat), .int .u64 (dgl (a) 3 : Nat), .int .u64 (dgl (a) 4 : Nat), .int .u64 (dgl (a) 5 : Nat), .int .u64 (dgl (a) 6 : Nat), .int .u64 (dgl (a) 7 : Nat)] 34)).alloc (.cells #[.int .u64 0, .int .u64 0, .int .u64 0, .int .u64 0, .int .u64 0, .int .u64 0, .int .u64 0, .int .u64 0] 34)) := by
  have hl := (liesF_new w (dgl a) 34).alloc (.cells #[.int .u64 0, .int .u64 0, .int .u64 0, .int .u64 0, .int .u64 0, .int .u64 0, .int .u64 0, .int .u64 0] 34)
  have hr := liesF_new (w.alloc (.cells #[.int .u64 (dgl (a) 0 : Nat), .int .u64 (dgl (a) 1 : Nat), .int .u64 (dgl (a) 2 : Nat), .int .u64 (dgl (a) 3 : Nat), .int .u64 (dgl (a) 4 : Nat), .int .u64 (dgl (a) 5 : Nat), .int .u64 (dgl (a) 6 : Nat), .int .u64 (dgl (a) 7 : Nat)] 34)) (fun _ => 0) 34
  rw [World.size_alloc] at hr
  exact ⟨hl, hr, fun i => by simp [go_sem], below_trans (below_allocs _ _) (below_allocs _ _)⟩

set_option maxHeartbeats 1000000 in
theorem modeCut_no (a : Nat) (n m : Int) (more neg : Bool) (h : isM m = false) (w : World) : Calls Tryd.prog 10 #[.agg #[.int .u64 (dgl (a) 0 : Nat), .int .u64 (dgl (a) 1 : Nat), .int .u64 (dgl (a) 2 : Nat), .int .u64 (dgl (a) 3 : Nat), .int .u64 (dgl (a) 4 : Nat), .int .u64 (dgl (a) 5 : Nat), .int .u64 (dgl (a) 6 : Nat), .int .u64 (dgl (a) 7 : Nat)], .int .i64 n, .bool more, .int .i64 m, .bool neg] w fun e w' => e = .returned (.tuple #[.agg #[.int .u64 0, .int .u64 0, .int .u64 0, .int .u64 0, .int .u64 0, .int .u64 0, .int .u64 0, .int .u64 0], .bool false]) ∧ Below w.heap.size w w' := by
  have HM := hide (fun w => modeIs_any m w)
  rw [h] at HM
  have HST := hide (ctSt_start a w)
  clear h
  go_enter Tryd.func10, Tryd.ntmps10
  go_wp2_with fail
  refine (HM.out _).mono ?_
  rintro e w1 ⟨rfl, hw⟩
  subst w1
  go_upto_region 2 with fail
  refine wp_gen (fun W => CtSt a w W) HST.out ?_
  clear HST
  rintro W1 h1
  have hr := h1.lr.1
  have hrf := h1.fr
  have hl := h1.lr.2
  have HB := hide h1.bel
  clear h1
  go_wp2
  exact bodyPost_ret (v := .tuple #[.agg #[.int .u64 0, .int .u64 0, .int .u64 0, .int .u64 0, .int .u64 0, .int .u64 0, .int .u64 0, .int .u64 0], .bool false]) (by simp [results, Tryd.results10, go_sem, hr, hl]) rfl ⟨rfl, below_set8 HB.out _ (by omega) _ _ _ _ _ _ _ _⟩

set_option maxHeartbeats 1000000 in
theorem modeCut_keep (a q : Nat) (n m r : Int) (more neg lost od is : Bool)
    (HIS : Hid (((r : Int) != 0) = is))
    (HM : Hid (∀ w, Calls Tryd.prog 6 #[.int .i64 m] w fun e w' => e = .returned (.bool true) ∧ w' = w))
    (HS : Hid (∀ w, Calls Tryd.prog 11 #[.agg #[.int .u64 (dgl (a) 0 : Nat), .int .u64 (dgl (a) 1 : Nat), .int .u64 (dgl (a) 2 : Nat), .int .u64 (dgl (a) 3 : Nat), .int .u64 (dgl (a) 4 : Nat), .int .u64 (dgl (a) 5 : Nat), .int .u64 (dgl (a) 6 : Nat), .int .u64 (dgl (a) 7 : Nat)], .int .i64 n] w fun e w' => e = .returned (.tuple #[.agg #[.int .u64 (dgl (q) 0 : Nat), .int .u64 (dgl (q) 1 : Nat), .int .u64 (dgl (q) 2 : Nat), .int .u64 (dgl (q) 3 : Nat), .int .u64 (dgl (q) 4 : Nat), .int .u64 (dgl (q) 5 : Nat), .int .u64 (dgl (q) 6 : Nat), .int .u64 (dgl (q) 7 : Nat)], .bool lost]) ∧ Below w.heap.size w w'))
    (HR : Hid (∀ w, Calls Tryd.prog 12 #[.agg #[.int .u64 (dgl (a) 0 : Nat), .int .u64 (dgl (a) 1 : Nat), .int .u64 (dgl (a) 2 : Nat), .int .u64 (dgl (a) 3 : Nat), .int .u64 (dgl (a) 4 : Nat), .int .u64 (dgl (a) 5 : Nat), .int .u64 (dgl (a) 6 : Nat), .int .u64 (dgl (a) 7 : Nat)], .int .i64 n, .bool more] w fun e w' => e = .returned (.int .i64 r) ∧ Below w.heap.size w w'))
    (HBT : Hid (∀ w, Calls Tryd.prog 14 #[.agg #[.int .u64 (dgl (q) 0 : Nat), .int .u64 (dgl (q) 1 : Nat), .int .u64 (dgl (q) 2 : Nat), .int .u64 (dgl (q) 3 : Nat), .int .u64 (dgl (q) 4 : Nat), .int .u64 (dgl (q) 5 : Nat), .int .u64 (dgl (q) 6 : Nat), .int .u64 (dgl (q) 7 : Nat)], .int .i64 0] w fun e w' => e = .returned (.bool od) ∧ Below w.heap.size w w'))
    (HG : Hid (∀ w, Calls Tryd.prog 13 #[.int .i64 m, .bool neg, .bool od, .int .i64 r] w fun e w' => e = .returned (.bool false) ∧ Below w.heap.size w w')) (w : World) : Calls Tryd.prog 10 #[.agg #[.int .u64 (dgl (a) 0 : Nat), .int .u64 (dgl (a) 1 : Nat), .int .u64 (dgl (a) 2 : Nat), .int .u64 (dgl (a) 3 : Nat), .int .u64 (dgl (a) 4 : Nat), .int .u64 (dgl (a) 5 : Nat), .int .u64 (dgl (a) 6 : Nat), .int .u64 (dgl (a) 7 : Nat)], .int .i64 n, .bool more, .int .i64 m, .bool neg] w fun e w' => e = .returned (.tuple #[.agg #[.int .u64 (dgl (q) 0 : Nat), .int .u64 (dgl (q) 1 : Nat), .int .u64 (dgl (q) 2 : Nat), .int .u64 (dgl (q) 3 : Nat), .int .u64 (dgl (q) 4 : Nat), .int .u64 (dgl (q) 5 : Nat), .int .u64 (dgl (q) 6 : Nat), .int .u64 (dgl (q) 7 : Nat)], .bool is]) ∧ Below w.heap.size w w' := by
  have HST := hide (ctSt_start a w)
  go_enter Tryd.func10, Tryd.ntmps10
  go_wp2_with fail
  refine (HM.out _).mono ?_
  rintro e w1 ⟨rfl, hw⟩
  subst w1
  go_upto_region 3 with fail
  refine wp_gen (fun W => CtSt a w W) HST.out ?_
  clear HST
  rintro W1 h1
  have hc := h1.la.1
  have HST := hide h1
  clear h1
  go_wp2_with fail
  refine (HS.out _).mono ?_
  rintro e w2 ⟨rfl, hb2⟩
  replace HST := hide (HST.out.below hb2)
  clear hb2 hc
  go_upto_region 4 with fail
  refine wp_gen (fun W => ∃ p, CtSt a w W ∧ LiesF W p (dgl q) ∧ (∀ i, W.frozen? ⟨p, i, none⟩ = false) ∧ w.heap.size + 1 < p ∧ p = w2.heap.size) ⟨_, HST.out.below (below_allocs _ _), liesF_new _ _ _, fun i => by simp [go_sem], HST.out.lr.2, rfl⟩ ?_
  clear HST
  rintro W2 ⟨p, h1, h2, h3, h4, h5⟩
  rw [← h5]
  have HST := hide h1
  have HQ := hide h2
  have HZ := hide h3
  have HP := hide h4
  have hc := HST.out.la.1
  clear h1 h2 h3 h4 h5
  go_wp2_with fail
  refine (HR.out _).mono ?_
  rintro e w3 ⟨rfl, hb3⟩
  replace HZ := hide (show ∀ i, w3.frozen? ⟨p, i, none⟩ = false from fun i => (hb3.frozen (p := ⟨p, i, none⟩) HQ.out.2).trans (HZ.out i))
  replace HST := hide (HST.out.below hb3)
  replace HQ := hide (HQ.out.below hb3)
  clear hb3 hc
  have hc := HQ.out.1
  go_wp2_with fail
  refine (HBT.out _).mono ?_
  rintro e w4 ⟨rfl, hb4⟩
  replace HZ := hide (show ∀ i, w4.frozen? ⟨p, i, none⟩ = false from fun i => (hb4.frozen (p := ⟨p, i, none⟩) HQ.out.2).trans (HZ.out i))
  replace HST := hide (HST.out.below hb4)
  replace HQ := hide (HQ.out.below hb4)
  clear hb4 hc
  go_wp2_with fail
  refine (HG.out _).mono ?_
  rintro e w5 ⟨rfl, hb5⟩
  replace HZ := hide (show ∀ i, w5.frozen? ⟨p, i, none⟩ = false from fun i => (hb5.frozen (p := ⟨p, i, none⟩) HQ.out.2).trans (HZ.out i))
  replace HST := hide (HST.out.below hb5)
  replace HQ := hide (HQ.out.below hb5)
  clear hb5
  have his := HIS.out
  have hc := HQ.out.1
  have hr := HST.out.lr.1
  have hrf := HST.out.fr
  have hl := HST.out.lr.2
  have HB := hide HST.out.bel
  clear HST HQ
  go_wp2
  exact bodyPost_ret (v := .tuple #[.agg #[.int .u64 (dgl (q) 0 : Nat), .int .u64 (dgl (q) 1 : Nat), .int .u64 (dgl (q) 2 : Nat), .int .u64 (dgl (q) 3 : Nat), .int .u64 (dgl (q) 4 : Nat), .int .u64 (dgl (q) 5 : Nat), .int .u64 (dgl (q) 6 : Nat), .int .u64 (dgl (q) 7 : Nat)], .bool is]) (by simp [results, Tryd.results10, go_sem, hr, hl]) rfl ⟨rfl, below_set8 HB.out _ (by omega) _ _ _ _ _ _ _ _⟩

set_option maxHeartbeats 1000000 in
theorem modeCut_grow (a q s : Nat) (n m r : Int) (more neg lost od is ov : Bool)
    (HIS : Hid (((r : Int) != 0) = is))
    (HM : Hid (∀ w, Calls Tryd.prog 6 #[.int .i64 m] w fun e w' => e = .returned (.bool true) ∧ w' = w))
    (HS : Hid (∀ w, Calls Tryd.prog 11 #[.agg #[.int .u64 (dgl (a) 0 : Nat), .int .u64 (dgl (a) 1 : Nat), .int .u64 (dgl (a) 2 : Nat), .int .u64 (dgl (a) 3 : Nat), .int .u64 (dgl (a) 4 : Nat), .int .u64 (dgl (a) 5 : Nat), .int .u64 (dgl (a) 6 : Nat), .int .u64 (dgl (a) 7 : Nat)], .int .i64 n] w fun e w' => e = .returned (.tuple #[.agg #[.int .u64 (dgl (q) 0 : Nat), .int .u64 (dgl (q) 1 : Nat), .int .u64 (dgl (q) 2 : Nat), .int .u64 (dgl (q) 3 : Nat), .int .u64 (dgl (q) 4 : Nat), .int .u64 (dgl (q) 5 : Nat), .int .u64 (dgl (q) 6 : Nat), .int .u64 (dgl (q) 7 : Nat)], .bool lost]) ∧ Below w.heap.size w w'))
    (HR : Hid (∀ w, Calls Tryd.prog 12 #[.agg #[.int .u64 (dgl (a) 0 : Nat), .int .u64 (dgl (a) 1 : Nat), .int .u64 (dgl (a) 2 : Nat), .int .u64 (dgl (a) 3 : Nat), .int .u64 (dgl (a) 4 : Nat), .int .u64 (dgl (a) 5 : Nat), .int .u64 (dgl (a) 6 : Nat), .int .u64 (dgl (a) 7 : Nat)], .int .i64 n, .bool more] w fun e w' => e = .returned (.int .i64 r) ∧ Below w.heap.size w w'))
    (HBT : Hid (∀ w, Calls Tryd.prog 14 #[.agg #[.int .u64 (dgl (q) 0 : Nat), .int .u64 (dgl (q) 1 : Nat), .int .u64 (dgl (q) 2 : Nat), .int .u64 (dgl (q) 3 : Nat), .int .u64 (dgl (q) 4 : Nat), .int .u64 (dgl (q) 5 : Nat), .int .u64 (dgl (q) 6 : Nat), .int .u64 (dgl (q) 7 : Nat)], .int .i64 0] w fun e w' => e = .returned (.bool od) ∧ Below w.heap.size w w'))
    (HG : Hid (∀ w, Calls Tryd.prog 13 #[.int .i64 m, .bool neg, .bool od, .int .i64 r] w fun e w' => e = .returned (.bool true) ∧ Below w.heap.size w w'))
    (HD1 : Hid (∀ i, i < 8 → dg [1] i = dgl 1 i))
    (HAD : Hid (∀ w, Calls Tryd.prog 15 #[.agg #[.int .u64 (dgl (q) 0 : Nat), .int .u64 (dgl (q) 1 : Nat), .int .u64 (dgl (q) 2 : Nat), .int .u64 (dgl (q) 3 : Nat), .int .u64 (dgl (q) 4 : Nat), .int .u64 (dgl (q) 5 : Nat), .int .u64 (dgl (q) 6 : Nat), .int .u64 (dgl (q) 7 : Nat)], .agg #[.int .u64 (dgl (1) 0 : Nat), .int .u64 (dgl (1) 1 : Nat), .int .u64 (dgl (1) 2 : Nat), .int .u64 (dgl (1) 3 : Nat), .int .u64 (dgl (1) 4 : Nat), .int .u64 (dgl (1) 5 : Nat), .int .u64 (dgl (1) 6 : Nat), .int .u64 (dgl (1) 7 : Nat)]] w fun e w' => e = .returned (.tuple #[.agg #[.int .u64 (dgl (s) 0 : Nat), .int .u64 (dgl (s) 1 : Nat), .int .u64 (dgl (s) 2 : Nat), .int .u64 (dgl (s) 3 : Nat), .int .u64 (dgl (s) 4 : Nat), .int .u64 (dgl (s) 5 : Nat), .int .u64 (dgl (s) 6 : Nat), .int .u64 (dgl (s) 7 : Nat)], .bool ov]) ∧ Below w.heap.size w w')) (w : World) : Calls Tryd.prog 10 #[.agg #[.int .u64 (dgl (a) 0 : Nat), .int .u64 (dgl (a) 1 : Nat), .int .u64 (dgl (a) 2 : Nat), .int .u64 (dgl (a) 3 : Nat), .int .u64 (dgl (a) 4 : Nat), .int .u64 (dgl (a) 5 : Nat), .int .u64 (dgl (a) 6 : Nat), .int .u64 (dgl (a) 7 : Nat)], .int .i64 n, .bool more, .int .i64 m, .bool neg] w fun e w' => e = .returned (.tuple #[.agg #[.int .u64 (dgl (s) 0 : Nat), .int .u64 (dgl (s) 1 : Nat), .int .u64 (dgl (s) 2 : Nat), .int .u64 (dgl (s) 3 : Nat), .int .u64 (dgl (s) 4 : Nat), .int .u64 (dgl (s) 5 : Nat), .int .u64 (dgl (s) 6 : Nat), .int .u64 (dgl (s) 7 : Nat)], .bool is]) ∧ Below w.heap.size w w' := by
  have HST := hide (ctSt_start a w)
  go_enter Tryd.func10, Tryd.ntmps10
  go_wp2_with fail
  refine (HM.out _).mono ?_
  rintro e w1 ⟨rfl, hw⟩
  subst w1
  go_upto_region 3 with fail
  refine wp_gen (fun W => CtSt a w W) HST.out ?_
  clear HST
  rintro W1 h1
  have hc := h1.la.1
  have HST := hide h1
  clear h1
  go_wp2_with fail
  refine (HS.out _).mono ?_
  rintro e w2 ⟨rfl, hb2⟩
  replace HST := hide (HST.out.below hb2)
  clear hb2 hc
  go_upto_region 4 with fail
  refine wp_gen (fun W => ∃ p, CtSt a w W ∧ LiesF W p (dgl q) ∧ (∀ i, W.frozen? ⟨p, i, none⟩ = false) ∧ w.heap.size + 1 < p ∧ p = w2.heap.size) ⟨_, HST.out.below (below_allocs _ _), liesF_new _ _ _, fun i => by simp [go_sem], HST.out.lr.2, rfl⟩ ?_
  clear HST
  rintro W2 ⟨p, h1, h2, h3, h4, h5⟩
  rw [← h5]
  have HST := hide h1
  have HQ := hide h2
  have HZ := hide h3
  have HP := hide h4
  have hc := HST.out.la.1
  clear h1 h2 h3 h4 h5
  go_wp2_with fail
  refine (HR.out _).mono ?_
  rintro e w3 ⟨rfl, hb3⟩
  replace HZ := hide (show ∀ i, w3.frozen? ⟨p, i, none⟩ = false from fun i => (hb3.frozen (p := ⟨p, i, none⟩) HQ.out.2).trans (HZ.out i))
  replace HST := hide (HST.out.below hb3)
  replace HQ := hide (HQ.out.below hb3)
  clear hb3 hc
  have hc := HQ.out.1
  go_wp2_with fail
  refine (HBT.out _).mono ?_
  rintro e w4 ⟨rfl, hb4⟩
  replace HZ := hide (show ∀ i, w4.frozen? ⟨p, i, none⟩ = false from fun i => (hb4.frozen (p := ⟨p, i, none⟩) HQ.out.2).trans (HZ.out i))
  replace HST := hide (HST.out.below hb4)
  replace HQ := hide (HQ.out.below hb4)
  clear hb4 hc
  go_wp2_with fail
  refine (HG.out _).mono ?_
  rintro e w5 ⟨rfl, hb5⟩
  replace HZ := hide (show ∀ i, w5.frozen? ⟨p, i, none⟩ = false from fun i => (hb5.frozen (p := ⟨p, i, none⟩) HQ.out.2).trans (HZ.out i))
  replace HST := hide (HST.out.below hb5)
  replace HQ := hide (HQ.out.below hb5)
  clear hb5
  go_upto_region 6 with fail
  refine wp_gen (fun W => CtSt a w W ∧ LiesF W p (dgl q) ∧ ∀ i, W.frozen? ⟨p, i, none⟩ = false) ⟨HST.out, HQ.out, HZ.out⟩ ?_
  clear HST HQ HZ
  rintro W6 ⟨h1, h2, h3⟩
  refine wp_region_storeK 8 [7] [36, 37, 38, 39, 35, 40, 41] (fun bs => [(36, .val (.agg #[.int .u64 (dgl (q) 0 : Nat), .int .u64 (dgl (q) 1 : Nat), .int .u64 (dgl (q) 2 : Nat), .int .u64 (dgl (q) 3 : Nat), .int .u64 (dgl (q) 4 : Nat), .int .u64 (dgl (q) 5 : Nat), .int .u64 (dgl (q) 6 : Nat), .int .u64 (dgl (q) 7 : Nat)])), (37, bif bs.headD false then SlotIs.any  else SlotIs.rd [1]), (38, .val (.agg #[.int .u64 (dgl (1) 0 : Nat), .int .u64 (dgl (1) 1 : Nat), .int .u64 (dgl (1) 2 : Nat), .int .u64 (dgl (1) 3 : Nat), .int .u64 (dgl (1) 4 : Nat), .int .u64 (dgl (1) 5 : Nat), .int .u64 (dgl (1) 6 : Nat), .int .u64 (dgl (1) 7 : Nat)])), (39, .val (.tuple #[.agg #[.int .u64 (dgl (s) 0 : Nat), .int .u64 (dgl (s) 1 : Nat), .int .u64 (dgl (s) 2 : Nat), .int .u64 (dgl (s) 3 : Nat), .int .u64 (dgl (s) 4 : Nat), .int .u64 (dgl (s) 5 : Nat), .int .u64 (dgl (s) 6 : Nat), .int .u64 (dgl (s) 7 : Nat)], .bool ov])), (35, .val (.tuple #[.agg #[.int .u64 (dgl (s) 0 : Nat), .int .u64 (dgl (s) 1 : Nat), .int .u64 (dgl (s) 2 : Nat), .int .u64 (dgl (s) 3 : Nat), .int .u64 (dgl (s) 4 : Nat), .int .u64 (dgl (s) 5 : Nat), .int .u64 (dgl (s) 6 : Nat), .int .u64 (dgl (s) 7 : Nat)], .bool ov])), (40, .val (.agg #[.int .u64 (dgl (s) 0 : Nat), .int .u64 (dgl (s) 1 : Nat), .int .u64 (dgl (s) 2 : Nat), .int .u64 (dgl (s) 3 : Nat), .int .u64 (dgl (s) 4 : Nat), .int .u64 (dgl (s) 5 : Nat), .int .u64 (dgl (s) 6 : Nat), .int .u64 (dgl (s) 7 : Nat)])), (41, .val (.bool ov))])
    (fun bs W => CtSt a w W ∧ (∀ c, bs.headD false = c → LiesF W p (dgl (bif c then s else q))) ∧ ∀ i, W.frozen? ⟨p, i, none⟩ = false) (fun bs => rfl) mixedOk (by kernel_rfl) (by kernel_rfl) (by kernel_rfl) (⟨h1.below (Below.refl _ _).drew, fun c hc => by subst hc; exact h2.below (Below.refl _ _).drew, fun i => (Below.refl _ _).drew.frozen (p := ⟨p, i, none⟩) h2.2 |>.trans (h3 i)⟩) (fun bs W W' h hb => ⟨h.1.below hb, fun c hq => (h.2.1 c hq).below hb, fun i => (hb.frozen (p := ⟨p, i, none⟩) (h.2.1 _ rfl).2).trans (h.2.2 i)⟩) ?_ ?_
  · refine kSt rfl (fun φ hφ => gStep_run rfl ?_) ?_
    · intro ρ W hC hc hf hL
      have e12 : ρ (.tmp 12) = .pointer (some ⟨p, 0, none⟩) := hL 12 (by decide +kernel)
      have hφ0 : φ 7 = false := hφ 7 (by simp) (by kernel_rfl)
      have hD : LiesF W p (dgl q) := hC.2.1 false hφ0
      have hl := hD.1
      simp [go_sem, hc, hf, e12, hl]
      exact ⟨Below.refl _ _, rfl⟩
    refine kSt rfl (fun φ hφ => gStep_run rfl ?_) ?_
    · intro ρ W hC hc hf hL
      have hφ0 : φ 7 = false := hφ 7 (by simp) (by kernel_rfl)
      simp [go_sem, hc, hf]
      refine ⟨below_allocs _ _, ?_⟩
      show (bif φ 7 then SlotIs.any else SlotIs.rd [1]).R _ _
      rw [hφ0]
      exact Rd.lit (mk := mk64) W 32 [.int .u64 1] [1] rfl 1 (Nat.le_refl 1) (by decide)
    refine kSt rfl (fun φ hφ => gStep_run rfl ?_) ?_
    · intro ρ W hC hc hf hL
      have hφ0 : φ 7 = false := hφ 7 (by simp) (by kernel_rfl)
      have b37 : (bif φ 7 then SlotIs.any  else SlotIs.rd [1]).R (ρ (.tmp 37)) W := hL 37 (by decide +kernel)
      rw [hφ0] at b37
      simp [go_sem, hc, hf]
      refine (wideOf_any [1] 1 _ _ b37 HD1.out).mono ?_
      rintro e w' ⟨rfl, hb⟩
      exact ⟨_, rfl, by first | exact hb | (subst hb; exact Below.refl _ _), rfl⟩
    refine kSt rfl (fun φ hφ => gStep_run rfl ?_) ?_
    · intro ρ W hC hc hf hL
      have e36 : ρ (.tmp 36) = .agg #[.int .u64 (dgl (q) 0 : Nat), .int .u64 (dgl (q) 1 : Nat), .int .u64 (dgl (q) 2 : Nat), .int .u64 (dgl (q) 3 : Nat), .int .u64 (dgl (q) 4 : Nat), .int .u64 (dgl (q) 5 : Nat), .int .u64 (dgl (q) 6 : Nat), .int .u64 (dgl (q) 7 : Nat)] := hL 36 (by decide +kernel)
      have e38 : ρ (.tmp 38) = .agg #[.int .u64 (dgl (1) 0 : Nat), .int .u64 (dgl (1) 1 : Nat), .int .u64 (dgl (1) 2 : Nat), .int .u64 (dgl (1) 3 : Nat), .int .u64 (dgl (1) 4 : Nat), .int .u64 (dgl (1) 5 : Nat), .int .u64 (dgl (1) 6 : Nat), .int .u64 (dgl (1) 7 : Nat)] := hL 38 (by decide +kernel)
      simp [go_sem, hc, hf, e36, e38]
      refine (HAD.out _).mono ?_
      rintro e w' ⟨rfl, hb⟩
      exact ⟨_, rfl, by first | exact hb | (subst hb; exact Below.refl _ _), rfl⟩
    refine kSt rfl (fun φ hφ => gStep_run rfl (gRun_move 39 35 (.inl rfl) rfl (by decide +kernel) (fun v w h => h))) ?_
    refine kSt rfl (fun φ hφ => gStep_run rfl ?_) ?_
    · intro ρ W hC hc hf hL
      have e35 : ρ (.tmp 35) = .tuple #[.agg #[.int .u64 (dgl (s) 0 : Nat), .int .u64 (dgl (s) 1 : Nat), .int .u64 (dgl (s) 2 : Nat), .int .u64 (dgl (s) 3 : Nat), .int .u64 (dgl (s) 4 : Nat), .int .u64 (dgl (s) 5 : Nat), .int .u64 (dgl (s) 6 : Nat), .int .u64 (dgl (s) 7 : Nat)], .bool ov] := hL 35 (by decide +kernel)
      simp [go_sem, hc, hf, e35]
      exact ⟨Below.refl _ _, rfl⟩
    refine kSt rfl (fun φ hφ => gStep_run rfl ?_) ?_
    · intro ρ W hC hc hf hL
      have e35 : ρ (.tmp 35) = .tuple #[.agg #[.int .u64 (dgl (s) 0 : Nat), .int .u64 (dgl (s) 1 : Nat), .int .u64 (dgl (s) 2 : Nat), .int .u64 (dgl (s) 3 : Nat), .int .u64 (dgl (s) 4 : Nat), .int .u64 (dgl (s) 5 : Nat), .int .u64 (dgl (s) 6 : Nat), .int .u64 (dgl (s) 7 : Nat)], .bool ov] := hL 35 (by decide +kernel)
      simp [go_sem, hc, hf, e35]
      exact ⟨Below.refl _ _, rfl⟩
    refine kStS rfl ⟨rfl, rfl, ?_⟩ ?_
    · intro φ ρ W hφ hC hc hL
      have e12 : ρ (.tmp 12) = .pointer (some ⟨p, 0, none⟩) := hL 12 (by decide +kernel)
      have e40 : ρ (.tmp 40) = .agg #[.int .u64 (dgl (s) 0 : Nat), .int .u64 (dgl (s) 1 : Nat), .int .u64 (dgl (s) 2 : Nat), .int .u64 (dgl (s) 3 : Nat), .int .u64 (dgl (s) 4 : Nat), .int .u64 (dgl (s) 5 : Nat), .int .u64 (dgl (s) 6 : Nat), .int .u64 (dgl (s) 7 : Nat)] := hL 40 (by decide +kernel)
      have hD : LiesF W p (dgl q) := hC.2.1 false hφ
      have hr := hD.1
      have hrl := hD.2
      have hrf := hC.2.2
      refine gUpon_of ((((((((W.setCell ⟨p, 0, none⟩ (.int .u64 (dgl s 0 : Nat))).setCell ⟨p, 1, none⟩ (.int .u64 (dgl s 1 : Nat))).setCell ⟨p, 2, none⟩ (.int .u64 (dgl s 2 : Nat))).setCell ⟨p, 3, none⟩ (.int .u64 (dgl s 3 : Nat))).setCell ⟨p, 4, none⟩ (.int .u64 (dgl s 4 : Nat))).setCell ⟨p, 5, none⟩ (.int .u64 (dgl s 5 : Nat))).setCell ⟨p, 6, none⟩ (.int .u64 (dgl s 6 : Nat))).setCell ⟨p, 7, none⟩ (.int .u64 (dgl s 7 : Nat))) ?_ (fun _ => ?_)
      · simp [go_sem, hc, e12, e40, hr, hrl, hrf, gUpon]
      have hs8 := below_set8 (Below.refl p W) p (Nat.le_refl _) (.int .u64 (dgl s 0 : Nat)) (.int .u64 (dgl s 1 : Nat)) (.int .u64 (dgl s 2 : Nat)) (.int .u64 (dgl s 3 : Nat)) (.int .u64 (dgl s 4 : Nat)) (.int .u64 (dgl s 5 : Nat)) (.int .u64 (dgl s 6 : Nat)) (.int .u64 (dgl s 7 : Nat))
      refine ⟨⟨hC.1.under hs8 HP.out, fun b hb => ?_, fun i => by simpa [go_sem] using hrf i⟩, fun t => ?_⟩
      · have hb2 : (φ 7 || true) = b := hb
        rw [Bool.or_true] at hb2
        subst hb2
        exact set8_same W p (dgl s) (dgl q) hD
      · refine (tbl_imp rfl (fun _ => val_imp) (tbl_imp rfl (fun _ h => ?_) (tbl_imp rfl (fun _ => val_imp) (tbl_imp rfl (fun _ => val_imp) (tbl_imp rfl (fun _ => val_imp) (tbl_imp rfl (fun _ => val_imp) (tbl_imp rfl (fun _ => val_imp) tbl_nil_imp)))))))
        show (bif (φ 7 || true) then SlotIs.any else SlotIs.rd [1]).R _ _
        rw [Bool.or_true]
        trivial
    exact kSt0
  · intro W hC
    refine gFi 36 rfl ?_
    rintro _ rfl
    refine gFi 37 rfl ?_
    rintro u37 b37
    refine gFi 38 rfl ?_
    rintro _ rfl
    refine gFi 39 rfl ?_
    rintro _ rfl
    refine gFi 35 rfl ?_
    rintro _ rfl
    refine gFi 40 rfl ?_
    rintro _ rfl
    refine gFi 41 rfl ?_
    rintro _ rfl
    refine gFiN rfl ?_
    refine gFi0 ?_
    simp only [List.drop_succ_cons, List.drop_zero, Act.put, List.setIfInBounds_toArray, List.set_cons_succ, List.set_cons_zero]
    have HQ : Hid (LiesF W p (dgl s)) := hC.2.1 true rfl
    have HST := hide hC.1
    clear hC h1 h2 h3 b37
    have his := HIS.out
    have hc := HQ.out.1
    have hr := HST.out.lr.1
    have hrf := HST.out.fr
    have hl := HST.out.lr.2
    have HB := hide HST.out.bel
    clear HST HQ
    go_wp2
    exact bodyPost_ret (v := .tuple #[.agg #[.int .u64 (dgl (s) 0 : Nat), .int .u64 (dgl (s) 1 : Nat), .int .u64 (dgl (s) 2 : Nat), .int .u64 (dgl (s) 3 : Nat), .int .u64 (dgl (s) 4 : Nat), .int .u64 (dgl (s) 5 : Nat), .int .u64 (dgl (s) 6 : Nat), .int .u64 (dgl (s) 7 : Nat)], .bool is]) (by simp [results, Tryd.results10, go_sem, hr, hl]) rfl ⟨rfl, below_set8 HB.out _ (by omega) _ _ _ _ _ _ _ _⟩

end Go.Proofs.YtidfegilddlglabDoor

/- Contracts: mode.Cut with its numbers; the document's Cut; law08.awake. -/
set_option linter.unusedVariables false
set_option linter.unusedSimpArgs false
set_option maxRecDepth 8000
namespace Go.Proofs.YtidfegilddlglabDoor
open Go.RowKit Plain

/-- A number without its lowest digits, rounded. -/
def cutN (a k : Nat) (m : Int) (more neg : Bool) : Nat := a / 2 ^ k + (growN m neg (a / 2 ^ k % 2 == 1) (restN a k more : Nat)).toNat
theorem div_far (a k c : Nat) (ha : a < QQ) (h : k = c ∨ (512 ≤ c ∧ 512 ≤ k)) : a / 2 ^ c = a / 2 ^ k := by
  rcases h with rfl | ⟨h1, h2⟩
  · rfl
  · obtain ⟨e, he⟩ : ∃ e, e = 64 * 8 := ⟨_, rfl⟩
    have hq := qq_pow e he
    rw [Nat.div_eq_of_lt (Nat.lt_of_lt_of_le ha (Nat.le_trans (Nat.le_of_eq hq.symm) (Nat.pow_le_pow_right (by decide) (by omega)))), Nat.div_eq_of_lt (Nat.lt_of_lt_of_le ha (Nat.le_trans (Nat.le_of_eq hq.symm) (Nat.pow_le_pow_right (by decide) (by omega))))]
theorem modeCut_yes (a : Nat) (ha : a < QQ) (n m : Int) (hn1 : n ≤ 9223372036854775807) (more neg : Bool) (h : isM m = true) (w : World) :
    Calls Tryd.prog 10 #[.agg #[.int .u64 (dgl (a) 0 : Nat), .int .u64 (dgl (a) 1 : Nat), .int .u64 (dgl (a) 2 : Nat), .int .u64 (dgl (a) 3 : Nat), .int .u64 (dgl (a) 4 : Nat), .int .u64 (dgl (a) 5 : Nat), .int .u64 (dgl (a) 6 : Nat), .int .u64 (dgl (a) 7 : Nat)], .int .i64 n, .bool more, .int .i64 m, .bool neg] w fun e w' => e = .returned (.tuple #[.agg #[.int .u64 (dgl (cutN a n.toNat m more neg) 0 : Nat), .int .u64 (dgl (cutN a n.toNat m more neg) 1 : Nat), .int .u64 (dgl (cutN a n.toNat m more neg) 2 : Nat), .int .u64 (dgl (cutN a n.toNat m more neg) 3 : Nat), .int .u64 (dgl (cutN a n.toNat m more neg) 4 : Nat), .int .u64 (dgl (cutN a n.toNat m more neg) 5 : Nat), .int .u64 (dgl (cutN a n.toNat m more neg) 6 : Nat), .int .u64 (dgl (cutN a n.toNat m more neg) 7 : Nat)], .bool (!decide (restN a n.toNat more = 0))]) ∧ Below w.heap.size w w' := by
  obtain ⟨k, hk⟩ : ∃ k : Nat, n.toNat = k := ⟨_, rfl⟩
  have HS := fun w => wideShr_any a (min k 512) n (by unfold roomI; omega) ha w
  rw [div_far a k (min k 512) ha (by omega)] at HS
  have hq : a / 2 ^ k < QQ := Nat.lt_of_le_of_lt (Nat.div_le_self _ _) ha
  have HM := fun w => modeIs_any m w
  have HR := fun w => modeRest_any a ha n hn1 more w
  have HBT := fun w => wideBit_any (a / 2 ^ k) 0 hq (by decide) (by decide) w
  have HG := fun w => modeGrows_any m neg (a / 2 ^ k % 2 == 1) (restN a k more : Nat) w
  rw [h] at HM
  rw [hk] at HR ⊢
  rw [show (0 : Int).toNat = 0 from rfl, Nat.pow_zero, Nat.div_one] at HBT
  have HIS : (((restN a k more : Nat) : Int) != 0) = !decide (restN a k more = 0) := by
    rw [Bool.eq_iff_iff, bne_iff_ne, Bool.not_eq_true', decide_eq_false_iff_not]
    omega
  unfold cutN
  generalize growN m neg (a / 2 ^ k % 2 == 1) (restN a k more : Nat) = g at HG ⊢
  cases g
  · exact modeCut_keep a (a / 2 ^ k) n m _ more neg _ _ _ HIS HM HS HR HBT HG w
  · exact modeCut_grow a (a / 2 ^ k) (a / 2 ^ k + 1) n m _ more neg _ _ _ _ HIS HM HS HR HBT HG (fun i hi => (dig_one (β := 18446744073709551616) (by decide)).2 i) (fun w => wideAdd_any (a / 2 ^ k) 1 hq one_lt_qq w) w

theorem lit8 (x : Nat) (h : x < 18446744073709551616) : (.agg #[.int .u64 (dgl (x) 0 : Nat), .int .u64 (dgl (x) 1 : Nat), .int .u64 (dgl (x) 2 : Nat), .int .u64 (dgl (x) 3 : Nat), .int .u64 (dgl (x) 4 : Nat), .int .u64 (dgl (x) 5 : Nat), .int .u64 (dgl (x) 6 : Nat), .int .u64 (dgl (x) 7 : Nat)] : Value) = .agg #[.int .u64 (x : Nat), .int .u64 0, .int .u64 0, .int .u64 0, .int .u64 0, .int .u64 0, .int .u64 0, .int .u64 0] := by
  have hd : ∀ i, dgl x i = dg [x] i := fun i => ((dig_one (β := 18446744073709551616) h).2 i).symm
  simp only [hd]
  rfl

set_option maxHeartbeats 2000000 in
theorem awake8_any (w : World) : Calls Tryd.prog 9 #[] w fun e w' => e = .returned (.bool true) ∧ Below w.heap.size w w' := by
  have h0 := fun w => modeCut_yes 6 (Nat.lt_of_lt_of_le (by decide) (show 18446744073709551616 ≤ QQ by decide +kernel)) 2 1 (by decide) false false (by decide) w
  rw [show cutN 6 (2 : Int).toNat 1 false false = 2 by decide +kernel, show (!decide (restN 6 (2 : Int).toNat false = 0)) = true by decide +kernel, lit8 6 (by decide), lit8 2 (by decide)] at h0
  have H0 := hide h0
  clear h0
  have h1 := fun w => modeCut_yes 6 (Nat.lt_of_lt_of_le (by decide) (show 18446744073709551616 ≤ QQ by decide +kernel)) 2 3 (by decide) false false (by decide) w
  rw [show cutN 6 (2 : Int).toNat 3 false false = 1 by decide +kernel, show (!decide (restN 6 (2 : Int).toNat false = 0)) = true by decide +kernel, lit8 6 (by decide), lit8 1 (by decide)] at h1
  have H1 := hide h1
  clear h1
  have h2 := fun w => modeCut_yes 2 (Nat.lt_of_lt_of_le (by decide) (show 18446744073709551616 ≤ QQ by decide +kernel)) 2 2 (by decide) false false (by decide) w
  rw [show cutN 2 (2 : Int).toNat 2 false false = 1 by decide +kernel, show (!decide (restN 2 (2 : Int).toNat false = 0)) = true by decide +kernel, lit8 2 (by decide), lit8 1 (by decide)] at h2
  have H2 := hide h2
  clear h2
  have s2 : ∀ w, (Op.equalIn 10000 34 (.agg #[.int .u64 2, .int .u64 0, .int .u64 0, .int .u64 0, .int .u64 0, .int .u64 0, .int .u64 0, .int .u64 0]) (.agg #[.int .u64 2, .int .u64 0, .int .u64 0, .int .u64 0, .int .u64 0, .int .u64 0, .int .u64 0, .int .u64 0])).run Tryd.prog w = .ok true w := fun w => by simpa using wide_sameF (fun i => [2].getD i 0) w
  have s1 : ∀ w, (Op.equalIn 10000 34 (.agg #[.int .u64 1, .int .u64 0, .int .u64 0, .int .u64 0, .int .u64 0, .int .u64 0, .int .u64 0, .int .u64 0]) (.agg #[.int .u64 1, .int .u64 0, .int .u64 0, .int .u64 0, .int .u64 0, .int .u64 0, .int .u64 0, .int .u64 0])).run Tryd.prog w = .ok true w := fun w => by simpa using wide_sameF (fun i => [1].getD i 0) w
  go_enter Tryd.func9, Tryd.ntmps9
  go_wp2_with fail
  refine (H0.out _).mono ?_
  rintro e w1 ⟨rfl, hb1⟩
  have HB := hide hb1
  clear hb1
  go_upto_region 2 with fail
  refine wp_gen (fun W => LiesF W w1.heap.size (fun i => [2].getD i 0) ∧ Below w.heap.size w W) ⟨liesF_new _ (fun i => [2].getD i 0) _, below_trans HB.out (below_allocs _ _)⟩ ?_
  clear HB
  generalize w1.heap.size = p1
  rintro W1 ⟨h1, h2⟩
  have HL1 := hide h1
  have HB := hide h2
  clear h1 h2
  go_wp2_with fail
  refine (H1.out _).mono ?_
  rintro e w2 ⟨rfl, hb2⟩
  replace HL1 := hide (HL1.out.below hb2)
  replace HB := hide (below_trans HB.out hb2)
  clear hb2
  go_upto_region 3 with fail
  refine wp_gen (fun W => LiesF W w2.heap.size (fun i => [1].getD i 0) ∧ LiesF W p1 (fun i => [2].getD i 0) ∧ Below w.heap.size w W) ⟨liesF_new _ (fun i => [1].getD i 0) _, HL1.out.below (below_allocs _ _), below_trans HB.out (below_allocs _ _)⟩ ?_
  clear HB HL1
  generalize w2.heap.size = p2
  rintro W2 ⟨h1, h2, h3⟩
  have HL2 := hide h1
  have HL1 := hide h2
  have HB := hide h3
  clear h1 h2 h3
  go_wp2_with fail
  refine (H2.out _).mono ?_
  rintro e w3 ⟨rfl, hb3⟩
  replace HL1 := hide (HL1.out.below hb3)
  replace HL2 := hide (HL2.out.below hb3)
  replace HB := hide (below_trans HB.out hb3)
  clear hb3
  go_upto_region 4 with fail
  refine wp_gen (fun W => LiesF W w3.heap.size (fun i => [1].getD i 0) ∧ LiesF W p2 (fun i => [1].getD i 0) ∧ LiesF W p1 (fun i => [2].getD i 0) ∧ Below w.heap.size w W) ⟨liesF_new _ (fun i => [1].getD i 0) _, HL2.out.below (below_allocs _ _), HL1.out.below (below_allocs _ _), below_trans HB.out (below_allocs _ _)⟩ ?_
  clear HB HL1 HL2
  generalize w3.heap.size = p3
  rintro W3 ⟨h3, h2, h1, hB⟩
  have c1 := h1.1
  have c2 := h2.1
  have c3 := h3.1
  have HB := hide hB
  clear h1 h2 h3 hB H0 H1 H2
  go_wp2
  go_ret
  exact ⟨rfl, HB.out⟩

end Go.Proofs.YtidfegilddlglabDoor

/- Arrays of ints that come as arguments. -/
set_option linter.unusedVariables false
set_option linter.unusedSimpArgs false
set_option maxRecDepth 8000
namespace Go.Proofs.YtidfegilddlglabDoor
open Go.RowKit Plain

end Go.Proofs.YtidfegilddlglabDoor

/- Contracts: mode.Mirror; numbers whose highest limb is halved; modes mirrored. -/
set_option linter.unusedVariables false
set_option linter.unusedSimpArgs false
set_option maxRecDepth 8000
namespace Go.Proofs.YtidfegilddlglabDoor
open Go.RowKit Plain

def mirN (m : Int) : Int := if m = 4 then 5 else if m = 5 then 4 else m
theorem mirror_any (m : Int) (h : isM m = true) (w : World) : Calls Tryd.prog 8 #[.int .i64 m] w fun e w' => e = .returned (.int .i64 (mirN m)) ∧ w' = w := by
  have HM := fun w => modeIs_any m w
  rw [h] at HM
  by_cases h4 : m = 4
  · subst h4
    rw [show mirN 4 = 5 from rfl]
    go_enter Tryd.func8, Tryd.ntmps8
    go_wp2_with fail
    refine (HM _).mono ?_
    rintro e wl ⟨rfl, hw⟩
    subst wl
    go_wp2
    go_ret
    exact ⟨rfl, rfl⟩
  · by_cases h5 : m = 5
    · subst h5
      rw [show mirN 5 = 4 from rfl]
      go_enter Tryd.func8, Tryd.ntmps8
      go_wp2_with fail
      refine (HM _).mono ?_
      rintro e wl ⟨rfl, hw⟩
      subst wl
      go_wp2
      go_ret
      exact ⟨rfl, rfl⟩
    · rw [show mirN m = m by unfold mirN; rw [if_neg h4, if_neg h5]]
      go_enter Tryd.func8, Tryd.ntmps8
      go_wp2_with fail
      refine (HM _).mono ?_
      rintro e wl ⟨rfl, hw⟩
      subst wl
      go_wp2
      go_ret
      exact ⟨rfl, rfl⟩
theorem mirN_is (m : Int) (h : isM m = true) : isM (mirN m) = true := by
  unfold mirN
  split
  · decide
  · split
    · decide
    · exact h
theorem growN_mir (m : Int) (neg od : Bool) (r : Int) : growN (mirN m) (!neg) od r = growN m neg od r := by
  unfold growN mirN
  by_cases h4 : m = 4
  · subst h4; simp
  · by_cases h5 : m = 5
    · subst h5; simp
    · simp [h4, h5]
theorem growN_zero (neg od : Bool) (r : Int) : growN 3 neg od r = false := by
  unfold growN
  split <;> simp
theorem growN_four (neg od : Bool) (r : Int) (h : 1 ≤ r ∧ r ≤ 3) : growN 4 neg od r = !neg := by
  unfold growN
  rw [if_neg (by omega)]
  simp
theorem growN_five (neg od : Bool) (r : Int) (h : 1 ≤ r ∧ r ≤ 3) : growN 5 neg od r = neg := by
  unfold growN
  rw [if_neg (by omega)]
  simp
theorem growN_none (m : Int) (neg od : Bool) : growN m neg od ((0 : Nat) : Int) = false := by
  unfold growN
  rw [if_pos (by omega)]
theorem restN_le (s k : Nat) (more : Bool) : restN s k more ≤ 3 := by
  unfold restN
  repeat' split
  all_goals omega
theorem cutN_mir (a k : Nat) (m : Int) (more neg : Bool) : cutN a k (mirN m) more (!neg) = cutN a k m more neg := by
  unfold cutN
  rw [growN_mir]
theorem cutN_zero (a k : Nat) (more neg : Bool) : cutN a k 3 more neg = a / 2 ^ k := by
  unfold cutN
  rw [growN_zero]
  rfl
/-- The number whose highest limb is halved. -/
theorem half_num (a0 : Nat) : ∃ a, a + 1 < QQ ∧ (∀ i, i < 7 → dgl a i = dgl a0 i) ∧ dgl a 7 = dgl a0 7 / 2 := by
  have hlt : ∀ i, dg [dgl a0 0, dgl a0 1, dgl a0 2, dgl a0 3, dgl a0 4, dgl a0 5, dgl a0 6, dgl a0 7 / 2] i < 18446744073709551616 := fun i => by
    match i with
    | 0 => exact dgl_lt _ _
    | 1 => exact dgl_lt _ _
    | 2 => exact dgl_lt _ _
    | 3 => exact dgl_lt _ _
    | 4 => exact dgl_lt _ _
    | 5 => exact dgl_lt _ _
    | 6 => exact dgl_lt _ _
    | 7 => exact Nat.lt_of_le_of_lt (Nat.div_le_self _ _) (dgl_lt _ _)
    | i + 8 => exact (show (0 : Nat) < 18446744073709551616 by decide)
  have hd := val_dig (β := 18446744073709551616) (by decide) _ hlt
  generalize val 18446744073709551616 _ = a at hd
  obtain ⟨h1, h2⟩ := hd
  have e7 : dgl a 7 = dgl a0 7 / 2 := (h2 7).symm
  refine ⟨a, ?_, fun i hi => ?_, e7⟩
  · have h3 := dgl_lt a0 7
    have h4 : a < 18446744073709551616 ^ 8 := h1
    unfold dgl at e7 h3
    have h5 : a / 18446744073709551616 ^ 7 < 18446744073709551616 := Nat.div_lt_of_lt_mul (by rw [← Nat.pow_succ]; exact h4)
    rw [Nat.mod_eq_of_lt h5] at e7
    have h6 : a / 18446744073709551616 ^ 7 < 9223372036854775808 := by rw [e7]; omega
    have h7 : a < 18446744073709551616 ^ 7 * 9223372036854775808 := (Nat.div_lt_iff_lt_mul (Nat.pow_pos (by decide))).1 h6 |> fun h => by rw [Nat.mul_comm]; exact h
    have h8 : QQ = 18446744073709551616 ^ 7 * 18446744073709551616 := by unfold QQ; rw [← Nat.pow_succ]
    have h9 : 1 ≤ 18446744073709551616 ^ 7 := Nat.pow_pos (by decide)
    rw [h8]
    generalize 18446744073709551616 ^ 7 = z at *
    omega
  · match i, hi with
    | 0, _ => exact (h2 0).symm
    | 1, _ => exact (h2 1).symm
    | 2, _ => exact (h2 2).symm
    | 3, _ => exact (h2 3).symm
    | 4, _ => exact (h2 4).symm
    | 5, _ => exact (h2 5).symm
    | 6, _ => exact (h2 6).symm

end Go.Proofs.YtidfegilddlglabDoor

