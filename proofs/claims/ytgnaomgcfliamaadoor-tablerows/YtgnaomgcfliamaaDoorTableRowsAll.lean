/- For all wides the law radicandlaw14.TableRows returns true and leaves what came in as it was. Conditions: those of the tied card (the table of rows is laid as the program lays it). -/
import Derived.Test.YtgnaomgcfliamaaDoorPartAO
import Derived.Test.YtgnaomgcfliamaaDoorRows
import Derived.Test.YtgnaomgcfliamaaDoorTie
import Derived.Test.YtgnaomgcfliamaaDoorCards
import Derived.LaidMore
import Derived.Stop.Joined
import Derived.SevenTiedAt
import Derived.WalkKit
import Derived.ProofKit
import Derived.OpenShut
import Derived.ShutString
import Derived.ChangeOld
import Derived.Below
/- For all wides the law radicandlaw14.TableRows returns true. -/
set_option linter.unusedVariables false
set_option linter.unusedSimpArgs false
set_option maxRecDepth 8000
namespace Go.Proofs.YtgnaomgcfliamaaDoor
open Go.RowKit Plain

set_option maxHeartbeats 2000000 in
theorem tableRows_no (d : Nat) (hd0 : Go.bitLen d = 0)
    (HRW : Hid (∀ w, Calls Tryd.prog 15 #[.agg #[.int .u64 0, .int .u64 0, .int .u64 0, .int .u64 0, .int .u64 0, .int .u64 0, .int .u64 0, .int .u64 0]] w fun e w' => e = .returned (.tuple #[.int .i64 0, .bool false]) ∧ Below w.heap.size w w'))
    (HBG : Hid (∀ w, Calls Tryd.prog 16 #[.agg #[.int .u64 0, .int .u64 0, .int .u64 0, .int .u64 0, .int .u64 0, .int .u64 0, .int .u64 0, .int .u64 0]] w fun e w' => ∃ v, e = .returned v ∧ BigV w' v d 40 ∧ Below w.heap.size w w')) (HAW : Hid (∀ w, TabG w → Calls Tryd.prog 9 #[] w fun e w' => e = .returned (.bool true) ∧ Below w.heap.size w w')) (w : World) (hg : TabG w) :
    Calls Tryd.prog 5 #[.agg #[.int .u64 0, .int .u64 0, .int .u64 0, .int .u64 0, .int .u64 0, .int .u64 0, .int .u64 0, .int .u64 0]] w fun e w' => e = .returned (.bool true) ∧ Below w.heap.size w w' := by
  have HG := hide hg
  have HS : Hid (LiesF (w.alloc (.cells #[.int .u64 0, .int .u64 0, .int .u64 0, .int .u64 0, .int .u64 0, .int .u64 0, .int .u64 0, .int .u64 0] 37)) w.heap.size (fun _ => 0) ∧ Below w.heap.size w (w.alloc (.cells #[.int .u64 0, .int .u64 0, .int .u64 0, .int .u64 0, .int .u64 0, .int .u64 0, .int .u64 0, .int .u64 0] 37))) := ⟨liesF_new w (fun _ => 0) _, belowT_allocs w _⟩
  replace HG := hide (HG.out.below (belowT_allocs w (.cells #[.int .u64 0, .int .u64 0, .int .u64 0, .int .u64 0, .int .u64 0, .int .u64 0, .int .u64 0, .int .u64 0] 37)))
  clear hg
  go_enter Tryd.func5, Tryd.ntmps5
  have hl := HS.out.1.1
  go_wp2_with fail
  refine (HRW.out _).mono ?_
  rintro e w1 ⟨rfl, hb1⟩
  replace HS := hide (show LiesF w1 w.heap.size (fun _ => 0) ∧ Below w.heap.size w w1 from ⟨HS.out.1.below hb1, HS.out.2.trans (hb1.mono HS.out.2.size)⟩)
  replace HG := hide (HG.out.below hb1)
  clear hb1 hl HRW
  have hl := HS.out.1.1
  go_wp2_with fail
  refine (HBG.out _).mono ?_
  rintro e w2 ⟨v2, rfl, hv2, hb2⟩
  have HB := hide (HS.out.2.trans (hb2.mono HS.out.2.size))
  replace HG := hide (HG.out.below hb2)
  have HV := hide hv2
  clear hb2 hl HBG HS hv2
  have HLN := hide (refLen_any d 40 _ _ HV.out (by decide))
  obtain ⟨bo, bl, bc, rfl⟩ : ∃ ao l ca, v2 = .slice ao l ca := by
    obtain ⟨l, ⟨ao, ca, rfl, -⟩, -⟩ := HV.out
    exact ⟨_, _, _, rfl⟩
  go_wp2_with fail
  refine HLN.out.mono ?_
  rintro e w3 ⟨rfl, hw⟩
  subst w3
  clear HLN
  rw [hd0]
  go_wp2_with fail
  refine (HAW.out _ HG.out).mono ?_
  rintro e w4 ⟨rfl, hb4⟩
  replace HB := hide (HB.out.trans (hb4.mono HB.out.size))
  clear hb4 HG HV
  go_wp2
  go_ret
  exact ⟨rfl, HB.out⟩

set_option maxHeartbeats 4000000 in
theorem tableRows_yes (d r n : Nat) (hn : Go.bitLen d = n) (hn0 : 1 ≤ n) (hn5 : n ≤ 512) (h8 : 8 ≤ r) (h15 : r ≤ 15) (hrd : Hid (d * 2 ^ 4 / 2 ^ n = r))
    (HRW : Hid (∀ w, Calls Tryd.prog 15 #[.agg #[.int .u64 (dgl (d) 0 : Nat), .int .u64 (dgl (d) 1 : Nat), .int .u64 (dgl (d) 2 : Nat), .int .u64 (dgl (d) 3 : Nat), .int .u64 (dgl (d) 4 : Nat), .int .u64 (dgl (d) 5 : Nat), .int .u64 (dgl (d) 6 : Nat), .int .u64 (dgl (d) 7 : Nat)]] w fun e w' => e = .returned (.tuple #[.int .i64 ((r : Nat) : Int), .bool true]) ∧ Below w.heap.size w w'))
    (HBG : Hid (∀ w, Calls Tryd.prog 16 #[.agg #[.int .u64 (dgl (d) 0 : Nat), .int .u64 (dgl (d) 1 : Nat), .int .u64 (dgl (d) 2 : Nat), .int .u64 (dgl (d) 3 : Nat), .int .u64 (dgl (d) 4 : Nat), .int .u64 (dgl (d) 5 : Nat), .int .u64 (dgl (d) 6 : Nat), .int .u64 (dgl (d) 7 : Nat)]] w fun e w' => ∃ v, e = .returned v ∧ BigV w' v d 40 ∧ Below w.heap.size w w'))
    (HSM : Hid (∀ w, Calls Tryd.prog 21 #[.int .u64 (r : Nat)] w fun e w' => ∃ v, e = .returned v ∧ BigV w' v r 2 ∧ Below w.heap.size w w')) (HAW : Hid (∀ w, TabG w → Calls Tryd.prog 9 #[] w fun e w' => e = .returned (.bool true) ∧ Below w.heap.size w w')) (w : World) (hg : TabG w) :
    Calls Tryd.prog 5 #[.agg #[.int .u64 (dgl (d) 0 : Nat), .int .u64 (dgl (d) 1 : Nat), .int .u64 (dgl (d) 2 : Nat), .int .u64 (dgl (d) 3 : Nat), .int .u64 (dgl (d) 4 : Nat), .int .u64 (dgl (d) 5 : Nat), .int .u64 (dgl (d) 6 : Nat), .int .u64 (dgl (d) 7 : Nat)]] w fun e w' => e = .returned (.bool true) ∧ Below w.heap.size w w' := by
  have hcv : IntKind.u64.wrap ((r : Nat) : Int) = ((r : Nat) : Int) := by rw [IntKind.wrap_u64]; omega
  have HN5 := hide hn5
  have HG := hide hg
  have HS : Hid (LiesF (w.alloc (.cells #[.int .u64 (dgl (d) 0 : Nat), .int .u64 (dgl (d) 1 : Nat), .int .u64 (dgl (d) 2 : Nat), .int .u64 (dgl (d) 3 : Nat), .int .u64 (dgl (d) 4 : Nat), .int .u64 (dgl (d) 5 : Nat), .int .u64 (dgl (d) 6 : Nat), .int .u64 (dgl (d) 7 : Nat)] 37)) w.heap.size (dgl d) ∧ Below w.heap.size w (w.alloc (.cells #[.int .u64 (dgl (d) 0 : Nat), .int .u64 (dgl (d) 1 : Nat), .int .u64 (dgl (d) 2 : Nat), .int .u64 (dgl (d) 3 : Nat), .int .u64 (dgl (d) 4 : Nat), .int .u64 (dgl (d) 5 : Nat), .int .u64 (dgl (d) 6 : Nat), .int .u64 (dgl (d) 7 : Nat)] 37))) := ⟨liesF_new w (dgl d) _, belowT_allocs w _⟩
  replace HG := hide (HG.out.below (belowT_allocs w (.cells #[.int .u64 (dgl (d) 0 : Nat), .int .u64 (dgl (d) 1 : Nat), .int .u64 (dgl (d) 2 : Nat), .int .u64 (dgl (d) 3 : Nat), .int .u64 (dgl (d) 4 : Nat), .int .u64 (dgl (d) 5 : Nat), .int .u64 (dgl (d) 6 : Nat), .int .u64 (dgl (d) 7 : Nat)] 37)))
  clear hg
  go_enter Tryd.func5, Tryd.ntmps5
  have hl := HS.out.1.1
  go_wp2_with fail
  refine (HRW.out _).mono ?_
  rintro e w1 ⟨rfl, hb1⟩
  replace HS := hide (show LiesF w1 w.heap.size (dgl d) ∧ Below w.heap.size w w1 from ⟨HS.out.1.below hb1, HS.out.2.trans (hb1.mono HS.out.2.size)⟩)
  replace HG := hide (HG.out.below hb1)
  clear hb1 hl HRW
  have hl := HS.out.1.1
  go_wp2_with fail
  refine (HBG.out _).mono ?_
  rintro e w2 ⟨v2, rfl, hv2, hb2⟩
  have HB := hide (HS.out.2.trans (hb2.mono HS.out.2.size))
  replace HG := hide (HG.out.below hb2)
  have HV := hide hv2
  clear hb2 hl HBG HS hv2
  have HLN := hide (refLen_any d 40 _ _ HV.out (by decide))
  obtain ⟨bo, bl, bc, rfl⟩ : ∃ ao l ca, v2 = .slice ao l ca := by
    obtain ⟨l, ⟨ao, ca, rfl, -⟩, -⟩ := HV.out
    exact ⟨_, _, _, rfl⟩
  go_wp2_with fail
  refine HLN.out.mono ?_
  rintro e w3 ⟨rfl, hw⟩
  subst w3
  clear HLN
  rw [hn]
  clear hn
  have hne : ¬ ((n : Nat) : Int) = 0 := by omega
  have HSH := hide (refShl_any d 40 4 _ _ HV.out (by decide) (by decide))
  go_wp2_with fail
  refine HSH.out.mono ?_
  rintro e w4 ⟨v4, rfl, hv4, hb4⟩
  replace HB := hide (HB.out.trans (hb4.mono HB.out.size))
  replace HG := hide (HG.out.below hb4)
  have HSR := hide (refShr_any (d * 2 ^ 4) (4 / 32 + 40 + 1) n _ _ hv4 (by decide) (by have := HN5.out; omega))
  clear hb4 hv4 HV HSH
  go_wp2_with fail
  refine HSR.out.mono ?_
  rintro e w5 ⟨v5, rfl, hv5, hb5⟩
  replace HB := hide (HB.out.trans (hb5.mono HB.out.size))
  replace HG := hide (HG.out.below hb5)
  rw [hrd.out] at hv5
  obtain ⟨eo, el, ec, rfl⟩ : ∃ ao l ca, v5 = .slice ao l ca := by
    obtain ⟨l, ⟨ao, ca, rfl, -⟩, -⟩ := hv5
    exact ⟨_, _, _, rfl⟩
  have HV := hide hv5
  clear hb5 hv5 HSR
  have hg8 : (8 : Int) ≤ ((r : Nat) : Int) := by omega
  have hg15 : ((r : Nat) : Int) ≤ 15 := by omega
  go_wp2_with fail
  refine (HSM.out _).mono ?_
  rintro e w6 ⟨v6, rfl, hv6, hb6⟩
  replace HB := hide (HB.out.trans (hb6.mono HB.out.size))
  replace HG := hide (HG.out.below hb6)
  have HCM := hide (cmp_any r r 2 _ _ _ w6 hv6 (HV.out.below hb6))
  have hcc : cmpN r r = 0 := by unfold cmpN; simp
  rw [hcc] at HCM
  clear hcc hb6 hv6 HV HSM
  go_wp2_with fail
  refine HCM.out.mono ?_
  rintro e w7 ⟨rfl, hw⟩
  subst w7
  clear HCM
  go_wp2_with fail
  refine (HAW.out _ HG.out).mono ?_
  rintro e w8 ⟨rfl, hb8⟩
  replace HB := hide (HB.out.trans (hb8.mono HB.out.size))
  clear hb8 HG
  go_wp2
  go_ret
  exact ⟨rfl, HB.out⟩

theorem tableRows_any (d : Nat) (hd : d < QQ) (w : World) (hg : TabG w) : Calls Tryd.prog 5 #[.agg #[.int .u64 (dgl (d) 0 : Nat), .int .u64 (dgl (d) 1 : Nat), .int .u64 (dgl (d) 2 : Nat), .int .u64 (dgl (d) 3 : Nat), .int .u64 (dgl (d) 4 : Nat), .int .u64 (dgl (d) 5 : Nat), .int .u64 (dgl (d) 6 : Nat), .int .u64 (dgl (d) 7 : Nat)]] w fun e w' => e = .returned (.bool true) ∧ Below w.heap.size w w' := by
  by_cases h0 : d = 0
  · subst h0
    exact tableRows_no 0 rfl (fun w => rowC_no w) (fun w => refBig_any 0 hd w) (fun w hg => awake14_any w hg) w hg
  · have hr := roww_all hd h0
    exact tableRows_yes d (rwN d) (Go.bitLen d) rfl (bitLen_top d h0).2.2 (len512 hd) hr.2.2.1 hr.2.2.2 hr.2.1.symm (fun w => rowC_yes d hd h0 w) (fun w => refBig_any d hd w) (fun w => small_any (rwN d) (by have := hr.2.2.2; omega) w) (fun w hg => awake14_any w hg) w hg
end Go.Proofs.YtgnaomgcfliamaaDoor

/- For all wides the law radicandlaw14.TableRows returns true and leaves what came in as it was. Conditions: those of the tied card (the table of rows is laid as the program lays it). -/
namespace Go.Proofs.YtgnaomgcfliamaaDoor.tableRows
open Go.ChangeShapes Go.WideShapes Go.ChangeAt Go.RowKit Go.Proofs.YtgnaomgcfliamaaDoor

theorem own : ownKnob Tryd.prog.godebug = none := by kernel_rfl
theorem laidOut : laidOutB Tryd.prog = true := by kernel_rfl

theorem door_met (os : Os) (args : Array Value) : laidMetH Tryd.prog [("radicand/table.rows", Rows.laid_radicand_table_rows)] ((World.doorLaid Tryd.prog 400 os).forCall (fun _ _ => 0) ⟨#[], args, []⟩).memory :=
  laidMetH_of_parts3 (fuel := 8) (laidMet_of_run' 8 (by kernel_rfl) (by kernel_rfl)) (by kernel_rfl) (by kernel_rfl)

set_option maxRecDepth 100000 in
theorem lifted (os : Os) (started : os.Started) (H : Type) (enc : TypeId × Value → H) :
    ReturnsInHanded {} Tryd.checked os 5 .any (fun w args => (Rows.tableRowsSpec.pre enc Tryd.prog Tryd.f5 [] false w args ∧ laidMetH Tryd.prog [("radicand/table.rows", Rows.laid_radicand_table_rows)] w) ∧ sizedMet enc Tryd.prog Tryd.f5 (OpenSpec.ofChange Rows.tableRowsSpec) false w args) (Rows.tableRowsSpec.post enc Tryd.prog Tryd.f5 false true false false) := by
  refine returnsInHanded_of_change_and (C := Tryd.checked) (X := fun w _ => laidMetH Tryd.prog [("radicand/table.rows", Rows.laid_radicand_table_rows)] w) (fun _ _ _ hh h => h.of_heap hh) own started (by kernel_rfl) Tryd.func5
    (ChangeSpec.witness_shaped (enc := enc) (C := Tryd.checked) (os := os) (X := fun w _ => laidMetH Tryd.prog [("radicand/table.rows", Rows.laid_radicand_table_rows)] w) false (World.doorLaid Tryd.prog 400 os) #[.agg #[.int .u64 0, .int .u64 0, .int .u64 0, .int .u64 0, .int .u64 0, .int .u64 0, .int .u64 0, .int .u64 0]] 40 rfl (World.shaped_of_RefB (by kernel_rfl) (by kernel_rfl)) (by kernel_rfl) (by kernel_rfl) (by kernel_rfl) (door_met os _)) ?_
  intro W base args ds gs before hval0 hW _ _ hL _
  have hval : ∀ (j : Nat) t v, Tryd.f5.params[j]? = some t → args[j]? = some v → Value.okWide Tryd.prog W .any base t v := hval0
  have hW' := hW
  obtain ⟨p, q, hA0, hV, rfl, hfz, hnd⟩ := hW
  have hA : DataW.TrodAll enc Tryd.prog W 0 (fun _ => true) true Tryd.f5.params.toList args.toList ds p := hA0
  rw [Tryd.params5] at hA hval
  obtain ⟨v0, vs0, d0, ds0, p0, q0, hargs, rfl, rfl, h0, r0⟩ := trodAll_cons hA
  obtain ⟨rfl, rfl, rfl⟩ := trodAll_nil r0
  obtain rfl : args = #[v0] := by cases args; simp_all
  obtain ⟨rfl, rfl⟩ := trodVars_none hV
  have k0 := h0
  have lt0 : ∀ x ∈ p0, x.block < W.heap.size := by obtain ⟨m, hm⟩ := k0; exact DataW.trod_lt m _ _ _ hm
  obtain ⟨x0, hx0, rfl⟩ := wide_of_trod (hval 0 37 v0 rfl rfl) h0
  clear hA0 hval0
  refine (tableRows_any x0 hx0 W (of_laidT hL)).mono fun e W' ⟨he, bel⟩ => ?_
  subst he
  exact ⟨_, rfl, _, _, _, [], _, [], hW', trodAll_mk1 (shut_bool Tryd.underlying4 _), (trodAll_cons_mk (Below.trod laidOut (by kernel_rfl) (of_decide_eq_true (by kernel_rfl)) k0 bel lt0) trodAll_mk0), rfl, bel.frame _, fun h => by cases h⟩

theorem over : Rows.tableRowsRow.holds Tryd.pinned (OpenSpec.ofChange Rows.tableRowsSpec) :=
  OpenClaim.holds_of_wide 5 Tryd.f5 rfl rfl rfl rfl rfl rfl rfl ⟨rfl, rfl, rfl, rfl, rfl⟩ rfl rfl rfl rfl rfl (by kernel_rfl) Tryd.func5 (by kernel_rfl)
    (of_decide_eq_true (by kernel_rfl)) (by unfold Func.isWrapper; first | (rw [if_pos (by decide +kernel)]; kernel_rfl) | (rw [if_neg (by decide +kernel)]; exact ⟨rfl, rfl⟩))
    (fun os started H enc _ => lifted os started H enc)

theorem proved : Rows.TableRowsCardSaid :=
  Claim7.holds_tied_plain_at .later [] [.data] true (true, "90533070d59ca3dca7ee7d7287752f05f0363729b90e157f5fc6aba06ef85e57") false
    over (fun _ h => by cases h) (by kernel_rfl) (fun _ h => by cases h) tableRows_row_tie rfl ⟨rfl, rfl⟩ (by kernel_rfl) rfl
    (fun f fn hf hfn => by
      obtain rfl : f = 5 := Option.some.inj ((show Tryd.prog.funcNamed "radicand/radicandlaw14.TableRows" = some 5 by kernel_rfl).symm.trans hf) |>.symm
      obtain rfl : fn = Tryd.f5 := (Option.some.inj (Tryd.func5.symm.trans hfn)).symm
      exact ⟨by kernel_rfl, fun j t ht => by
        rw [Tryd.params5] at ht
        rcases j with _ | j
        · obtain rfl : t = 37 := by simpa using ht.symm
          exact (show Tryd.prog.wantsStandIn 37 = false by kernel_rfl)
        simp at ht⟩)
    (by kernel_rfl)
#print axioms proved
end Go.Proofs.YtgnaomgcfliamaaDoor.tableRows

