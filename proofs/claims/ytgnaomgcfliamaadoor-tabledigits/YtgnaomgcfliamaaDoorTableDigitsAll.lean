/- For all ints the law radicandlaw14.TableDigits returns true and leaves what came in as it was. Conditions: those of the tied card (the table of rows is laid as the program lays it). -/
import Derived.Test.YtgnaomgcfliamaaDoorPartAO
import Derived.Test.YtgnaomgcfliamaaDoorRows
import Derived.Test.YtgnaomgcfliamaaDoorTie
import Derived.Test.YtgnaomgcfliamaaDoorCards
import Derived.LaidMore
import Derived.Stop.Joined
import Derived.SevenTiedAt
import Derived.WalkKit
import Derived.ProofKit
import Derived.OpenShut
import Derived.ShutString
import Derived.ChangeOld
import Derived.Below
/- For all ints the law radicandlaw14.TableDigits returns true. -/
set_option linter.unusedVariables false
set_option linter.unusedSimpArgs false
set_option maxRecDepth 8000
namespace Go.Proofs.YtgnaomgcfliamaaDoor
open Go.RowKit Plain

set_option maxHeartbeats 2000000 in
theorem tableDigits_no (i y : Int) (hi : i < 8 ∨ 15 < i)
    (HBD : Hid (∀ w, TabG w → Calls Tryd.prog 7 #[.int .i64 i] w fun e w' => e = .returned (.tuple #[.agg #[.int .i64 0, .int .i64 0, .int .i64 0, .int .i64 0], .bool false]) ∧ Below w.heap.size w w'))
    (HDG : Hid (∀ w, TabG w → Calls Tryd.prog 8 #[.int .i64 i, .int .i64 y] w fun e w' => e = .returned (.tuple #[.int .i64 0, .bool false]) ∧ Below w.heap.size w w')) (HAW : Hid (∀ w, TabG w → Calls Tryd.prog 9 #[] w fun e w' => e = .returned (.bool true) ∧ Below w.heap.size w w')) (w : World) (hg : TabG w) :
    Calls Tryd.prog 3 #[.int .i64 i, .int .i64 y] w fun e w' => e = .returned (.bool true) ∧ Below w.heap.size w w' := by
  have hq : ∀ w, (Op.equalIn 10000 22 (.agg #[.int .i64 0, .int .i64 0, .int .i64 0, .int .i64 0]) (.agg #[.int .i64 0, .int .i64 0, .int .i64 0, .int .i64 0])).run Tryd.prog w = .ok true w := fun w => four_same (fun _ => 0) w
  have HI := hide hi
  clear hi
  have HG := hide hg
  clear hg
  go_enter Tryd.func3, Tryd.ntmps3
  go_wp2_with fail
  refine (HBD.out _ HG.out).mono ?_
  rintro e w1 ⟨rfl, hb1⟩
  go_upto_region 2 with fail
  have hbw := belowT_allocs w1 (.cells #[.int .i64 0, .int .i64 0, .int .i64 0, .int .i64 0] 22)
  refine wp_gen (fun W => LiesI W w1.heap.size (fun _ => 0) ∧ TabG W ∧ Below w.heap.size w W) ⟨liesI_new w1 (fun _ => 0) _, (HG.out.below hb1).below hbw, hb1.trans (hbw.mono hb1.size)⟩ ?_
  clear hb1 HBD HG hbw
  generalize w1.heap.size = p5 at *
  rintro W2 h2
  have HL := hide h2
  clear h2
  go_wp2_with fail
  refine (HDG.out _ HL.out.2.1).mono ?_
  rintro e w3 ⟨rfl, hb3⟩
  replace HL := hide (show LiesI w3 p5 (fun _ => 0) ∧ TabG w3 ∧ Below w.heap.size w w3 from ⟨HL.out.1.below hb3, HL.out.2.1.below hb3, HL.out.2.2.trans (hb3.mono HL.out.2.2.size)⟩)
  clear hb3 HDG
  have hl := HL.out.1.1
  rcases HI.out with h | h
  · go_wp2_with fail
    refine (HAW.out _ HL.out.2.1).mono ?_
    rintro e w4 ⟨rfl, hb4⟩
    have HB := hide (HL.out.2.2.trans (hb4.mono HL.out.2.2.size))
    clear hb4 HL hl
    go_wp2
    go_ret
    exact ⟨rfl, HB.out⟩
  · have h0 : ¬ i < 8 := by omega
    go_wp2_with fail
    refine (HAW.out _ HL.out.2.1).mono ?_
    rintro e w4 ⟨rfl, hb4⟩
    have HB := hide (HL.out.2.2.trans (hb4.mono HL.out.2.2.size))
    clear hb4 HL hl
    go_wp2
    go_ret
    exact ⟨rfl, HB.out⟩

set_option maxHeartbeats 2000000 in
theorem tableDigits_yes (i y d : Int) (f : Nat → Int) (h1 : 8 ≤ i) (h2 : i ≤ 15)
    (HBD : Hid (∀ w, TabG w → Calls Tryd.prog 7 #[.int .i64 i] w fun e w' => e = .returned (.tuple #[.agg #[.int .i64 (f 0), .int .i64 (f 1), .int .i64 (f 2), .int .i64 (f 3)], .bool true]) ∧ Below w.heap.size w w'))
    (HDG : Hid (∀ w, TabG w → Calls Tryd.prog 8 #[.int .i64 i, .int .i64 y] w fun e w' => e = .returned (.tuple #[.int .i64 d, .bool true]) ∧ Below w.heap.size w w'))
    (HRB : Hid (∀ w, Calls Tryd.prog 10 #[.int .i64 i] w fun e w' => e = .returned (.agg #[.int .i64 (f 0), .int .i64 (f 1), .int .i64 (f 2), .int .i64 (f 3)]) ∧ Below w.heap.size w w'))
    (HRD : Hid (∀ w, Calls Tryd.prog 11 #[.agg #[.int .i64 (f 0), .int .i64 (f 1), .int .i64 (f 2), .int .i64 (f 3)], .int .i64 y] w fun e w' => e = .returned (.int .i64 d) ∧ Below w.heap.size w w'))
    (HQ : Hid (∀ w, (Op.equalIn 10000 22 (.agg #[.int .i64 (f 0), .int .i64 (f 1), .int .i64 (f 2), .int .i64 (f 3)]) (.agg #[.int .i64 (f 0), .int .i64 (f 1), .int .i64 (f 2), .int .i64 (f 3)])).run Tryd.prog w = .ok true w)) (HAW : Hid (∀ w, TabG w → Calls Tryd.prog 9 #[] w fun e w' => e = .returned (.bool true) ∧ Below w.heap.size w w')) (w : World) (hg : TabG w) :
    Calls Tryd.prog 3 #[.int .i64 i, .int .i64 y] w fun e w' => e = .returned (.bool true) ∧ Below w.heap.size w w' := by
  have hi1 : ¬ i < 8 := by omega
  have hi2 : ¬ 15 < i := by omega
  have HG := hide hg
  clear hg
  go_enter Tryd.func3, Tryd.ntmps3
  go_wp2_with fail
  refine (HBD.out _ HG.out).mono ?_
  rintro e w1 ⟨rfl, hb1⟩
  go_upto_region 2 with fail
  have hbw := belowT_allocs w1 (.cells #[.int .i64 (f 0), .int .i64 (f 1), .int .i64 (f 2), .int .i64 (f 3)] 22)
  refine wp_gen (fun W => LiesI W w1.heap.size (f) ∧ TabG W ∧ Below w.heap.size w W) ⟨liesI_new w1 (f) _, (HG.out.below hb1).below hbw, hb1.trans (hbw.mono hb1.size)⟩ ?_
  clear hb1 HBD HG hbw
  generalize w1.heap.size = p5 at *
  rintro W2 h2
  have HL := hide h2
  clear h2
  go_wp2_with fail
  refine (HDG.out _ HL.out.2.1).mono ?_
  rintro e w3 ⟨rfl, hb3⟩
  replace HL := hide (show LiesI w3 p5 (f) ∧ TabG w3 ∧ Below w.heap.size w w3 from ⟨HL.out.1.below hb3, HL.out.2.1.below hb3, HL.out.2.2.trans (hb3.mono HL.out.2.2.size)⟩)
  clear hb3 HDG
  go_upto_region 5 with fail
  refine wp_region_grow 22 [(44, .val (.bool true)), (45, .val (.bool true)), (46, .val (.bool true)), (47, .val (.bool true)), (48, .val (.bool true)), (49, .val (.agg #[.int .i64 (f 0), .int .i64 (f 1), .int .i64 (f 2), .int .i64 (f 3)])), (50, .val (.int .i64 i)), (51, .val (.agg #[.int .i64 (f 0), .int .i64 (f 1), .int .i64 (f 2), .int .i64 (f 3)])), (52, .val (.bool true)), (53, .val (.bool true)), (54, .val (.bool true)), (55, .val (.int .i64 d)), (56, .val (.int .i64 i)), (57, .val (.agg #[.int .i64 (f 0), .int .i64 (f 1), .int .i64 (f 2), .int .i64 (f 3)])), (58, .val (.int .i64 y)), (59, .val (.int .i64 d)), (60, .val (.bool true)), (61, .val (.bool true)), (62, .val (.bool true)), (63, .val (.bool true)), (64, .val (.bool true)), (4, .val (.bool true))]
    (fun W => LiesI W p5 f ∧ TabG W ∧ Below w.heap.size w W) mixedOk (by kernel_rfl) (by kernel_rfl) (⟨HL.out.1.below (Below.refl _ _).drew, HL.out.2.1.below (Below.refl _ _).drew, HL.out.2.2.trans ((Below.refl _ _).drew.mono HL.out.2.2.size)⟩) (fun W W' h hb => ⟨h.1.below hb, h.2.1.below hb, h.2.2.trans (hb.mono h.2.2.size)⟩) ?_ ?_
  · refine gSt (gStep_run rfl (gRun_move 6 44 (.inl rfl) rfl (by decide +kernel) (fun v w h => h))) ?_
    refine gSt (gStep_run rfl (gRun_move 44 45 (.inl rfl) rfl (by decide +kernel) (fun v w h => h))) ?_
    refine gSt (gStep_on 1 45 true rfl rfl (by decide +kernel) (fun v w h => h) (gRun_move 8 46 (.inl rfl) rfl (by decide +kernel) (fun v w h => h))) ?_
    refine gSt (gStep_run rfl (gRun_pickT 45 46 47 _ rfl rfl (by decide +kernel) (by decide +kernel) (fun v w h => h) (fun v w h => h))) ?_
    refine gSt (gStep_run rfl (gRun_move 47 48 (.inl rfl) rfl (by decide +kernel) (fun v w h => h))) ?_
    refine gSt (gStep_on 4 48 true rfl rfl (by decide +kernel) (fun v w h => h) ?_) ?_
    · intro ρ W hC hc hf hL
      have e5 : ρ (.tmp 5) = .pointer (some ⟨p5, 0, none⟩) := hL 5 (by decide +kernel)
      have hl := hC.1.1
      simp [go_sem, hc, hf, e5, hl]
      exact ⟨Below.refl _ _, rfl⟩
    refine gSt (gStep_on 4 48 true rfl rfl (by decide +kernel) (fun v w h => h) (gRun_move 0 50 (.inl rfl) rfl (by decide +kernel) (fun v w h => h))) ?_
    refine gSt (gStep_on 4 48 true rfl rfl (by decide +kernel) (fun v w h => h) ?_) ?_
    · intro ρ W hC hc hf hL
      have e50 : ρ (.tmp 50) = .int .i64 i := hL 50 (by decide +kernel)
      simp [go_sem, hc, hf, e50]
      refine (HRB.out W).mono ?_
      rintro e w' ⟨rfl, hb⟩
      exact ⟨_, rfl, by first | exact hb | (subst hb; exact Below.refl _ _), rfl⟩
    refine gSt (gStep_on 4 48 true rfl rfl (by decide +kernel) (fun v w h => h) ?_) ?_
    · intro ρ W hC hc hf hL
      have e49 : ρ (.tmp 49) = .agg #[.int .i64 (f 0), .int .i64 (f 1), .int .i64 (f 2), .int .i64 (f 3)] := hL 49 (by decide +kernel)
      have e51 : ρ (.tmp 51) = .agg #[.int .i64 (f 0), .int .i64 (f 1), .int .i64 (f 2), .int .i64 (f 3)] := hL 51 (by decide +kernel)
      have hq := HQ.out W
      simp [go_sem, hc, hf, e49, e51, hq]
      exact ⟨Below.refl _ _, rfl⟩
    refine gSt (gStep_run rfl (gRun_pickT 48 52 53 _ rfl rfl (by decide +kernel) (by decide +kernel) (fun v w h => h) (fun v w h => h))) ?_
    refine gSt (gStep_run rfl (gRun_move 53 54 (.inl rfl) rfl (by decide +kernel) (fun v w h => h))) ?_
    refine gSt (gStep_on 10 54 true rfl rfl (by decide +kernel) (fun v w h => h) (gRun_move 7 55 (.inl rfl) rfl (by decide +kernel) (fun v w h => h))) ?_
    refine gSt (gStep_on 10 54 true rfl rfl (by decide +kernel) (fun v w h => h) (gRun_move 0 56 (.inl rfl) rfl (by decide +kernel) (fun v w h => h))) ?_
    refine gSt (gStep_on 10 54 true rfl rfl (by decide +kernel) (fun v w h => h) ?_) ?_
    · intro ρ W hC hc hf hL
      have e56 : ρ (.tmp 56) = .int .i64 i := hL 56 (by decide +kernel)
      simp [go_sem, hc, hf, e56]
      refine (HRB.out W).mono ?_
      rintro e w' ⟨rfl, hb⟩
      exact ⟨_, rfl, by first | exact hb | (subst hb; exact Below.refl _ _), rfl⟩
    refine gSt (gStep_on 10 54 true rfl rfl (by decide +kernel) (fun v w h => h) (gRun_move 1 58 (.inl rfl) rfl (by decide +kernel) (fun v w h => h))) ?_
    refine gSt (gStep_on 10 54 true rfl rfl (by decide +kernel) (fun v w h => h) ?_) ?_
    · intro ρ W hC hc hf hL
      have e57 : ρ (.tmp 57) = .agg #[.int .i64 (f 0), .int .i64 (f 1), .int .i64 (f 2), .int .i64 (f 3)] := hL 57 (by decide +kernel)
      have e58 : ρ (.tmp 58) = .int .i64 y := hL 58 (by decide +kernel)
      simp [go_sem, hc, hf, e57, e58]
      refine (HRD.out W).mono ?_
      rintro e w' ⟨rfl, hb⟩
      exact ⟨_, rfl, by first | exact hb | (subst hb; exact Below.refl _ _), rfl⟩
    refine gSt (gStep_on 10 54 true rfl rfl (by decide +kernel) (fun v w h => h) ?_) ?_
    · intro ρ W hC hc hf hL
      have e55 : ρ (.tmp 55) = .int .i64 d := hL 55 (by decide +kernel)
      have e59 : ρ (.tmp 59) = .int .i64 d := hL 59 (by decide +kernel)
      simp [go_sem, hc, hf, e55, e59]
      exact ⟨Below.refl _ _, rfl⟩
    refine gSt (gStep_run rfl (gRun_pickT 54 60 61 _ rfl rfl (by decide +kernel) (by decide +kernel) (fun v w h => h) (fun v w h => h))) ?_
    refine gSt (gStep_run rfl (gRun_move 61 62 (.inl rfl) rfl (by decide +kernel) (fun v w h => h))) ?_
    refine gSt (gStep_on 18 62 true rfl rfl (by decide +kernel) (fun v w h => h) ?_) ?_
    · intro ρ W hC hc hf hL
      simp [go_sem, hc, hf]
      refine (HAW.out W hC.2.1).mono ?_
      rintro e w' ⟨rfl, hb⟩
      exact ⟨_, rfl, by first | exact hb | (subst hb; exact Below.refl _ _), rfl⟩
    refine gSt (gStep_run rfl (gRun_pickT 62 63 64 _ rfl rfl (by decide +kernel) (by decide +kernel) (fun v w h => h) (fun v w h => h))) ?_
    refine gSt (gStep_run rfl (gRun_move 64 4 (.inr rfl) rfl (by decide +kernel) (fun v w h => h))) ?_
    exact gSt0
  · intro W hC
    refine gFi 44 rfl ?_
    rintro _ rfl
    refine gFi 45 rfl ?_
    rintro _ rfl
    refine gFi 46 rfl ?_
    rintro _ rfl
    refine gFi 47 rfl ?_
    rintro _ rfl
    refine gFi 48 rfl ?_
    rintro _ rfl
    refine gFi 49 rfl ?_
    rintro _ rfl
    refine gFi 50 rfl ?_
    rintro _ rfl
    refine gFi 51 rfl ?_
    rintro _ rfl
    refine gFi 52 rfl ?_
    rintro _ rfl
    refine gFi 53 rfl ?_
    rintro _ rfl
    refine gFi 54 rfl ?_
    rintro _ rfl
    refine gFi 55 rfl ?_
    rintro _ rfl
    refine gFi 56 rfl ?_
    rintro _ rfl
    refine gFi 57 rfl ?_
    rintro _ rfl
    refine gFi 58 rfl ?_
    rintro _ rfl
    refine gFi 59 rfl ?_
    rintro _ rfl
    refine gFi 60 rfl ?_
    rintro _ rfl
    refine gFi 61 rfl ?_
    rintro _ rfl
    refine gFi 62 rfl ?_
    rintro _ rfl
    refine gFi 63 rfl ?_
    rintro _ rfl
    refine gFi 64 rfl ?_
    rintro _ rfl
    refine gFi 4 rfl ?_
    rintro _ rfl
    refine gFi0 ?_
    simp only [List.drop_succ_cons, List.drop_zero, Act.put, List.setIfInBounds_toArray, List.set_cons_succ, List.set_cons_zero]
    have HBE := hide hC.2.2
    clear hC HL
    go_wp2
    go_ret
    exact ⟨rfl, HBE.out⟩
    

theorem tableDigits_any (i y : Int) (w : World) (hg : TabG w) : Calls Tryd.prog 3 #[.int .i64 i, .int .i64 y] w fun e w' => e = .returned (.bool true) ∧ Below w.heap.size w w' := by
  by_cases h : i < 8 ∨ 15 < i
  · exact tableDigits_no i y h (fun w _ => bounds_no i h w) (fun w _ => digit_no i y h w) (fun w hg => awake14_any w hg) w hg
  · refine tableDigits_yes i y (chN (tabN i) y) (tabN i) (by omega) (by omega) (fun w hg => bounds_yes i (by omega) (by omega) w hg) (fun w hg => digit_yes i y (by omega) (by omega) w hg) (fun w => ?_) (fun w => rdigit_any (tabN i) y w) (fun w => four_same (tabN i) w) (fun w hg => awake14_any w hg) w hg
    rw [← row_tab i (by omega) (by omega)]
    exact rbounds_any i (by omega) (by omega) w
end Go.Proofs.YtgnaomgcfliamaaDoor

/- For all ints the law radicandlaw14.TableDigits returns true and leaves what came in as it was. Conditions: those of the tied card (the table of rows is laid as the program lays it). -/
namespace Go.Proofs.YtgnaomgcfliamaaDoor.tableDigits
open Go.ChangeShapes Go.WideShapes Go.ChangeAt Go.RowKit Go.Proofs.YtgnaomgcfliamaaDoor

theorem own : ownKnob Tryd.prog.godebug = none := by kernel_rfl
theorem laidOut : laidOutB Tryd.prog = true := by kernel_rfl

theorem door_met (os : Os) (args : Array Value) : laidMetH Tryd.prog [("radicand/table.rows", Rows.laid_radicand_table_rows)] ((World.doorLaid Tryd.prog 400 os).forCall (fun _ _ => 0) ⟨#[], args, []⟩).memory :=
  laidMetH_of_parts3 (fuel := 8) (laidMet_of_run' 8 (by kernel_rfl) (by kernel_rfl)) (by kernel_rfl) (by kernel_rfl)

set_option maxRecDepth 100000 in
theorem lifted (os : Os) (started : os.Started) (H : Type) (enc : TypeId × Value → H) :
    ReturnsInHanded {} Tryd.checked os 3 .any (fun w args => (Rows.tableDigitsSpec.pre enc Tryd.prog Tryd.f3 [] false w args ∧ laidMetH Tryd.prog [("radicand/table.rows", Rows.laid_radicand_table_rows)] w) ∧ sizedMet enc Tryd.prog Tryd.f3 (OpenSpec.ofChange Rows.tableDigitsSpec) false w args) (Rows.tableDigitsSpec.post enc Tryd.prog Tryd.f3 false true false false) := by
  refine returnsInHanded_of_change_and (C := Tryd.checked) (X := fun w _ => laidMetH Tryd.prog [("radicand/table.rows", Rows.laid_radicand_table_rows)] w) (fun _ _ _ hh h => h.of_heap hh) own started (by kernel_rfl) Tryd.func3
    (ChangeSpec.witness_shaped (enc := enc) (C := Tryd.checked) (os := os) (X := fun w _ => laidMetH Tryd.prog [("radicand/table.rows", Rows.laid_radicand_table_rows)] w) false (World.doorLaid Tryd.prog 400 os) #[.int .i64 0, .int .i64 0] 8 rfl (World.shaped_of_RefB (by kernel_rfl) (by kernel_rfl)) (by kernel_rfl) (by kernel_rfl) (by kernel_rfl) (door_met os _)) ?_
  intro W base args ds gs before hval0 hW _ _ hL _
  have hval : ∀ (j : Nat) t v, Tryd.f3.params[j]? = some t → args[j]? = some v → Value.okWide Tryd.prog W .any base t v := hval0
  have hW' := hW
  obtain ⟨p, q, hA0, hV, rfl, hfz, hnd⟩ := hW
  have hA : DataW.TrodAll enc Tryd.prog W 0 (fun _ => true) true Tryd.f3.params.toList args.toList ds p := hA0
  rw [Tryd.params3] at hA hval
  obtain ⟨v0, vs0, d0, ds0, p0, q0, hargs, rfl, rfl, h0, r0⟩ := trodAll_cons hA
  obtain ⟨v1, vs1, d1, ds1, p1, q1, rfl, rfl, rfl, h1, r1⟩ := trodAll_cons r0
  obtain ⟨rfl, rfl, rfl⟩ := trodAll_nil r1
  obtain rfl : args = #[v0, v1] := by cases args; simp_all
  obtain ⟨rfl, rfl⟩ := trodVars_none hV
  have k0 := h0
  have lt0 : ∀ x ∈ p0, x.block < W.heap.size := by obtain ⟨m, hm⟩ := k0; exact DataW.trod_lt m _ _ _ hm
  have k1 := h1
  have lt1 : ∀ x ∈ p1, x.block < W.heap.size := by obtain ⟨m, hm⟩ := k1; exact DataW.trod_lt m _ _ _ hm
  obtain ⟨a0, rfl, rfl, rfl, wf0⟩ := open_int Tryd.underlying3 (hval 0 3 v0 rfl rfl) h0
  obtain ⟨a1, rfl, rfl, rfl, wf1⟩ := open_int Tryd.underlying3 (hval 1 3 v1 rfl rfl) h1
  clear hA0 hval0
  refine (tableDigits_any a0 a1 W (of_laidT hL)).mono fun e W' ⟨he, bel⟩ => ?_
  subst he
  exact ⟨_, rfl, _, _, _, [], _, [], hW', trodAll_mk1 (shut_bool Tryd.underlying4 _), (trodAll_cons_mk (Below.trod laidOut (by kernel_rfl) (of_decide_eq_true (by kernel_rfl)) k0 bel lt0) (trodAll_cons_mk (Below.trod laidOut (by kernel_rfl) (of_decide_eq_true (by kernel_rfl)) k1 bel lt1) trodAll_mk0)), rfl, bel.frame _, fun h => by cases h⟩

theorem over : Rows.tableDigitsRow.holds Tryd.pinned (OpenSpec.ofChange Rows.tableDigitsSpec) :=
  OpenClaim.holds_of_wide 3 Tryd.f3 rfl rfl rfl rfl rfl rfl rfl ⟨rfl, rfl, rfl, rfl, rfl⟩ rfl rfl rfl rfl rfl (by kernel_rfl) Tryd.func3 (by kernel_rfl)
    (of_decide_eq_true (by kernel_rfl)) (by unfold Func.isWrapper; first | (rw [if_pos (by decide +kernel)]; kernel_rfl) | (rw [if_neg (by decide +kernel)]; exact ⟨rfl, rfl⟩))
    (fun os started H enc _ => lifted os started H enc)

theorem proved : Rows.TableDigitsCardSaid :=
  Claim7.holds_tied_plain_at .later [] [.data] true (true, "90533070d59ca3dca7ee7d7287752f05f0363729b90e157f5fc6aba06ef85e57") false
    over (fun _ h => by cases h) (by kernel_rfl) (fun _ h => by cases h) tableDigits_row_tie rfl ⟨rfl, rfl⟩ (by kernel_rfl) rfl
    (fun f fn hf hfn => by
      obtain rfl : f = 3 := Option.some.inj ((show Tryd.prog.funcNamed "radicand/radicandlaw14.TableDigits" = some 3 by kernel_rfl).symm.trans hf) |>.symm
      obtain rfl : fn = Tryd.f3 := (Option.some.inj (Tryd.func3.symm.trans hfn)).symm
      exact ⟨by kernel_rfl, fun j t ht => by
        rw [Tryd.params3] at ht
        rcases j with _ | j
        · obtain rfl : t = 3 := by simpa using ht.symm
          exact (show Tryd.prog.wantsStandIn 3 = false by kernel_rfl)
        rcases j with _ | j
        · obtain rfl : t = 3 := by simpa using ht.symm
          exact (show Tryd.prog.wantsStandIn 3 = false by kernel_rfl)
        simp at ht⟩)
    (by kernel_rfl)
#print axioms proved
end Go.Proofs.YtgnaomgcfliamaaDoor.tableDigits

