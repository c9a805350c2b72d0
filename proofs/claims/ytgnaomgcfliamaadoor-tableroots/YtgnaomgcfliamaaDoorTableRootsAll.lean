/- For all ints the law radicandlaw14.TableRoots returns true and leaves what came in as it was. Conditions: those of the tied card (the table of rows is laid as the program lays it). -/
import Derived.Test.YtgnaomgcfliamaaDoorPartAO
import Derived.Test.YtgnaomgcfliamaaDoorRows
import Derived.Test.YtgnaomgcfliamaaDoorTie
import Derived.Test.YtgnaomgcfliamaaDoorCards
import Derived.LaidMore
import Derived.Stop.Joined
import Derived.SevenTiedAt
import Derived.WalkKit
import Derived.ProofKit
import Derived.OpenShut
import Derived.ShutString
import Derived.ChangeOld
import Derived.Below
/- For all ints the law radicandlaw14.TableRoots returns true. -/
set_option linter.unusedVariables false
set_option linter.unusedSimpArgs false
set_option maxRecDepth 8000
namespace Go.Proofs.YtgnaomgcfliamaaDoor
open Go.RowKit Plain

set_option maxHeartbeats 2000000 in
theorem tableRoots_no (j s y : Int) (hi : j < 0 ∨ s < 28 ∨ 64 < s)
    (HBD : Hid (∀ w, Calls Tryd.prog 12 #[.int .i64 j, .int .i64 s] w fun e w' => e = .returned (.tuple #[.agg #[.int .i64 0, .int .i64 0, .int .i64 0, .int .i64 0], .bool false]) ∧ Below w.heap.size w w'))
    (HDG : Hid (∀ w, Calls Tryd.prog 13 #[.int .i64 j, .int .i64 s, .int .i64 y] w fun e w' => e = .returned (.tuple #[.int .i64 0, .bool false]) ∧ Below w.heap.size w w')) (HAW : Hid (∀ w, TabG w → Calls Tryd.prog 9 #[] w fun e w' => e = .returned (.bool true) ∧ Below w.heap.size w w')) (w : World) (hg : TabG w) :
    Calls Tryd.prog 4 #[.int .i64 j, .int .i64 s, .int .i64 y] w fun e w' => e = .returned (.bool true) ∧ Below w.heap.size w w' := by
  have hq : ∀ w, (Op.equalIn 10000 22 (.agg #[.int .i64 0, .int .i64 0, .int .i64 0, .int .i64 0]) (.agg #[.int .i64 0, .int .i64 0, .int .i64 0, .int .i64 0])).run Tryd.prog w = .ok true w := fun w => four_same (fun _ => 0) w
  have HI := hide hi
  clear hi
  have HG := hide hg
  clear hg
  go_enter Tryd.func4, Tryd.ntmps4
  go_wp2_with fail
  refine (HBD.out _).mono ?_
  rintro e w1 ⟨rfl, hb1⟩
  go_upto_region 2 with fail
  have hbw := belowT_allocs w1 (.cells #[.int .i64 0, .int .i64 0, .int .i64 0, .int .i64 0] 22)
  refine wp_gen (fun W => LiesI W w1.heap.size (fun _ => 0) ∧ TabG W ∧ Below w.heap.size w W) ⟨liesI_new w1 (fun _ => 0) _, (HG.out.below hb1).below hbw, hb1.trans (hbw.mono hb1.size)⟩ ?_
  clear hb1 HBD HG hbw
  generalize w1.heap.size = p5 at *
  rintro W2 h2
  have HL := hide h2
  clear h2
  go_wp2_with fail
  refine (HDG.out _).mono ?_
  rintro e w3 ⟨rfl, hb3⟩
  replace HL := hide (show LiesI w3 p5 (fun _ => 0) ∧ TabG w3 ∧ Below w.heap.size w w3 from ⟨HL.out.1.below hb3, HL.out.2.1.below hb3, HL.out.2.2.trans (hb3.mono HL.out.2.2.size)⟩)
  clear hb3 HDG
  have hl := HL.out.1.1
  by_cases hj : j < 0
  · go_wp2_with fail
    refine (HAW.out _ HL.out.2.1).mono ?_
    rintro e w4 ⟨rfl, hb4⟩
    have HB := hide (HL.out.2.2.trans (hb4.mono HL.out.2.2.size))
    clear hb4 HL hl
    go_wp2
    go_ret
    exact ⟨rfl, HB.out⟩
  · by_cases hs : s < 28
    · go_wp2_with fail
      refine (HAW.out _ HL.out.2.1).mono ?_
      rintro e w4 ⟨rfl, hb4⟩
      have HB := hide (HL.out.2.2.trans (hb4.mono HL.out.2.2.size))
      clear hb4 HL hl
      go_wp2
      go_ret
      exact ⟨rfl, HB.out⟩
    · have hs2 : 64 < s := by have := HI.out; omega
      go_wp2_with fail
      refine (HAW.out _ HL.out.2.1).mono ?_
      rintro e w4 ⟨rfl, hb4⟩
      have HB := hide (HL.out.2.2.trans (hb4.mono HL.out.2.2.size))
      clear hb4 HL hl
      go_wp2
      go_ret
      exact ⟨rfl, HB.out⟩

set_option maxHeartbeats 2000000 in
theorem tableRoots_yes (j s y d : Int) (f : Nat → Int) (h0 : 0 ≤ j) (h1 : 28 ≤ s) (h2 : s ≤ 64)
    (HBD : Hid (∀ w, Calls Tryd.prog 12 #[.int .i64 j, .int .i64 s] w fun e w' => e = .returned (.tuple #[.agg #[.int .i64 (f 0), .int .i64 (f 1), .int .i64 (f 2), .int .i64 (f 3)], .bool true]) ∧ Below w.heap.size w w'))
    (HDG : Hid (∀ w, Calls Tryd.prog 13 #[.int .i64 j, .int .i64 s, .int .i64 y] w fun e w' => e = .returned (.tuple #[.int .i64 d, .bool true]) ∧ Below w.heap.size w w'))
    (HRB : Hid (∀ w, Calls Tryd.prog 14 #[.int .i64 j, .int .i64 s] w fun e w' => e = .returned (.agg #[.int .i64 (f 0), .int .i64 (f 1), .int .i64 (f 2), .int .i64 (f 3)]) ∧ Below w.heap.size w w'))
    (HRD : Hid (∀ w, Calls Tryd.prog 11 #[.agg #[.int .i64 (f 0), .int .i64 (f 1), .int .i64 (f 2), .int .i64 (f 3)], .int .i64 y] w fun e w' => e = .returned (.int .i64 d) ∧ Below w.heap.size w w'))
    (HQ : Hid (∀ w, (Op.equalIn 10000 22 (.agg #[.int .i64 (f 0), .int .i64 (f 1), .int .i64 (f 2), .int .i64 (f 3)]) (.agg #[.int .i64 (f 0), .int .i64 (f 1), .int .i64 (f 2), .int .i64 (f 3)])).run Tryd.prog w = .ok true w)) (HAW : Hid (∀ w, TabG w → Calls Tryd.prog 9 #[] w fun e w' => e = .returned (.bool true) ∧ Below w.heap.size w w')) (w : World) (hg : TabG w) :
    Calls Tryd.prog 4 #[.int .i64 j, .int .i64 s, .int .i64 y] w fun e w' => e = .returned (.bool true) ∧ Below w.heap.size w w' := by
  have hi0 : ¬ j < 0 := by omega
  have hi1 : ¬ s < 28 := by omega
  have hi2 : ¬ 64 < s := by omega
  have HG := hide hg
  clear hg
  go_enter Tryd.func4, Tryd.ntmps4
  go_wp2_with fail
  refine (HBD.out _).mono ?_
  rintro e w1 ⟨rfl, hb1⟩
  go_upto_region 2 with fail
  have hbw := belowT_allocs w1 (.cells #[.int .i64 (f 0), .int .i64 (f 1), .int .i64 (f 2), .int .i64 (f 3)] 22)
  refine wp_gen (fun W => LiesI W w1.heap.size (f) ∧ TabG W ∧ Below w.heap.size w W) ⟨liesI_new w1 (f) _, (HG.out.below hb1).below hbw, hb1.trans (hbw.mono hb1.size)⟩ ?_
  clear hb1 HBD HG hbw
  generalize w1.heap.size = p5 at *
  rintro W2 h2
  have HL := hide h2
  clear h2
  go_wp2_with fail
  refine (HDG.out _).mono ?_
  rintro e w3 ⟨rfl, hb3⟩
  replace HL := hide (show LiesI w3 p5 (f) ∧ TabG w3 ∧ Below w.heap.size w w3 from ⟨HL.out.1.below hb3, HL.out.2.1.below hb3, HL.out.2.2.trans (hb3.mono HL.out.2.2.size)⟩)
  clear hb3 HDG
  go_upto_region 5 with fail
  refine wp_region_grow 24 [(52, .val (.bool true)), (53, .val (.bool true)), (54, .val (.bool true)), (55, .val (.bool true)), (56, .val (.bool true)), (57, .val (.agg #[.int .i64 (f 0), .int .i64 (f 1), .int .i64 (f 2), .int .i64 (f 3)])), (58, .val (.int .i64 j)), (59, .val (.int .i64 s)), (60, .val (.agg #[.int .i64 (f 0), .int .i64 (f 1), .int .i64 (f 2), .int .i64 (f 3)])), (61, .val (.bool true)), (62, .val (.bool true)), (63, .val (.bool true)), (64, .val (.int .i64 d)), (65, .val (.int .i64 j)), (66, .val (.int .i64 s)), (67, .val (.agg #[.int .i64 (f 0), .int .i64 (f 1), .int .i64 (f 2), .int .i64 (f 3)])), (68, .val (.int .i64 y)), (69, .val (.int .i64 d)), (70, .val (.bool true)), (71, .val (.bool true)), (72, .val (.bool true)), (73, .val (.bool true)), (74, .val (.bool true)), (6, .val (.bool true))]
    (fun W => LiesI W p5 f ∧ TabG W ∧ Below w.heap.size w W) mixedOk (by kernel_rfl) (by kernel_rfl) (⟨HL.out.1.below (Below.refl _ _).drew, HL.out.2.1.below (Below.refl _ _).drew, HL.out.2.2.trans ((Below.refl _ _).drew.mono HL.out.2.2.size)⟩) (fun W W' h hb => ⟨h.1.below hb, h.2.1.below hb, h.2.2.trans (hb.mono h.2.2.size)⟩) ?_ ?_
  · refine gSt (gStep_run rfl (gRun_move 8 52 (.inl rfl) rfl (by decide +kernel) (fun v w h => h))) ?_
    refine gSt (gStep_run rfl (gRun_move 52 53 (.inl rfl) rfl (by decide +kernel) (fun v w h => h))) ?_
    refine gSt (gStep_on 1 53 true rfl rfl (by decide +kernel) (fun v w h => h) (gRun_move 10 54 (.inl rfl) rfl (by decide +kernel) (fun v w h => h))) ?_
    refine gSt (gStep_run rfl (gRun_pickT 53 54 55 _ rfl rfl (by decide +kernel) (by decide +kernel) (fun v w h => h) (fun v w h => h))) ?_
    refine gSt (gStep_run rfl (gRun_move 55 56 (.inl rfl) rfl (by decide +kernel) (fun v w h => h))) ?_
    refine gSt (gStep_on 4 56 true rfl rfl (by decide +kernel) (fun v w h => h) ?_) ?_
    · intro ρ W hC hc hf hL
      have e7 : ρ (.tmp 7) = .pointer (some ⟨p5, 0, none⟩) := hL 7 (by decide +kernel)
      have hl := hC.1.1
      simp [go_sem, hc, hf, e7, hl]
      exact ⟨Below.refl _ _, rfl⟩
    refine gSt (gStep_on 4 56 true rfl rfl (by decide +kernel) (fun v w h => h) (gRun_move 0 58 (.inl rfl) rfl (by decide +kernel) (fun v w h => h))) ?_
    refine gSt (gStep_on 4 56 true rfl rfl (by decide +kernel) (fun v w h => h) (gRun_move 1 59 (.inl rfl) rfl (by decide +kernel) (fun v w h => h))) ?_
    refine gSt (gStep_on 4 56 true rfl rfl (by decide +kernel) (fun v w h => h) ?_) ?_
    · intro ρ W hC hc hf hL
      have e58 : ρ (.tmp 58) = .int .i64 j := hL 58 (by decide +kernel)
      have e59 : ρ (.tmp 59) = .int .i64 s := hL 59 (by decide +kernel)
      simp [go_sem, hc, hf, e58, e59]
      refine (HRB.out W).mono ?_
      rintro e w' ⟨rfl, hb⟩
      exact ⟨_, rfl, by first | exact hb | (subst hb; exact Below.refl _ _), rfl⟩
    refine gSt (gStep_on 4 56 true rfl rfl (by decide +kernel) (fun v w h => h) ?_) ?_
    · intro ρ W hC hc hf hL
      have e57 : ρ (.tmp 57) = .agg #[.int .i64 (f 0), .int .i64 (f 1), .int .i64 (f 2), .int .i64 (f 3)] := hL 57 (by decide +kernel)
      have e60 : ρ (.tmp 60) = .agg #[.int .i64 (f 0), .int .i64 (f 1), .int .i64 (f 2), .int .i64 (f 3)] := hL 60 (by decide +kernel)
      have hq := HQ.out W
      simp [go_sem, hc, hf, e57, e60, hq]
      exact ⟨Below.refl _ _, rfl⟩
    refine gSt (gStep_run rfl (gRun_pickT 56 61 62 _ rfl rfl (by decide +kernel) (by decide +kernel) (fun v w h => h) (fun v w h => h))) ?_
    refine gSt (gStep_run rfl (gRun_move 62 63 (.inl rfl) rfl (by decide +kernel) (fun v w h => h))) ?_
    refine gSt (gStep_on 11 63 true rfl rfl (by decide +kernel) (fun v w h => h) (gRun_move 9 64 (.inl rfl) rfl (by decide +kernel) (fun v w h => h))) ?_
    refine gSt (gStep_on 11 63 true rfl rfl (by decide +kernel) (fun v w h => h) (gRun_move 0 65 (.inl rfl) rfl (by decide +kernel) (fun v w h => h))) ?_
    refine gSt (gStep_on 11 63 true rfl rfl (by decide +kernel) (fun v w h => h) (gRun_move 1 66 (.inl rfl) rfl (by decide +kernel) (fun v w h => h))) ?_
    refine gSt (gStep_on 11 63 true rfl rfl (by decide +kernel) (fun v w h => h) ?_) ?_
    · intro ρ W hC hc hf hL
      have e65 : ρ (.tmp 65) = .int .i64 j := hL 65 (by decide +kernel)
      have e66 : ρ (.tmp 66) = .int .i64 s := hL 66 (by decide +kernel)
      simp [go_sem, hc, hf, e65, e66]
      refine (HRB.out W).mono ?_
      rintro e w' ⟨rfl, hb⟩
      exact ⟨_, rfl, by first | exact hb | (subst hb; exact Below.refl _ _), rfl⟩
    refine gSt (gStep_on 11 63 true rfl rfl (by decide +kernel) (fun v w h => h) (gRun_move 2 68 (.inl rfl) rfl (by decide +kernel) (fun v w h => h))) ?_
    refine gSt (gStep_on 11 63 true rfl rfl (by decide +kernel) (fun v w h => h) ?_) ?_
    · intro ρ W hC hc hf hL
      have e67 : ρ (.tmp 67) = .agg #[.int .i64 (f 0), .int .i64 (f 1), .int .i64 (f 2), .int .i64 (f 3)] := hL 67 (by decide +kernel)
      have e68 : ρ (.tmp 68) = .int .i64 y := hL 68 (by decide +kernel)
      simp [go_sem, hc, hf, e67, e68]
      refine (HRD.out W).mono ?_
      rintro e w' ⟨rfl, hb⟩
      exact ⟨_, rfl, by first | exact hb | (subst hb; exact Below.refl _ _), rfl⟩
    refine gSt (gStep_on 11 63 true rfl rfl (by decide +kernel) (fun v w h => h) ?_) ?_
    · intro ρ W hC hc hf hL
      have e64 : ρ (.tmp 64) = .int .i64 d := hL 64 (by decide +kernel)
      have e69 : ρ (.tmp 69) = .int .i64 d := hL 69 (by decide +kernel)
      simp [go_sem, hc, hf, e64, e69]
      exact ⟨Below.refl _ _, rfl⟩
    refine gSt (gStep_run rfl (gRun_pickT 63 70 71 _ rfl rfl (by decide +kernel) (by decide +kernel) (fun v w h => h) (fun v w h => h))) ?_
    refine gSt (gStep_run rfl (gRun_move 71 72 (.inl rfl) rfl (by decide +kernel) (fun v w h => h))) ?_
    refine gSt (gStep_on 20 72 true rfl rfl (by decide +kernel) (fun v w h => h) ?_) ?_
    · intro ρ W hC hc hf hL
      simp [go_sem, hc, hf]
      refine (HAW.out W hC.2.1).mono ?_
      rintro e w' ⟨rfl, hb⟩
      exact ⟨_, rfl, by first | exact hb | (subst hb; exact Below.refl _ _), rfl⟩
    refine gSt (gStep_run rfl (gRun_pickT 72 73 74 _ rfl rfl (by decide +kernel) (by decide +kernel) (fun v w h => h) (fun v w h => h))) ?_
    refine gSt (gStep_run rfl (gRun_move 74 6 (.inr rfl) rfl (by decide +kernel) (fun v w h => h))) ?_
    exact gSt0
  · intro W hC
    refine gFi 52 rfl ?_
    rintro _ rfl
    refine gFi 53 rfl ?_
    rintro _ rfl
    refine gFi 54 rfl ?_
    rintro _ rfl
    refine gFi 55 rfl ?_
    rintro _ rfl
    refine gFi 56 rfl ?_
    rintro _ rfl
    refine gFi 57 rfl ?_
    rintro _ rfl
    refine gFi 58 rfl ?_
    rintro _ rfl
    refine gFi 59 rfl ?_
    rintro _ rfl
    refine gFi 60 rfl ?_
    rintro _ rfl
    refine gFi 61 rfl ?_
    rintro _ rfl
    refine gFi 62 rfl ?_
    rintro _ rfl
    refine gFi 63 rfl ?_
    rintro _ rfl
    refine gFi 64 rfl ?_
    rintro _ rfl
    refine gFi 65 rfl ?_
    rintro _ rfl
    refine gFi 66 rfl ?_
    rintro _ rfl
    refine gFi 67 rfl ?_
    rintro _ rfl
    refine gFi 68 rfl ?_
    rintro _ rfl
    refine gFi 69 rfl ?_
    rintro _ rfl
    refine gFi 70 rfl ?_
    rintro _ rfl
    refine gFi 71 rfl ?_
    rintro _ rfl
    refine gFi 72 rfl ?_
    rintro _ rfl
    refine gFi 73 rfl ?_
    rintro _ rfl
    refine gFi 74 rfl ?_
    rintro _ rfl
    refine gFi 6 rfl ?_
    rintro _ rfl
    refine gFi0 ?_
    simp only [List.drop_succ_cons, List.drop_zero, Act.put, List.setIfInBounds_toArray, List.set_cons_succ, List.set_cons_zero]
    have HBE := hide hC.2.2
    clear hC HL
    go_wp2
    go_ret
    exact ⟨rfl, HBE.out⟩
    

theorem tableRoots_any (j s y : Int) (hj : j ≤ 9223372036854775807) (w : World) (hg : TabG w) : Calls Tryd.prog 4 #[.int .i64 j, .int .i64 s, .int .i64 y] w fun e w' => e = .returned (.bool true) ∧ Below w.heap.size w w' := by
  by_cases h : j < 0 ∨ s < 28 ∨ 64 < s
  · exact tableRoots_no j s y h (fun w => rootB_no j s h w) (fun w => rootD_no j s y h w) (fun w hg => awake14_any w hg) w hg
  · obtain ⟨m, rfl⟩ : ∃ m : Nat, j = (m : Int) := ⟨j.toNat, by omega⟩
    exact tableRoots_yes m s y (chN (rbN m s) y) (rbN m s) (by omega) (by omega) (by omega) (fun w => rootB_yes m s (by omega) (by omega) w) (fun w => rootD_yes m s y (by omega) (by omega) w) (fun w => rrootB_any m s (by omega) (by omega) (by omega) w) (fun w => rdigit_any (rbN m s) y w) (fun w => four_same (rbN m s) w) (fun w hg => awake14_any w hg) w hg
end Go.Proofs.YtgnaomgcfliamaaDoor

/- For all ints the law radicandlaw14.TableRoots returns true and leaves what came in as it was. Conditions: those of the tied card (the table of rows is laid as the program lays it). -/
namespace Go.Proofs.YtgnaomgcfliamaaDoor.tableRoots
open Go.ChangeShapes Go.WideShapes Go.ChangeAt Go.RowKit Go.Proofs.YtgnaomgcfliamaaDoor

theorem own : ownKnob Tryd.prog.godebug = none := by kernel_rfl
theorem laidOut : laidOutB Tryd.prog = true := by kernel_rfl

theorem door_met (os : Os) (args : Array Value) : laidMetH Tryd.prog [("radicand/table.rows", Rows.laid_radicand_table_rows)] ((World.doorLaid Tryd.prog 400 os).forCall (fun _ _ => 0) ⟨#[], args, []⟩).memory :=
  laidMetH_of_parts3 (fuel := 8) (laidMet_of_run' 8 (by kernel_rfl) (by kernel_rfl)) (by kernel_rfl) (by kernel_rfl)

set_option maxRecDepth 100000 in
theorem lifted (os : Os) (started : os.Started) (H : Type) (enc : TypeId × Value → H) :
    ReturnsInHanded {} Tryd.checked os 4 .any (fun w args => (Rows.tableRootsSpec.pre enc Tryd.prog Tryd.f4 [] false w args ∧ laidMetH Tryd.prog [("radicand/table.rows", Rows.laid_radicand_table_rows)] w) ∧ sizedMet enc Tryd.prog Tryd.f4 (OpenSpec.ofChange Rows.tableRootsSpec) false w args) (Rows.tableRootsSpec.post enc Tryd.prog Tryd.f4 false true false false) := by
  refine returnsInHanded_of_change_and (C := Tryd.checked) (X := fun w _ => laidMetH Tryd.prog [("radicand/table.rows", Rows.laid_radicand_table_rows)] w) (fun _ _ _ hh h => h.of_heap hh) own started (by kernel_rfl) Tryd.func4
    (ChangeSpec.witness_shaped (enc := enc) (C := Tryd.checked) (os := os) (X := fun w _ => laidMetH Tryd.prog [("radicand/table.rows", Rows.laid_radicand_table_rows)] w) false (World.doorLaid Tryd.prog 400 os) #[.int .i64 0, .int .i64 0, .int .i64 0] 8 rfl (World.shaped_of_RefB (by kernel_rfl) (by kernel_rfl)) (by kernel_rfl) (by kernel_rfl) (by kernel_rfl) (door_met os _)) ?_
  intro W base args ds gs before hval0 hW _ _ hL _
  have hval : ∀ (j : Nat) t v, Tryd.f4.params[j]? = some t → args[j]? = some v → Value.okWide Tryd.prog W .any base t v := hval0
  have hW' := hW
  obtain ⟨p, q, hA0, hV, rfl, hfz, hnd⟩ := hW
  have hA : DataW.TrodAll enc Tryd.prog W 0 (fun _ => true) true Tryd.f4.params.toList args.toList ds p := hA0
  rw [Tryd.params4] at hA hval
  obtain ⟨v0, vs0, d0, ds0, p0, q0, hargs, rfl, rfl, h0, r0⟩ := trodAll_cons hA
  obtain ⟨v1, vs1, d1, ds1, p1, q1, rfl, rfl, rfl, h1, r1⟩ := trodAll_cons r0
  obtain ⟨v2, vs2, d2, ds2, p2, q2, rfl, rfl, rfl, h2, r2⟩ := trodAll_cons r1
  obtain ⟨rfl, rfl, rfl⟩ := trodAll_nil r2
  obtain rfl : args = #[v0, v1, v2] := by cases args; simp_all
  obtain ⟨rfl, rfl⟩ := trodVars_none hV
  have k0 := h0
  have lt0 : ∀ x ∈ p0, x.block < W.heap.size := by obtain ⟨m, hm⟩ := k0; exact DataW.trod_lt m _ _ _ hm
  have k1 := h1
  have lt1 : ∀ x ∈ p1, x.block < W.heap.size := by obtain ⟨m, hm⟩ := k1; exact DataW.trod_lt m _ _ _ hm
  have k2 := h2
  have lt2 : ∀ x ∈ p2, x.block < W.heap.size := by obtain ⟨m, hm⟩ := k2; exact DataW.trod_lt m _ _ _ hm
  obtain ⟨a0, rfl, rfl, rfl, wf0⟩ := open_int Tryd.underlying3 (hval 0 3 v0 rfl rfl) h0
  obtain ⟨a1, rfl, rfl, rfl, wf1⟩ := open_int Tryd.underlying3 (hval 1 3 v1 rfl rfl) h1
  obtain ⟨a2, rfl, rfl, rfl, wf2⟩ := open_int Tryd.underlying3 (hval 2 3 v2 rfl rfl) h2
  clear hA0 hval0
  refine (tableRoots_any a0 a1 a2 (i64_bd wf0).2 W (of_laidT hL)).mono fun e W' ⟨he, bel⟩ => ?_
  subst he
  exact ⟨_, rfl, _, _, _, [], _, [], hW', trodAll_mk1 (shut_bool Tryd.underlying4 _), (trodAll_cons_mk (Below.trod laidOut (by kernel_rfl) (of_decide_eq_true (by kernel_rfl)) k0 bel lt0) (trodAll_cons_mk (Below.trod laidOut (by kernel_rfl) (of_decide_eq_true (by kernel_rfl)) k1 bel lt1) (trodAll_cons_mk (Below.trod laidOut (by kernel_rfl) (of_decide_eq_true (by kernel_rfl)) k2 bel lt2) trodAll_mk0))), rfl, bel.frame _, fun h => by cases h⟩

theorem over : Rows.tableRootsRow.holds Tryd.pinned (OpenSpec.ofChange Rows.tableRootsSpec) :=
  OpenClaim.holds_of_wide 4 Tryd.f4 rfl rfl rfl rfl rfl rfl rfl ⟨rfl, rfl, rfl, rfl, rfl⟩ rfl rfl rfl rfl rfl (by kernel_rfl) Tryd.func4 (by kernel_rfl)
    (of_decide_eq_true (by kernel_rfl)) (by unfold Func.isWrapper; first | (rw [if_pos (by decide +kernel)]; kernel_rfl) | (rw [if_neg (by decide +kernel)]; exact ⟨rfl, rfl⟩))
    (fun os started H enc _ => lifted os started H enc)

theorem proved : Rows.TableRootsCardSaid :=
  Claim7.holds_tied_plain_at .later [] [.data] true (true, "90533070d59ca3dca7ee7d7287752f05f0363729b90e157f5fc6aba06ef85e57") false
    over (fun _ h => by cases h) (by kernel_rfl) (fun _ h => by cases h) tableRoots_row_tie rfl ⟨rfl, rfl⟩ (by kernel_rfl) rfl
    (fun f fn hf hfn => by
      obtain rfl : f = 4 := Option.some.inj ((show Tryd.prog.funcNamed "radicand/radicandlaw14.TableRoots" = some 4 by kernel_rfl).symm.trans hf) |>.symm
      obtain rfl : fn = Tryd.f4 := (Option.some.inj (Tryd.func4.symm.trans hfn)).symm
      exact ⟨by kernel_rfl, fun j t ht => by
        rw [Tryd.params4] at ht
        rcases j with _ | j
        · obtain rfl : t = 3 := by simpa using ht.symm
          exact (show Tryd.prog.wantsStandIn 3 = false by kernel_rfl)
        rcases j with _ | j
        · obtain rfl : t = 3 := by simpa using ht.symm
          exact (show Tryd.prog.wantsStandIn 3 = false by kernel_rfl)
        rcases j with _ | j
        · obtain rfl : t = 3 := by simpa using ht.symm
          exact (show Tryd.prog.wantsStandIn 3 = false by kernel_rfl)
        simp at ht⟩)
    (by kernel_rfl)
#print axioms proved
end Go.Proofs.YtgnaomgcfliamaaDoor.tableRoots

