/- For all wides and ints the law radicandlaw18.FixTimes returns true and leaves what came in as it was. No condition. -/
import Derived.Test.YteocibahclpegaaPartAS
import Derived.Test.YteocibahclpegaaPartAQ
import Derived.Test.YteocibahclpegaaRows
import Derived.WalkKit
import Derived.ProofKit
import Derived.OpenShut
import Derived.ShutString
import Derived.ChangeOld
import Derived.Below
/- Contracts: the law FixTimes, walked. -/
set_option linter.unusedVariables false
set_option linter.unusedSimpArgs false
set_option maxRecDepth 8000
namespace Go.Proofs.Yteocibahclpegaa
open Go.RowKit Plain

set_option maxHeartbeats 4000000 in
theorem fixTimes_Y (a b m0 k p T0 pw s l x : Nat) (n m : Int) (t t2 z : Bool) (w : World) (HK : Hid ((k : Int) = min (max n 0) 1100)) (hn1 : decide (-1 ≤ n) = true) (hn2 : decide (n ≤ 510) = true) (HM : Hid (IntKind.i64.wrap (n + 1) = m))
    (HBA : Hid (∀ w, Calls Try.prog 19 #[.agg #[.int .u64 (dgl (a) 0 : Nat), .int .u64 (dgl (a) 1 : Nat), .int .u64 (dgl (a) 2 : Nat), .int .u64 (dgl (a) 3 : Nat), .int .u64 (dgl (a) 4 : Nat), .int .u64 (dgl (a) 5 : Nat), .int .u64 (dgl (a) 6 : Nat), .int .u64 (dgl (a) 7 : Nat)]] w fun e w' => ∃ v, e = .returned v ∧ BigV w' v a 40 ∧ Below w.heap.size w w'))
    (HBB : Hid (∀ w, Calls Try.prog 19 #[.agg #[.int .u64 (dgl (b) 0 : Nat), .int .u64 (dgl (b) 1 : Nat), .int .u64 (dgl (b) 2 : Nat), .int .u64 (dgl (b) 3 : Nat), .int .u64 (dgl (b) 4 : Nat), .int .u64 (dgl (b) 5 : Nat), .int .u64 (dgl (b) 6 : Nat), .int .u64 (dgl (b) 7 : Nat)]] w fun e w' => ∃ v, e = .returned v ∧ BigV w' v b 40 ∧ Below w.heap.size w w'))
    (HMU : Hid (∀ u v w, BigV w u a 40 → BigV w v b 40 → Calls Try.prog 17 #[u, v] w fun e w' => ∃ v, e = .returned v ∧ BigV w' v m0 80 ∧ Below w.heap.size w w'))
    (HSH : Hid (∀ u w, BigV w u m0 80 → Calls Try.prog 35 #[u, .int .i64 (k : Nat)] w fun e w' => ∃ v, e = .returned v ∧ BigV w' v p 80 ∧ Below w.heap.size w w'))
    (HWP : Hid (∀ u w, BigV w u p 80 → Calls Try.prog 34 #[u] w fun e w' => e = .returned (.tuple #[.agg #[.int .u64 (dgl (p) 0 : Nat), .int .u64 (dgl (p) 1 : Nat), .int .u64 (dgl (p) 2 : Nat), .int .u64 (dgl (p) 3 : Nat), .int .u64 (dgl (p) 4 : Nat), .int .u64 (dgl (p) 5 : Nat), .int .u64 (dgl (p) 6 : Nat), .int .u64 (dgl (p) 7 : Nat)], .bool t]) ∧ Below w.heap.size w w'))
    (HWH : Hid (∀ w, Calls Try.prog 36 #[] w fun e w' => ∃ v, e = .returned v ∧ BigV w' v T0 19 ∧ Below w.heap.size w w'))
    (HPW : Hid (∀ w, Calls Try.prog 38 #[.int .i64 m] w fun e w' => ∃ v, e = .returned v ∧ BigV w' v pw 19 ∧ Below w.heap.size w w'))
    (HAD : Hid (∀ u v w, BigV w u T0 19 → BigV w v pw 19 → Calls Try.prog 37 #[u, v] w fun e w' => ∃ v, e = .returned v ∧ BigV w' v s 20 ∧ Below w.heap.size w w'))
    (HSB : Hid (∀ u v w, BigV w u s 20 → BigV w v a 40 → Calls Try.prog 39 #[u, v] w fun e w' => ∃ v, e = .returned v ∧ BigV w' v l 20 ∧ Below w.heap.size w w'))
    (HWL : Hid (∀ u w, BigV w u l 20 → Calls Try.prog 34 #[u] w fun e w' => e = .returned (.tuple #[.agg #[.int .u64 (dgl (l) 0 : Nat), .int .u64 (dgl (l) 1 : Nat), .int .u64 (dgl (l) 2 : Nat), .int .u64 (dgl (l) 3 : Nat), .int .u64 (dgl (l) 4 : Nat), .int .u64 (dgl (l) 5 : Nat), .int .u64 (dgl (l) 6 : Nat), .int .u64 (dgl (l) 7 : Nat)], .bool t2]) ∧ Below w.heap.size w w'))
    (HTI : Hid (∀ w, Calls Try.prog 40 #[.agg #[.int .u64 (dgl (a) 0 : Nat), .int .u64 (dgl (a) 1 : Nat), .int .u64 (dgl (a) 2 : Nat), .int .u64 (dgl (a) 3 : Nat), .int .u64 (dgl (a) 4 : Nat), .int .u64 (dgl (a) 5 : Nat), .int .u64 (dgl (a) 6 : Nat), .int .u64 (dgl (a) 7 : Nat)], .agg #[.int .u64 (dgl (b) 0 : Nat), .int .u64 (dgl (b) 1 : Nat), .int .u64 (dgl (b) 2 : Nat), .int .u64 (dgl (b) 3 : Nat), .int .u64 (dgl (b) 4 : Nat), .int .u64 (dgl (b) 5 : Nat), .int .u64 (dgl (b) 6 : Nat), .int .u64 (dgl (b) 7 : Nat)], .int .i64 n] w fun e w' => e = .returned (.agg #[.int .u64 (dgl (p) 0 : Nat), .int .u64 (dgl (p) 1 : Nat), .int .u64 (dgl (p) 2 : Nat), .int .u64 (dgl (p) 3 : Nat), .int .u64 (dgl (p) 4 : Nat), .int .u64 (dgl (p) 5 : Nat), .int .u64 (dgl (p) 6 : Nat), .int .u64 (dgl (p) 7 : Nat)]) ∧ Below w.heap.size w w'))
    (HTW : Hid (∀ w, Calls Try.prog 41 #[.int .i64 n, .agg #[.int .u64 (dgl (a) 0 : Nat), .int .u64 (dgl (a) 1 : Nat), .int .u64 (dgl (a) 2 : Nat), .int .u64 (dgl (a) 3 : Nat), .int .u64 (dgl (a) 4 : Nat), .int .u64 (dgl (a) 5 : Nat), .int .u64 (dgl (a) 6 : Nat), .int .u64 (dgl (a) 7 : Nat)]] w fun e w' => e = .returned (.agg #[.int .u64 (dgl (l) 0 : Nat), .int .u64 (dgl (l) 1 : Nat), .int .u64 (dgl (l) 2 : Nat), .int .u64 (dgl (l) 3 : Nat), .int .u64 (dgl (l) 4 : Nat), .int .u64 (dgl (l) 5 : Nat), .int .u64 (dgl (l) 6 : Nat), .int .u64 (dgl (l) 7 : Nat)]) ∧ Below w.heap.size w w'))
    (HNE : Hid (∀ w, Calls Try.prog 42 #[.agg #[.int .u64 (dgl (a) 0 : Nat), .int .u64 (dgl (a) 1 : Nat), .int .u64 (dgl (a) 2 : Nat), .int .u64 (dgl (a) 3 : Nat), .int .u64 (dgl (a) 4 : Nat), .int .u64 (dgl (a) 5 : Nat), .int .u64 (dgl (a) 6 : Nat), .int .u64 (dgl (a) 7 : Nat)], .agg #[.int .u64 (dgl (b) 0 : Nat), .int .u64 (dgl (b) 1 : Nat), .int .u64 (dgl (b) 2 : Nat), .int .u64 (dgl (b) 3 : Nat), .int .u64 (dgl (b) 4 : Nat), .int .u64 (dgl (b) 5 : Nat), .int .u64 (dgl (b) 6 : Nat), .int .u64 (dgl (b) 7 : Nat)], .int .i64 n] w fun e w' => e = .returned (.bool z) ∧ Below w.heap.size w w'))
    (HAW : Hid (∀ u v w, BigV w u a 40 → BigV w v b 40 → Calls Try.prog 29 #[u, v] w fun e w' => ∃ v, e = .returned v ∧ BigV w' v x 40 ∧ Below w.heap.size w w'))
    (HWI : Hid (∀ u w, BigV w u x 40 → Calls Try.prog 30 #[u, .int .i64 n] w fun e w' => e = .returned (.bool z) ∧ Below w.heap.size w w'))
    (HN0 : Hid (∀ w, Calls Try.prog 42 #[.agg #[.int .u64 (dgl (a) 0 : Nat), .int .u64 (dgl (a) 1 : Nat), .int .u64 (dgl (a) 2 : Nat), .int .u64 (dgl (a) 3 : Nat), .int .u64 (dgl (a) 4 : Nat), .int .u64 (dgl (a) 5 : Nat), .int .u64 (dgl (a) 6 : Nat), .int .u64 (dgl (a) 7 : Nat)], .agg #[.int .u64 (dgl (a) 0 : Nat), .int .u64 (dgl (a) 1 : Nat), .int .u64 (dgl (a) 2 : Nat), .int .u64 (dgl (a) 3 : Nat), .int .u64 (dgl (a) 4 : Nat), .int .u64 (dgl (a) 5 : Nat), .int .u64 (dgl (a) 6 : Nat), .int .u64 (dgl (a) 7 : Nat)], .int .i64 0] w fun e w' => e = .returned (.bool true) ∧ Below w.heap.size w w'))
    (HAK : Hid (∀ w, Calls Try.prog 27 #[] w fun e w' => e = .returned (.bool true) ∧ Below w.heap.size w w'))
    (HQP : Hid (∀ w, (Op.equalIn 10000 32 (.agg #[.int .u64 (dgl (p) 0 : Nat), .int .u64 (dgl (p) 1 : Nat), .int .u64 (dgl (p) 2 : Nat), .int .u64 (dgl (p) 3 : Nat), .int .u64 (dgl (p) 4 : Nat), .int .u64 (dgl (p) 5 : Nat), .int .u64 (dgl (p) 6 : Nat), .int .u64 (dgl (p) 7 : Nat)]) (.agg #[.int .u64 (dgl (p) 0 : Nat), .int .u64 (dgl (p) 1 : Nat), .int .u64 (dgl (p) 2 : Nat), .int .u64 (dgl (p) 3 : Nat), .int .u64 (dgl (p) 4 : Nat), .int .u64 (dgl (p) 5 : Nat), .int .u64 (dgl (p) 6 : Nat), .int .u64 (dgl (p) 7 : Nat)])).run Try.prog w = .ok true w))
    (HQL : Hid (∀ w, (Op.equalIn 10000 32 (.agg #[.int .u64 (dgl (l) 0 : Nat), .int .u64 (dgl (l) 1 : Nat), .int .u64 (dgl (l) 2 : Nat), .int .u64 (dgl (l) 3 : Nat), .int .u64 (dgl (l) 4 : Nat), .int .u64 (dgl (l) 5 : Nat), .int .u64 (dgl (l) 6 : Nat), .int .u64 (dgl (l) 7 : Nat)]) (.agg #[.int .u64 (dgl (l) 0 : Nat), .int .u64 (dgl (l) 1 : Nat), .int .u64 (dgl (l) 2 : Nat), .int .u64 (dgl (l) 3 : Nat), .int .u64 (dgl (l) 4 : Nat), .int .u64 (dgl (l) 5 : Nat), .int .u64 (dgl (l) 6 : Nat), .int .u64 (dgl (l) 7 : Nat)])).run Try.prog w = .ok true w)) :
    Calls Try.prog 8 #[.agg #[.int .u64 (dgl (a) 0 : Nat), .int .u64 (dgl (a) 1 : Nat), .int .u64 (dgl (a) 2 : Nat), .int .u64 (dgl (a) 3 : Nat), .int .u64 (dgl (a) 4 : Nat), .int .u64 (dgl (a) 5 : Nat), .int .u64 (dgl (a) 6 : Nat), .int .u64 (dgl (a) 7 : Nat)], .agg #[.int .u64 (dgl (b) 0 : Nat), .int .u64 (dgl (b) 1 : Nat), .int .u64 (dgl (b) 2 : Nat), .int .u64 (dgl (b) 3 : Nat), .int .u64 (dgl (b) 4 : Nat), .int .u64 (dgl (b) 5 : Nat), .int .u64 (dgl (b) 6 : Nat), .int .u64 (dgl (b) 7 : Nat)], .int .i64 n] w fun e w' => e = .returned (.bool true) ∧ Below w.heap.size w w' := by
  have HST := hide (twSt_start a b w 32 32)
  go_enter Try.func8, Try.ntmps8
  go_upto_region 1 with fail
  refine wp_gen (fun W => TwSt a b w W) HST.out ?_
  clear HST
  rintro W0 h0
  go_cut [7] (fun y wx => y = .int .i64 (k : Nat) ∧ wx = W0)
  case first =>
    go_wp2
    all_goals
      go_meet
      exact ⟨by rw [HK.out]; first | done | (congr 1; omega), rfl⟩
  case rest =>
    obtain ⟨rfl, rfl⟩ := hcut
    go_upto_region 2 with fail
    refine wp_gen (fun W => TwSt a b w W) h0 ?_
    clear h0
    rintro W2 h2
    refine wp_region_storeK 14 [12] [17, 18, 19, 20, 21, 22, 23, 24, 16, 25, 26, 8, 9] (fun bs => [(17, .val (.agg #[.int .u64 (dgl (a) 0 : Nat), .int .u64 (dgl (a) 1 : Nat), .int .u64 (dgl (a) 2 : Nat), .int .u64 (dgl (a) 3 : Nat), .int .u64 (dgl (a) 4 : Nat), .int .u64 (dgl (a) 5 : Nat), .int .u64 (dgl (a) 6 : Nat), .int .u64 (dgl (a) 7 : Nat)])), (18, bif bs.headD false then SlotIs.any  else SlotIs.big (a) (40)), (19, .val (.agg #[.int .u64 (dgl (b) 0 : Nat), .int .u64 (dgl (b) 1 : Nat), .int .u64 (dgl (b) 2 : Nat), .int .u64 (dgl (b) 3 : Nat), .int .u64 (dgl (b) 4 : Nat), .int .u64 (dgl (b) 5 : Nat), .int .u64 (dgl (b) 6 : Nat), .int .u64 (dgl (b) 7 : Nat)])), (20, bif bs.headD false then SlotIs.any  else SlotIs.big (b) (40)), (21, bif bs.headD false then SlotIs.any  else SlotIs.big (m0) (80)), (22, .val (.int .i64 (k : Nat))), (23, bif bs.headD false then SlotIs.any  else SlotIs.big (p) (80)), (24, .val (.tuple #[.agg #[.int .u64 (dgl (p) 0 : Nat), .int .u64 (dgl (p) 1 : Nat), .int .u64 (dgl (p) 2 : Nat), .int .u64 (dgl (p) 3 : Nat), .int .u64 (dgl (p) 4 : Nat), .int .u64 (dgl (p) 5 : Nat), .int .u64 (dgl (p) 6 : Nat), .int .u64 (dgl (p) 7 : Nat)], .bool t])), (16, .val (.tuple #[.agg #[.int .u64 (dgl (p) 0 : Nat), .int .u64 (dgl (p) 1 : Nat), .int .u64 (dgl (p) 2 : Nat), .int .u64 (dgl (p) 3 : Nat), .int .u64 (dgl (p) 4 : Nat), .int .u64 (dgl (p) 5 : Nat), .int .u64 (dgl (p) 6 : Nat), .int .u64 (dgl (p) 7 : Nat)], .bool t])), (25, .val (.agg #[.int .u64 (dgl (p) 0 : Nat), .int .u64 (dgl (p) 1 : Nat), .int .u64 (dgl (p) 2 : Nat), .int .u64 (dgl (p) 3 : Nat), .int .u64 (dgl (p) 4 : Nat), .int .u64 (dgl (p) 5 : Nat), .int .u64 (dgl (p) 6 : Nat), .int .u64 (dgl (p) 7 : Nat)])), (26, .val (.bool t)), (8, bif bs.headD false then SlotIs.box (w.heap.size + 2) (dgl p) else SlotIs.box (w.heap.size + 2) (fun _ => 0)), (9, .val (.bool t))])
      (fun _ W => TwSt a b w W) (fun bs => rfl) mixedOk (by kernel_rfl) (by kernel_rfl) (by kernel_rfl) (h2.below (Below.refl _ _).drew) (fun bs W W' h hb => h.below hb) ?_ ?_
    · refine kSt rfl (fun φ hφ => gStep_run rfl ?_) ?_
      · intro ρ W hC hc hf hL
        have e3 : ρ (.tmp 3) = .pointer (some ⟨w.heap.size, 0, none⟩) := hL 3 (by decide +kernel)
        have hl := hC.la.1
        simp [go_sem, hc, hf, e3, hl]
        exact ⟨Below.refl _ _, rfl⟩
      refine kSt rfl (fun φ hφ => gStep_run rfl ?_) ?_
      · intro ρ W hC hc hf hL
        have hφ0 : φ 12 = false := hφ 12 (by simp) (by kernel_rfl)
        have e17 : ρ (.tmp 17) = .agg #[.int .u64 (dgl (a) 0 : Nat), .int .u64 (dgl (a) 1 : Nat), .int .u64 (dgl (a) 2 : Nat), .int .u64 (dgl (a) 3 : Nat), .int .u64 (dgl (a) 4 : Nat), .int .u64 (dgl (a) 5 : Nat), .int .u64 (dgl (a) 6 : Nat), .int .u64 (dgl (a) 7 : Nat)] := hL 17 (by decide +kernel)
        simp [go_sem, hc, hf, e17]
        refine (HBA.out W).mono ?_
        rintro e w' ⟨v, rfl, hv, hb⟩
        refine ⟨_, rfl, hb, ?_⟩
        show (bif φ 12 then SlotIs.any else SlotIs.big (a) (40)).R _ _
        rw [hφ0]
        exact hv
      refine kSt rfl (fun φ hφ => gStep_run rfl ?_) ?_
      · intro ρ W hC hc hf hL
        have e4 : ρ (.tmp 4) = .pointer (some ⟨w.heap.size + 1, 0, none⟩) := hL 4 (by decide +kernel)
        have hl := hC.lb.1
        simp [go_sem, hc, hf, e4, hl]
        exact ⟨Below.refl _ _, rfl⟩
      refine kSt rfl (fun φ hφ => gStep_run rfl ?_) ?_
      · intro ρ W hC hc hf hL
        have hφ0 : φ 12 = false := hφ 12 (by simp) (by kernel_rfl)
        have e19 : ρ (.tmp 19) = .agg #[.int .u64 (dgl (b) 0 : Nat), .int .u64 (dgl (b) 1 : Nat), .int .u64 (dgl (b) 2 : Nat), .int .u64 (dgl (b) 3 : Nat), .int .u64 (dgl (b) 4 : Nat), .int .u64 (dgl (b) 5 : Nat), .int .u64 (dgl (b) 6 : Nat), .int .u64 (dgl (b) 7 : Nat)] := hL 19 (by decide +kernel)
        simp [go_sem, hc, hf, e19]
        refine (HBB.out W).mono ?_
        rintro e w' ⟨v, rfl, hv, hb⟩
        refine ⟨_, rfl, hb, ?_⟩
        show (bif φ 12 then SlotIs.any else SlotIs.big (b) (40)).R _ _
        rw [hφ0]
        exact hv
      refine kSt rfl (fun φ hφ => gStep_run rfl ?_) ?_
      · intro ρ W hC hc hf hL
        have hφ0 : φ 12 = false := hφ 12 (by simp) (by kernel_rfl)
        have b18 : (bif φ 12 then SlotIs.any  else SlotIs.big (a) (40)).R (ρ (.tmp 18)) W := hL 18 (by decide +kernel)
        rw [hφ0] at b18
        have b20 : (bif φ 12 then SlotIs.any  else SlotIs.big (b) (40)).R (ρ (.tmp 20)) W := hL 20 (by decide +kernel)
        rw [hφ0] at b20
        simp [go_sem, hc, hf]
        refine (HMU.out _ _ W b18 b20).mono ?_
        rintro e w' ⟨v, rfl, hv, hb⟩
        refine ⟨_, rfl, hb, ?_⟩
        show (bif φ 12 then SlotIs.any else SlotIs.big (m0) (80)).R _ _
        rw [hφ0]
        exact hv
      refine kSt rfl (fun φ hφ => gStep_run rfl (gRun_move 7 22 (.inl rfl) rfl (by decide +kernel) (fun v w h => h))) ?_
      refine kSt rfl (fun φ hφ => gStep_run rfl ?_) ?_
      · intro ρ W hC hc hf hL
        have hφ0 : φ 12 = false := hφ 12 (by simp) (by kernel_rfl)
        have b21 : (bif φ 12 then SlotIs.any  else SlotIs.big (m0) (80)).R (ρ (.tmp 21)) W := hL 21 (by decide +kernel)
        rw [hφ0] at b21
        have e22 : ρ (.tmp 22) = .int .i64 (k : Nat) := hL 22 (by decide +kernel)
        simp [go_sem, hc, hf, e22]
        refine (HSH.out _ W b21).mono ?_
        rintro e w' ⟨v, rfl, hv, hb⟩
        refine ⟨_, rfl, hb, ?_⟩
        show (bif φ 12 then SlotIs.any else SlotIs.big (p) (80)).R _ _
        rw [hφ0]
        exact hv
      refine kSt rfl (fun φ hφ => gStep_run rfl ?_) ?_
      · intro ρ W hC hc hf hL
        have hφ0 : φ 12 = false := hφ 12 (by simp) (by kernel_rfl)
        have b23 : (bif φ 12 then SlotIs.any  else SlotIs.big (p) (80)).R (ρ (.tmp 23)) W := hL 23 (by decide +kernel)
        rw [hφ0] at b23
        simp [go_sem, hc, hf]
        refine (HWP.out _ W b23).mono ?_
        rintro e w' ⟨rfl, hb⟩
        exact ⟨_, rfl, by first | exact hb | (subst hb; exact Below.refl _ _), rfl⟩
      refine kSt rfl (fun φ hφ => gStep_run rfl (gRun_move 24 16 (.inl rfl) rfl (by decide +kernel) (fun v w h => h))) ?_
      refine kSt rfl (fun φ hφ => gStep_run rfl ?_) ?_
      · intro ρ W hC hc hf hL
        have e16 : ρ (.tmp 16) = .tuple #[.agg #[.int .u64 (dgl (p) 0 : Nat), .int .u64 (dgl (p) 1 : Nat), .int .u64 (dgl (p) 2 : Nat), .int .u64 (dgl (p) 3 : Nat), .int .u64 (dgl (p) 4 : Nat), .int .u64 (dgl (p) 5 : Nat), .int .u64 (dgl (p) 6 : Nat), .int .u64 (dgl (p) 7 : Nat)], .bool t] := hL 16 (by decide +kernel)
        simp [go_sem, hc, hf, e16]
        exact ⟨Below.refl _ _, rfl⟩
      refine kSt rfl (fun φ hφ => gStep_run rfl ?_) ?_
      · intro ρ W hC hc hf hL
        have e16 : ρ (.tmp 16) = .tuple #[.agg #[.int .u64 (dgl (p) 0 : Nat), .int .u64 (dgl (p) 1 : Nat), .int .u64 (dgl (p) 2 : Nat), .int .u64 (dgl (p) 3 : Nat), .int .u64 (dgl (p) 4 : Nat), .int .u64 (dgl (p) 5 : Nat), .int .u64 (dgl (p) 6 : Nat), .int .u64 (dgl (p) 7 : Nat)], .bool t] := hL 16 (by decide +kernel)
        simp [go_sem, hc, hf, e16]
        exact ⟨Below.refl _ _, rfl⟩
      refine kSt rfl (fun φ hφ => gStep_run rfl ?_) ?_
      · intro ρ W hC hc hf hL
        have hφ0 : φ 12 = false := hφ 12 (by simp) (by kernel_rfl)
        simp [go_sem, hc, hf]
        refine ⟨below_allocs _ _, ?_⟩
        show (bif φ 12 then SlotIs.box (w.heap.size + 2) (dgl p) else SlotIs.box (w.heap.size + 2) (fun _ => 0)).R _ _
        rw [hφ0]
        exact ⟨_, rfl, hC.lb.2, liesF_new _ (fun _ => 0) _, fun i => by simp [go_sem]⟩
      refine kStS rfl ⟨rfl, rfl, ?_⟩ ?_
      · intro φ ρ W hφ hC hc hL
        have b8 := hL 8 (by decide +kernel)
        have e25 : ρ (.tmp 25) = .agg #[.int .u64 (dgl (p) 0 : Nat), .int .u64 (dgl (p) 1 : Nat), .int .u64 (dgl (p) 2 : Nat), .int .u64 (dgl (p) 3 : Nat), .int .u64 (dgl (p) 4 : Nat), .int .u64 (dgl (p) 5 : Nat), .int .u64 (dgl (p) 6 : Nat), .int .u64 (dgl (p) 7 : Nat)] := hL 25 (by decide +kernel)
        have bx : (bif φ 12 then SlotIs.box (w.heap.size + 2) (dgl p) else SlotIs.box (w.heap.size + 2) (fun _ => 0)).R (ρ (.tmp 8)) W := hL 8 (by decide +kernel)
        rw [hφ] at bx
        obtain ⟨px, ex, qx, lx, zx⟩ := bx
        have hz := lx.1
        have hzl := lx.2
        refine gUpon_of ((((((((W.setCell ⟨px, 0, none⟩ (.int .u64 (dgl p 0 : Nat))).setCell ⟨px, 1, none⟩ (.int .u64 (dgl p 1 : Nat))).setCell ⟨px, 2, none⟩ (.int .u64 (dgl p 2 : Nat))).setCell ⟨px, 3, none⟩ (.int .u64 (dgl p 3 : Nat))).setCell ⟨px, 4, none⟩ (.int .u64 (dgl p 4 : Nat))).setCell ⟨px, 5, none⟩ (.int .u64 (dgl p 5 : Nat))).setCell ⟨px, 6, none⟩ (.int .u64 (dgl p 6 : Nat))).setCell ⟨px, 7, none⟩ (.int .u64 (dgl p 7 : Nat))) ?_ (fun _ => ?_)
        · simp [go_sem, hc, e25, ex, hz, hzl, zx, gUpon]
        have hs8 := below_set8 (Below.refl (w.heap.size + 2) W) px qx (.int .u64 (dgl p 0 : Nat)) (.int .u64 (dgl p 1 : Nat)) (.int .u64 (dgl p 2 : Nat)) (.int .u64 (dgl p 3 : Nat)) (.int .u64 (dgl p 4 : Nat)) (.int .u64 (dgl p 5 : Nat)) (.int .u64 (dgl p 6 : Nat)) (.int .u64 (dgl p 7 : Nat))
        refine ⟨hC.under hs8 (by omega), fun t => ?_⟩
        refine (tbl_imp rfl (fun _ => val_imp) (tbl_imp rfl (fun ht h => ?_) (tbl_imp rfl (fun _ => val_imp) (tbl_imp rfl (fun ht h => ?_) (tbl_imp rfl (fun ht h => ?_) (tbl_imp rfl (fun _ => val_imp) (tbl_imp rfl (fun ht h => ?_) (tbl_imp rfl (fun _ => val_imp) (tbl_imp rfl (fun _ => val_imp) (tbl_imp rfl (fun _ => val_imp) (tbl_imp rfl (fun _ => val_imp) (tbl_imp rfl (fun ht h => ?_) (tbl_imp rfl (fun _ => val_imp) tbl_nil_imp)))))))))))))
        · show (bif (φ 12 || true) then SlotIs.any else SlotIs.big (a) (40)).R _ _
          rw [Bool.or_true]
          trivial
        · show (bif (φ 12 || true) then SlotIs.any else SlotIs.big (b) (40)).R _ _
          rw [Bool.or_true]
          trivial
        · show (bif (φ 12 || true) then SlotIs.any else SlotIs.big (m0) (80)).R _ _
          rw [Bool.or_true]
          trivial
        · show (bif (φ 12 || true) then SlotIs.any else SlotIs.big (p) (80)).R _ _
          rw [Bool.or_true]
          trivial
        · subst ht
          show (bif (φ 12 || true) then SlotIs.box (w.heap.size + 2) (dgl p) else SlotIs.box (w.heap.size + 2) (fun _ => 0)).R _ _
          rw [Bool.or_true]
          exact ⟨px, ex, qx, set8_same W px (dgl p) (fun _ => 0) lx, fun i => by simpa [go_sem] using zx i⟩
      refine kSt rfl (fun φ hφ => gStep_run rfl (gRun_move 26 9 (.inr rfl) rfl (by decide +kernel) (fun v w h => h))) ?_
      exact kSt0
    · intro W hC
      refine gFi 17 rfl ?_
      rintro _ rfl
      refine gFi 18 rfl ?_
      rintro u18 b18
      refine gFi 19 rfl ?_
      rintro _ rfl
      refine gFi 20 rfl ?_
      rintro u20 b20
      refine gFi 21 rfl ?_
      rintro u21 b21
      refine gFi 22 rfl ?_
      rintro _ rfl
      refine gFi 23 rfl ?_
      rintro u23 b23
      refine gFi 24 rfl ?_
      rintro _ rfl
      refine gFi 16 rfl ?_
      rintro _ rfl
      refine gFi 25 rfl ?_
      rintro _ rfl
      refine gFi 26 rfl ?_
      rintro _ rfl
      refine gFi 8 rfl ?_
      rintro _ ⟨p8, rfl, q8, l8, z8⟩
      refine gFiN rfl ?_
      refine gFi 9 rfl ?_
      rintro _ rfl
      refine gFi0 ?_
      simp only [List.drop_succ_cons, List.drop_zero, Act.put, List.setIfInBounds_toArray, List.set_cons_succ, List.set_cons_zero]
      have HS := hide hC
      have HP := hide l8
      clear hC h2 l8 z8 b18 b20 b21 b23
      clear HMU HSH HWP HK

      go_wp2_with fail
      refine (HWH.out _).mono ?_
      rintro e w3 ⟨v3, rfl, hv3, hb3⟩
      replace HS := hide (HS.out.below hb3)
      replace HP := hide (HP.out.below hb3)
      clear hb3 HWH
      have hm := HM.out
      go_wp2_with fail
      refine (HPW.out _).mono ?_
      rintro e w4 ⟨v4, rfl, hv4, hb4⟩
      replace HS := hide (HS.out.below hb4)
      replace HP := hide (HP.out.below hb4)
      replace hv3 := BigV.below hv3 hb4
      clear hb4 HPW
      go_wp2_with fail
      refine (HAD.out _ _ _ hv3 hv4).mono ?_
      rintro e w5 ⟨v5, rfl, hv5, hb5⟩
      replace HS := hide (HS.out.below hb5)
      replace HP := hide (HP.out.below hb5)
      clear hb5 HAD hv3 hv4 hn1 hn2 hm HM
      have ha := HS.out.la.1
      go_wp2_with fail
      refine (HBA.out _).mono ?_
      rintro e w6 ⟨v6, rfl, hv6, hb6⟩
      replace HS := hide (HS.out.below hb6)
      replace HP := hide (HP.out.below hb6)
      replace hv5 := BigV.below hv5 hb6
      clear hb6 ha
      go_wp2_with fail
      refine (HSB.out _ _ _ hv5 hv6).mono ?_
      rintro e w7 ⟨v7, rfl, hv7, hb7⟩
      replace HS := hide (HS.out.below hb7)
      replace HP := hide (HP.out.below hb7)
      clear hb7 HSB hv5 hv6
      go_wp2_with fail
      refine (HWL.out _ _ hv7).mono ?_
      rintro e w8 ⟨rfl, hb8⟩
      replace HS := hide (HS.out.below hb8)
      replace HP := hide (HP.out.below hb8)
      clear hb8 HWL hv7
      go_upto_region 7 with fail
      refine wp_gen (fun W => TwSt a b w W ∧ LiesF W p8 (dgl p) ∧ LiesF W w8.heap.size (dgl l)) ⟨HS.out.below (below_allocs _ _), HP.out.below (below_allocs _ _), liesF_new w8 (dgl l) _⟩ ?_
      clear HS HP
      generalize w8.heap.size = p11 at *
      rintro W7 h7
      refine wp_region_grow 36 [(47, .val (.agg #[.int .u64 (dgl (a) 0 : Nat), .int .u64 (dgl (a) 1 : Nat), .int .u64 (dgl (a) 2 : Nat), .int .u64 (dgl (a) 3 : Nat), .int .u64 (dgl (a) 4 : Nat), .int .u64 (dgl (a) 5 : Nat), .int .u64 (dgl (a) 6 : Nat), .int .u64 (dgl (a) 7 : Nat)])), (48, .val (.agg #[.int .u64 (dgl (b) 0 : Nat), .int .u64 (dgl (b) 1 : Nat), .int .u64 (dgl (b) 2 : Nat), .int .u64 (dgl (b) 3 : Nat), .int .u64 (dgl (b) 4 : Nat), .int .u64 (dgl (b) 5 : Nat), .int .u64 (dgl (b) 6 : Nat), .int .u64 (dgl (b) 7 : Nat)])), (49, .val (.int .i64 n)), (50, .val (.agg #[.int .u64 (dgl (p) 0 : Nat), .int .u64 (dgl (p) 1 : Nat), .int .u64 (dgl (p) 2 : Nat), .int .u64 (dgl (p) 3 : Nat), .int .u64 (dgl (p) 4 : Nat), .int .u64 (dgl (p) 5 : Nat), .int .u64 (dgl (p) 6 : Nat), .int .u64 (dgl (p) 7 : Nat)])), (51, .val (.agg #[.int .u64 (dgl (p) 0 : Nat), .int .u64 (dgl (p) 1 : Nat), .int .u64 (dgl (p) 2 : Nat), .int .u64 (dgl (p) 3 : Nat), .int .u64 (dgl (p) 4 : Nat), .int .u64 (dgl (p) 5 : Nat), .int .u64 (dgl (p) 6 : Nat), .int .u64 (dgl (p) 7 : Nat)])), (52, .val (.bool true)), (53, .val (.bool true)), (54, .val (.int .i64 n)), (55, .val (.agg #[.int .u64 (dgl (a) 0 : Nat), .int .u64 (dgl (a) 1 : Nat), .int .u64 (dgl (a) 2 : Nat), .int .u64 (dgl (a) 3 : Nat), .int .u64 (dgl (a) 4 : Nat), .int .u64 (dgl (a) 5 : Nat), .int .u64 (dgl (a) 6 : Nat), .int .u64 (dgl (a) 7 : Nat)])), (56, .val (.agg #[.int .u64 (dgl (l) 0 : Nat), .int .u64 (dgl (l) 1 : Nat), .int .u64 (dgl (l) 2 : Nat), .int .u64 (dgl (l) 3 : Nat), .int .u64 (dgl (l) 4 : Nat), .int .u64 (dgl (l) 5 : Nat), .int .u64 (dgl (l) 6 : Nat), .int .u64 (dgl (l) 7 : Nat)])), (57, .val (.agg #[.int .u64 (dgl (l) 0 : Nat), .int .u64 (dgl (l) 1 : Nat), .int .u64 (dgl (l) 2 : Nat), .int .u64 (dgl (l) 3 : Nat), .int .u64 (dgl (l) 4 : Nat), .int .u64 (dgl (l) 5 : Nat), .int .u64 (dgl (l) 6 : Nat), .int .u64 (dgl (l) 7 : Nat)])), (58, .val (.bool true)), (59, .val (.bool true)), (60, .val (.bool true)), (61, .val (.agg #[.int .u64 (dgl (a) 0 : Nat), .int .u64 (dgl (a) 1 : Nat), .int .u64 (dgl (a) 2 : Nat), .int .u64 (dgl (a) 3 : Nat), .int .u64 (dgl (a) 4 : Nat), .int .u64 (dgl (a) 5 : Nat), .int .u64 (dgl (a) 6 : Nat), .int .u64 (dgl (a) 7 : Nat)])), (62, .val (.agg #[.int .u64 (dgl (b) 0 : Nat), .int .u64 (dgl (b) 1 : Nat), .int .u64 (dgl (b) 2 : Nat), .int .u64 (dgl (b) 3 : Nat), .int .u64 (dgl (b) 4 : Nat), .int .u64 (dgl (b) 5 : Nat), .int .u64 (dgl (b) 6 : Nat), .int .u64 (dgl (b) 7 : Nat)])), (63, .val (.int .i64 n)), (64, .val (.bool z)), (65, .val (.agg #[.int .u64 (dgl (a) 0 : Nat), .int .u64 (dgl (a) 1 : Nat), .int .u64 (dgl (a) 2 : Nat), .int .u64 (dgl (a) 3 : Nat), .int .u64 (dgl (a) 4 : Nat), .int .u64 (dgl (a) 5 : Nat), .int .u64 (dgl (a) 6 : Nat), .int .u64 (dgl (a) 7 : Nat)])), (66, .big a 40), (67, .val (.agg #[.int .u64 (dgl (b) 0 : Nat), .int .u64 (dgl (b) 1 : Nat), .int .u64 (dgl (b) 2 : Nat), .int .u64 (dgl (b) 3 : Nat), .int .u64 (dgl (b) 4 : Nat), .int .u64 (dgl (b) 5 : Nat), .int .u64 (dgl (b) 6 : Nat), .int .u64 (dgl (b) 7 : Nat)])), (68, .big b 40), (69, .big x 40), (70, .val (.int .i64 n)), (71, .val (.bool z)), (72, .val (.bool true)), (73, .val (.bool true)), (74, .val (.bool true)), (75, .val (.agg #[.int .u64 (dgl (a) 0 : Nat), .int .u64 (dgl (a) 1 : Nat), .int .u64 (dgl (a) 2 : Nat), .int .u64 (dgl (a) 3 : Nat), .int .u64 (dgl (a) 4 : Nat), .int .u64 (dgl (a) 5 : Nat), .int .u64 (dgl (a) 6 : Nat), .int .u64 (dgl (a) 7 : Nat)])), (76, .val (.agg #[.int .u64 (dgl (a) 0 : Nat), .int .u64 (dgl (a) 1 : Nat), .int .u64 (dgl (a) 2 : Nat), .int .u64 (dgl (a) 3 : Nat), .int .u64 (dgl (a) 4 : Nat), .int .u64 (dgl (a) 5 : Nat), .int .u64 (dgl (a) 6 : Nat), .int .u64 (dgl (a) 7 : Nat)])), (77, .val (.bool true)), (78, .val (.bool true)), (79, .val (.bool true)), (80, .val (.bool true)), (81, .val (.bool true)), (6, .val (.bool true))]
        (fun W => TwSt a b w W ∧ LiesF W p8 (dgl p) ∧ LiesF W p11 (dgl l)) mixedOk (by kernel_rfl) (by kernel_rfl) (⟨h7.1.below (Below.refl _ _).drew, h7.2.1.below (Below.refl _ _).drew, h7.2.2.below (Below.refl _ _).drew⟩) (fun W W' h hb => ⟨h.1.below hb, h.2.1.below hb, h.2.2.below hb⟩) ?_ ?_
      · refine gSt (gStep_run rfl ?_) ?_
        · intro ρ W hC hc hf hL
          have e3 : ρ (.tmp 3) = .pointer (some ⟨w.heap.size, 0, none⟩) := hL 3 (by decide +kernel)
          have hl := hC.1.la.1
          simp [go_sem, hc, hf, e3, hl]
          exact ⟨Below.refl _ _, rfl⟩
        refine gSt (gStep_run rfl ?_) ?_
        · intro ρ W hC hc hf hL
          have e4 : ρ (.tmp 4) = .pointer (some ⟨w.heap.size + 1, 0, none⟩) := hL 4 (by decide +kernel)
          have hl := hC.1.lb.1
          simp [go_sem, hc, hf, e4, hl]
          exact ⟨Below.refl _ _, rfl⟩
        refine gSt (gStep_run rfl (gRun_move 2 49 (.inl rfl) rfl (by decide +kernel) (fun v w h => h))) ?_
        refine gSt (gStep_run rfl ?_) ?_
        · intro ρ W hC hc hf hL
          have e47 : ρ (.tmp 47) = .agg #[.int .u64 (dgl (a) 0 : Nat), .int .u64 (dgl (a) 1 : Nat), .int .u64 (dgl (a) 2 : Nat), .int .u64 (dgl (a) 3 : Nat), .int .u64 (dgl (a) 4 : Nat), .int .u64 (dgl (a) 5 : Nat), .int .u64 (dgl (a) 6 : Nat), .int .u64 (dgl (a) 7 : Nat)] := hL 47 (by decide +kernel)
          have e48 : ρ (.tmp 48) = .agg #[.int .u64 (dgl (b) 0 : Nat), .int .u64 (dgl (b) 1 : Nat), .int .u64 (dgl (b) 2 : Nat), .int .u64 (dgl (b) 3 : Nat), .int .u64 (dgl (b) 4 : Nat), .int .u64 (dgl (b) 5 : Nat), .int .u64 (dgl (b) 6 : Nat), .int .u64 (dgl (b) 7 : Nat)] := hL 48 (by decide +kernel)
          have e49 : ρ (.tmp 49) = .int .i64 n := hL 49 (by decide +kernel)
          simp [go_sem, hc, hf, e47, e48, e49]
          refine (HTI.out W).mono ?_
          rintro e w' ⟨rfl, hb⟩
          exact ⟨_, rfl, by first | exact hb | (subst hb; exact Below.refl _ _), rfl⟩
        refine gSt (gStep_run rfl ?_) ?_
        · intro ρ W hC hc hf hL
          have e8 : ρ (.tmp 8) = .pointer (some ⟨p8, 0, none⟩) := hL 8 (by decide +kernel)
          have hl := hC.2.1.1
          simp [go_sem, hc, hf, e8, hl]
          exact ⟨Below.refl _ _, rfl⟩
        refine gSt (gStep_run rfl ?_) ?_
        · intro ρ W hC hc hf hL
          have e50 : ρ (.tmp 50) = .agg #[.int .u64 (dgl (p) 0 : Nat), .int .u64 (dgl (p) 1 : Nat), .int .u64 (dgl (p) 2 : Nat), .int .u64 (dgl (p) 3 : Nat), .int .u64 (dgl (p) 4 : Nat), .int .u64 (dgl (p) 5 : Nat), .int .u64 (dgl (p) 6 : Nat), .int .u64 (dgl (p) 7 : Nat)] := hL 50 (by decide +kernel)
          have e51 : ρ (.tmp 51) = .agg #[.int .u64 (dgl (p) 0 : Nat), .int .u64 (dgl (p) 1 : Nat), .int .u64 (dgl (p) 2 : Nat), .int .u64 (dgl (p) 3 : Nat), .int .u64 (dgl (p) 4 : Nat), .int .u64 (dgl (p) 5 : Nat), .int .u64 (dgl (p) 6 : Nat), .int .u64 (dgl (p) 7 : Nat)] := hL 51 (by decide +kernel)
          have hq := HQP.out W
          simp [go_sem, hc, hf, e50, e51, hq]
          exact ⟨Below.refl _ _, rfl⟩
        refine gSt (gStep_run rfl (gRun_move 52 53 (.inl rfl) rfl (by decide +kernel) (fun v w h => h))) ?_
        refine gSt (gStep_on 6 53 true rfl rfl (by decide +kernel) (fun v w h => h) (gRun_move 2 54 (.inl rfl) rfl (by decide +kernel) (fun v w h => h))) ?_
        refine gSt (gStep_on 6 53 true rfl rfl (by decide +kernel) (fun v w h => h) ?_) ?_
        · intro ρ W hC hc hf hL
          have e3 : ρ (.tmp 3) = .pointer (some ⟨w.heap.size, 0, none⟩) := hL 3 (by decide +kernel)
          have hl := hC.1.la.1
          simp [go_sem, hc, hf, e3, hl]
          exact ⟨Below.refl _ _, rfl⟩
        refine gSt (gStep_on 6 53 true rfl rfl (by decide +kernel) (fun v w h => h) ?_) ?_
        · intro ρ W hC hc hf hL
          have e54 : ρ (.tmp 54) = .int .i64 n := hL 54 (by decide +kernel)
          have e55 : ρ (.tmp 55) = .agg #[.int .u64 (dgl (a) 0 : Nat), .int .u64 (dgl (a) 1 : Nat), .int .u64 (dgl (a) 2 : Nat), .int .u64 (dgl (a) 3 : Nat), .int .u64 (dgl (a) 4 : Nat), .int .u64 (dgl (a) 5 : Nat), .int .u64 (dgl (a) 6 : Nat), .int .u64 (dgl (a) 7 : Nat)] := hL 55 (by decide +kernel)
          simp [go_sem, hc, hf, e54, e55]
          refine (HTW.out W).mono ?_
          rintro e w' ⟨rfl, hb⟩
          exact ⟨_, rfl, by first | exact hb | (subst hb; exact Below.refl _ _), rfl⟩
        refine gSt (gStep_on 6 53 true rfl rfl (by decide +kernel) (fun v w h => h) ?_) ?_
        · intro ρ W hC hc hf hL
          have e11 : ρ (.tmp 11) = .pointer (some ⟨p11, 0, none⟩) := hL 11 (by decide +kernel)
          have hl := hC.2.2.1
          simp [go_sem, hc, hf, e11, hl]
          exact ⟨Below.refl _ _, rfl⟩
        refine gSt (gStep_on 6 53 true rfl rfl (by decide +kernel) (fun v w h => h) ?_) ?_
        · intro ρ W hC hc hf hL
          have e56 : ρ (.tmp 56) = .agg #[.int .u64 (dgl (l) 0 : Nat), .int .u64 (dgl (l) 1 : Nat), .int .u64 (dgl (l) 2 : Nat), .int .u64 (dgl (l) 3 : Nat), .int .u64 (dgl (l) 4 : Nat), .int .u64 (dgl (l) 5 : Nat), .int .u64 (dgl (l) 6 : Nat), .int .u64 (dgl (l) 7 : Nat)] := hL 56 (by decide +kernel)
          have e57 : ρ (.tmp 57) = .agg #[.int .u64 (dgl (l) 0 : Nat), .int .u64 (dgl (l) 1 : Nat), .int .u64 (dgl (l) 2 : Nat), .int .u64 (dgl (l) 3 : Nat), .int .u64 (dgl (l) 4 : Nat), .int .u64 (dgl (l) 5 : Nat), .int .u64 (dgl (l) 6 : Nat), .int .u64 (dgl (l) 7 : Nat)] := hL 57 (by decide +kernel)
          have hq := HQL.out W
          simp [go_sem, hc, hf, e56, e57, hq]
          exact ⟨Below.refl _ _, rfl⟩
        refine gSt (gStep_run rfl (gRun_pickT 53 58 59 _ rfl rfl (by decide +kernel) (by decide +kernel) (fun v w h => h) (fun v w h => h))) ?_
        refine gSt (gStep_run rfl (gRun_move 59 60 (.inl rfl) rfl (by decide +kernel) (fun v w h => h))) ?_
        refine gSt (gStep_on 13 60 true rfl rfl (by decide +kernel) (fun v w h => h) ?_) ?_
        · intro ρ W hC hc hf hL
          have e3 : ρ (.tmp 3) = .pointer (some ⟨w.heap.size, 0, none⟩) := hL 3 (by decide +kernel)
          have hl := hC.1.la.1
          simp [go_sem, hc, hf, e3, hl]
          exact ⟨Below.refl _ _, rfl⟩
        refine gSt (gStep_on 13 60 true rfl rfl (by decide +kernel) (fun v w h => h) ?_) ?_
        · intro ρ W hC hc hf hL
          have e4 : ρ (.tmp 4) = .pointer (some ⟨w.heap.size + 1, 0, none⟩) := hL 4 (by decide +kernel)
          have hl := hC.1.lb.1
          simp [go_sem, hc, hf, e4, hl]
          exact ⟨Below.refl _ _, rfl⟩
        refine gSt (gStep_on 13 60 true rfl rfl (by decide +kernel) (fun v w h => h) (gRun_move 2 63 (.inl rfl) rfl (by decide +kernel) (fun v w h => h))) ?_
        refine gSt (gStep_on 13 60 true rfl rfl (by decide +kernel) (fun v w h => h) ?_) ?_
        · intro ρ W hC hc hf hL
          have e61 : ρ (.tmp 61) = .agg #[.int .u64 (dgl (a) 0 : Nat), .int .u64 (dgl (a) 1 : Nat), .int .u64 (dgl (a) 2 : Nat), .int .u64 (dgl (a) 3 : Nat), .int .u64 (dgl (a) 4 : Nat), .int .u64 (dgl (a) 5 : Nat), .int .u64 (dgl (a) 6 : Nat), .int .u64 (dgl (a) 7 : Nat)] := hL 61 (by decide +kernel)
          have e62 : ρ (.tmp 62) = .agg #[.int .u64 (dgl (b) 0 : Nat), .int .u64 (dgl (b) 1 : Nat), .int .u64 (dgl (b) 2 : Nat), .int .u64 (dgl (b) 3 : Nat), .int .u64 (dgl (b) 4 : Nat), .int .u64 (dgl (b) 5 : Nat), .int .u64 (dgl (b) 6 : Nat), .int .u64 (dgl (b) 7 : Nat)] := hL 62 (by decide +kernel)
          have e63 : ρ (.tmp 63) = .int .i64 n := hL 63 (by decide +kernel)
          simp [go_sem, hc, hf, e61, e62, e63]
          refine (HNE.out W).mono ?_
          rintro e w' ⟨rfl, hb⟩
          exact ⟨_, rfl, by first | exact hb | (subst hb; exact Below.refl _ _), rfl⟩
        refine gSt (gStep_on 13 60 true rfl rfl (by decide +kernel) (fun v w h => h) ?_) ?_
        · intro ρ W hC hc hf hL
          have e3 : ρ (.tmp 3) = .pointer (some ⟨w.heap.size, 0, none⟩) := hL 3 (by decide +kernel)
          have hl := hC.1.la.1
          simp [go_sem, hc, hf, e3, hl]
          exact ⟨Below.refl _ _, rfl⟩
        refine gSt (gStep_on 13 60 true rfl rfl (by decide +kernel) (fun v w h => h) ?_) ?_
        · intro ρ W hC hc hf hL
          have e65 : ρ (.tmp 65) = .agg #[.int .u64 (dgl (a) 0 : Nat), .int .u64 (dgl (a) 1 : Nat), .int .u64 (dgl (a) 2 : Nat), .int .u64 (dgl (a) 3 : Nat), .int .u64 (dgl (a) 4 : Nat), .int .u64 (dgl (a) 5 : Nat), .int .u64 (dgl (a) 6 : Nat), .int .u64 (dgl (a) 7 : Nat)] := hL 65 (by decide +kernel)
          simp [go_sem, hc, hf, e65]
          refine (HBA.out W).mono ?_
          rintro e w' ⟨v, rfl, hv, hb⟩
          exact ⟨_, rfl, hb, hv⟩
        refine gSt (gStep_on 13 60 true rfl rfl (by decide +kernel) (fun v w h => h) ?_) ?_
        · intro ρ W hC hc hf hL
          have e4 : ρ (.tmp 4) = .pointer (some ⟨w.heap.size + 1, 0, none⟩) := hL 4 (by decide +kernel)
          have hl := hC.1.lb.1
          simp [go_sem, hc, hf, e4, hl]
          exact ⟨Below.refl _ _, rfl⟩
        refine gSt (gStep_on 13 60 true rfl rfl (by decide +kernel) (fun v w h => h) ?_) ?_
        · intro ρ W hC hc hf hL
          have e67 : ρ (.tmp 67) = .agg #[.int .u64 (dgl (b) 0 : Nat), .int .u64 (dgl (b) 1 : Nat), .int .u64 (dgl (b) 2 : Nat), .int .u64 (dgl (b) 3 : Nat), .int .u64 (dgl (b) 4 : Nat), .int .u64 (dgl (b) 5 : Nat), .int .u64 (dgl (b) 6 : Nat), .int .u64 (dgl (b) 7 : Nat)] := hL 67 (by decide +kernel)
          simp [go_sem, hc, hf, e67]
          refine (HBB.out W).mono ?_
          rintro e w' ⟨v, rfl, hv, hb⟩
          exact ⟨_, rfl, hb, hv⟩
        refine gSt (gStep_on 13 60 true rfl rfl (by decide +kernel) (fun v w h => h) ?_) ?_
        · intro ρ W hC hc hf hL
          have b66 : BigV W (ρ (.tmp 66)) (a) (40) := hL 66 (by decide +kernel)
          have b68 : BigV W (ρ (.tmp 68)) (b) (40) := hL 68 (by decide +kernel)
          simp [go_sem, hc, hf]
          refine (HAW.out _ _ W b66 b68).mono ?_
          rintro e w' ⟨v, rfl, hv, hb⟩
          exact ⟨_, rfl, hb, hv⟩
        refine gSt (gStep_on 13 60 true rfl rfl (by decide +kernel) (fun v w h => h) (gRun_move 2 70 (.inl rfl) rfl (by decide +kernel) (fun v w h => h))) ?_
        refine gSt (gStep_on 13 60 true rfl rfl (by decide +kernel) (fun v w h => h) ?_) ?_
        · intro ρ W hC hc hf hL
          have b69 : BigV W (ρ (.tmp 69)) (x) (40) := hL 69 (by decide +kernel)
          have e70 : ρ (.tmp 70) = .int .i64 n := hL 70 (by decide +kernel)
          simp [go_sem, hc, hf, e70]
          refine (HWI.out _ W b69).mono ?_
          rintro e w' ⟨rfl, hb⟩
          exact ⟨_, rfl, by first | exact hb | (subst hb; exact Below.refl _ _), rfl⟩
        refine gSt (gStep_on 13 60 true rfl rfl (by decide +kernel) (fun v w h => h) ?_) ?_
        · intro ρ W hC hc hf hL
          have e64 : ρ (.tmp 64) = .bool z := hL 64 (by decide +kernel)
          have e71 : ρ (.tmp 71) = .bool z := hL 71 (by decide +kernel)
          simp [go_sem, hc, hf, e64, e71]
          exact ⟨Below.refl _ _, rfl⟩
        refine gSt (gStep_run rfl (gRun_pickT 60 72 73 _ rfl rfl (by decide +kernel) (by decide +kernel) (fun v w h => h) (fun v w h => h))) ?_
        refine gSt (gStep_run rfl (gRun_move 73 74 (.inl rfl) rfl (by decide +kernel) (fun v w h => h))) ?_
        refine gSt (gStep_on 27 74 true rfl rfl (by decide +kernel) (fun v w h => h) ?_) ?_
        · intro ρ W hC hc hf hL
          have e3 : ρ (.tmp 3) = .pointer (some ⟨w.heap.size, 0, none⟩) := hL 3 (by decide +kernel)
          have hl := hC.1.la.1
          simp [go_sem, hc, hf, e3, hl]
          exact ⟨Below.refl _ _, rfl⟩
        refine gSt (gStep_on 27 74 true rfl rfl (by decide +kernel) (fun v w h => h) ?_) ?_
        · intro ρ W hC hc hf hL
          have e3 : ρ (.tmp 3) = .pointer (some ⟨w.heap.size, 0, none⟩) := hL 3 (by decide +kernel)
          have hl := hC.1.la.1
          simp [go_sem, hc, hf, e3, hl]
          exact ⟨Below.refl _ _, rfl⟩
        refine gSt (gStep_on 27 74 true rfl rfl (by decide +kernel) (fun v w h => h) ?_) ?_
        · intro ρ W hC hc hf hL
          have e75 : ρ (.tmp 75) = .agg #[.int .u64 (dgl (a) 0 : Nat), .int .u64 (dgl (a) 1 : Nat), .int .u64 (dgl (a) 2 : Nat), .int .u64 (dgl (a) 3 : Nat), .int .u64 (dgl (a) 4 : Nat), .int .u64 (dgl (a) 5 : Nat), .int .u64 (dgl (a) 6 : Nat), .int .u64 (dgl (a) 7 : Nat)] := hL 75 (by decide +kernel)
          have e76 : ρ (.tmp 76) = .agg #[.int .u64 (dgl (a) 0 : Nat), .int .u64 (dgl (a) 1 : Nat), .int .u64 (dgl (a) 2 : Nat), .int .u64 (dgl (a) 3 : Nat), .int .u64 (dgl (a) 4 : Nat), .int .u64 (dgl (a) 5 : Nat), .int .u64 (dgl (a) 6 : Nat), .int .u64 (dgl (a) 7 : Nat)] := hL 76 (by decide +kernel)
          simp [go_sem, hc, hf, e75, e76]
          refine (HN0.out W).mono ?_
          rintro e w' ⟨rfl, hb⟩
          exact ⟨_, rfl, by first | exact hb | (subst hb; exact Below.refl _ _), rfl⟩
        refine gSt (gStep_run rfl (gRun_pickT 74 77 78 _ rfl rfl (by decide +kernel) (by decide +kernel) (fun v w h => h) (fun v w h => h))) ?_
        refine gSt (gStep_run rfl (gRun_move 78 79 (.inl rfl) rfl (by decide +kernel) (fun v w h => h))) ?_
        refine gSt (gStep_on 32 79 true rfl rfl (by decide +kernel) (fun v w h => h) ?_) ?_
        · intro ρ W hC hc hf hL
          simp [go_sem, hc, hf]
          refine (HAK.out W).mono ?_
          rintro e w' ⟨rfl, hb⟩
          exact ⟨_, rfl, by first | exact hb | (subst hb; exact Below.refl _ _), rfl⟩
        refine gSt (gStep_run rfl (gRun_pickT 79 80 81 _ rfl rfl (by decide +kernel) (by decide +kernel) (fun v w h => h) (fun v w h => h))) ?_
        refine gSt (gStep_run rfl (gRun_move 81 6 (.inr rfl) rfl (by decide +kernel) (fun v w h => h))) ?_
        exact gSt0
      · intro W hC
        refine gFi 47 rfl ?_
        rintro _ rfl
        refine gFi 48 rfl ?_
        rintro _ rfl
        refine gFi 49 rfl ?_
        rintro _ rfl
        refine gFi 50 rfl ?_
        rintro _ rfl
        refine gFi 51 rfl ?_
        rintro _ rfl
        refine gFi 52 rfl ?_
        rintro _ rfl
        refine gFi 53 rfl ?_
        rintro _ rfl
        refine gFi 54 rfl ?_
        rintro _ rfl
        refine gFi 55 rfl ?_
        rintro _ rfl
        refine gFi 56 rfl ?_
        rintro _ rfl
        refine gFi 57 rfl ?_
        rintro _ rfl
        refine gFi 58 rfl ?_
        rintro _ rfl
        refine gFi 59 rfl ?_
        rintro _ rfl
        refine gFi 60 rfl ?_
        rintro _ rfl
        refine gFi 61 rfl ?_
        rintro _ rfl
        refine gFi 62 rfl ?_
        rintro _ rfl
        refine gFi 63 rfl ?_
        rintro _ rfl
        refine gFi 64 rfl ?_
        rintro _ rfl
        refine gFi 65 rfl ?_
        rintro _ rfl
        refine gFi 66 rfl ?_
        rintro u66 b66
        refine gFi 67 rfl ?_
        rintro _ rfl
        refine gFi 68 rfl ?_
        rintro u68 b68
        refine gFi 69 rfl ?_
        rintro u69 b69
        refine gFi 70 rfl ?_
        rintro _ rfl
        refine gFi 71 rfl ?_
        rintro _ rfl
        refine gFi 72 rfl ?_
        rintro _ rfl
        refine gFi 73 rfl ?_
        rintro _ rfl
        refine gFi 74 rfl ?_
        rintro _ rfl
        refine gFi 75 rfl ?_
        rintro _ rfl
        refine gFi 76 rfl ?_
        rintro _ rfl
        refine gFi 77 rfl ?_
        rintro _ rfl
        refine gFi 78 rfl ?_
        rintro _ rfl
        refine gFi 79 rfl ?_
        rintro _ rfl
        refine gFi 80 rfl ?_
        rintro _ rfl
        refine gFi 81 rfl ?_
        rintro _ rfl
        refine gFi 6 rfl ?_
        rintro _ rfl
        refine gFi0 ?_
        simp only [List.drop_succ_cons, List.drop_zero, Act.put, List.setIfInBounds_toArray, List.set_cons_succ, List.set_cons_zero]
        have HBE := hide hC.1.bel
        clear hC h7
        go_wp2
        go_ret
        exact ⟨rfl, HBE.out⟩

set_option maxHeartbeats 4000000 in
theorem fixTimes_A (a b m0 k p T0 pw s l x : Nat) (n m : Int) (t t2 z : Bool) (w : World) (HK : Hid ((k : Int) = min (max n 0) 1100)) (hn1 : decide (-1 ≤ n) = false) (hs : s = T0)
    (HBA : Hid (∀ w, Calls Try.prog 19 #[.agg #[.int .u64 (dgl (a) 0 : Nat), .int .u64 (dgl (a) 1 : Nat), .int .u64 (dgl (a) 2 : Nat), .int .u64 (dgl (a) 3 : Nat), .int .u64 (dgl (a) 4 : Nat), .int .u64 (dgl (a) 5 : Nat), .int .u64 (dgl (a) 6 : Nat), .int .u64 (dgl (a) 7 : Nat)]] w fun e w' => ∃ v, e = .returned v ∧ BigV w' v a 40 ∧ Below w.heap.size w w'))
    (HBB : Hid (∀ w, Calls Try.prog 19 #[.agg #[.int .u64 (dgl (b) 0 : Nat), .int .u64 (dgl (b) 1 : Nat), .int .u64 (dgl (b) 2 : Nat), .int .u64 (dgl (b) 3 : Nat), .int .u64 (dgl (b) 4 : Nat), .int .u64 (dgl (b) 5 : Nat), .int .u64 (dgl (b) 6 : Nat), .int .u64 (dgl (b) 7 : Nat)]] w fun e w' => ∃ v, e = .returned v ∧ BigV w' v b 40 ∧ Below w.heap.size w w'))
    (HMU : Hid (∀ u v w, BigV w u a 40 → BigV w v b 40 → Calls Try.prog 17 #[u, v] w fun e w' => ∃ v, e = .returned v ∧ BigV w' v m0 80 ∧ Below w.heap.size w w'))
    (HSH : Hid (∀ u w, BigV w u m0 80 → Calls Try.prog 35 #[u, .int .i64 (k : Nat)] w fun e w' => ∃ v, e = .returned v ∧ BigV w' v p 80 ∧ Below w.heap.size w w'))
    (HWP : Hid (∀ u w, BigV w u p 80 → Calls Try.prog 34 #[u] w fun e w' => e = .returned (.tuple #[.agg #[.int .u64 (dgl (p) 0 : Nat), .int .u64 (dgl (p) 1 : Nat), .int .u64 (dgl (p) 2 : Nat), .int .u64 (dgl (p) 3 : Nat), .int .u64 (dgl (p) 4 : Nat), .int .u64 (dgl (p) 5 : Nat), .int .u64 (dgl (p) 6 : Nat), .int .u64 (dgl (p) 7 : Nat)], .bool t]) ∧ Below w.heap.size w w'))
    (HWH : Hid (∀ w, Calls Try.prog 36 #[] w fun e w' => ∃ v, e = .returned v ∧ BigV w' v T0 19 ∧ Below w.heap.size w w'))
    (HSB : Hid (∀ u v w, BigV w u s 20 → BigV w v a 40 → Calls Try.prog 39 #[u, v] w fun e w' => ∃ v, e = .returned v ∧ BigV w' v l 20 ∧ Below w.heap.size w w'))
    (HWL : Hid (∀ u w, BigV w u l 20 → Calls Try.prog 34 #[u] w fun e w' => e = .returned (.tuple #[.agg #[.int .u64 (dgl (l) 0 : Nat), .int .u64 (dgl (l) 1 : Nat), .int .u64 (dgl (l) 2 : Nat), .int .u64 (dgl (l) 3 : Nat), .int .u64 (dgl (l) 4 : Nat), .int .u64 (dgl (l) 5 : Nat), .int .u64 (dgl (l) 6 : Nat), .int .u64 (dgl (l) 7 : Nat)], .bool t2]) ∧ Below w.heap.size w w'))
    (HTI : Hid (∀ w, Calls Try.prog 40 #[.agg #[.int .u64 (dgl (a) 0 : Nat), .int .u64 (dgl (a) 1 : Nat), .int .u64 (dgl (a) 2 : Nat), .int .u64 (dgl (a) 3 : Nat), .int .u64 (dgl (a) 4 : Nat), .int .u64 (dgl (a) 5 : Nat), .int .u64 (dgl (a) 6 : Nat), .int .u64 (dgl (a) 7 : Nat)], .agg #[.int .u64 (dgl (b) 0 : Nat), .int .u64 (dgl (b) 1 : Nat), .int .u64 (dgl (b) 2 : Nat), .int .u64 (dgl (b) 3 : Nat), .int .u64 (dgl (b) 4 : Nat), .int .u64 (dgl (b) 5 : Nat), .int .u64 (dgl (b) 6 : Nat), .int .u64 (dgl (b) 7 : Nat)], .int .i64 n] w fun e w' => e = .returned (.agg #[.int .u64 (dgl (p) 0 : Nat), .int .u64 (dgl (p) 1 : Nat), .int .u64 (dgl (p) 2 : Nat), .int .u64 (dgl (p) 3 : Nat), .int .u64 (dgl (p) 4 : Nat), .int .u64 (dgl (p) 5 : Nat), .int .u64 (dgl (p) 6 : Nat), .int .u64 (dgl (p) 7 : Nat)]) ∧ Below w.heap.size w w'))
    (HTW : Hid (∀ w, Calls Try.prog 41 #[.int .i64 n, .agg #[.int .u64 (dgl (a) 0 : Nat), .int .u64 (dgl (a) 1 : Nat), .int .u64 (dgl (a) 2 : Nat), .int .u64 (dgl (a) 3 : Nat), .int .u64 (dgl (a) 4 : Nat), .int .u64 (dgl (a) 5 : Nat), .int .u64 (dgl (a) 6 : Nat), .int .u64 (dgl (a) 7 : Nat)]] w fun e w' => e = .returned (.agg #[.int .u64 (dgl (l) 0 : Nat), .int .u64 (dgl (l) 1 : Nat), .int .u64 (dgl (l) 2 : Nat), .int .u64 (dgl (l) 3 : Nat), .int .u64 (dgl (l) 4 : Nat), .int .u64 (dgl (l) 5 : Nat), .int .u64 (dgl (l) 6 : Nat), .int .u64 (dgl (l) 7 : Nat)]) ∧ Below w.heap.size w w'))
    (HNE : Hid (∀ w, Calls Try.prog 42 #[.agg #[.int .u64 (dgl (a) 0 : Nat), .int .u64 (dgl (a) 1 : Nat), .int .u64 (dgl (a) 2 : Nat), .int .u64 (dgl (a) 3 : Nat), .int .u64 (dgl (a) 4 : Nat), .int .u64 (dgl (a) 5 : Nat), .int .u64 (dgl (a) 6 : Nat), .int .u64 (dgl (a) 7 : Nat)], .agg #[.int .u64 (dgl (b) 0 : Nat), .int .u64 (dgl (b) 1 : Nat), .int .u64 (dgl (b) 2 : Nat), .int .u64 (dgl (b) 3 : Nat), .int .u64 (dgl (b) 4 : Nat), .int .u64 (dgl (b) 5 : Nat), .int .u64 (dgl (b) 6 : Nat), .int .u64 (dgl (b) 7 : Nat)], .int .i64 n] w fun e w' => e = .returned (.bool z) ∧ Below w.heap.size w w'))
    (HAW : Hid (∀ u v w, BigV w u a 40 → BigV w v b 40 → Calls Try.prog 29 #[u, v] w fun e w' => ∃ v, e = .returned v ∧ BigV w' v x 40 ∧ Below w.heap.size w w'))
    (HWI : Hid (∀ u w, BigV w u x 40 → Calls Try.prog 30 #[u, .int .i64 n] w fun e w' => e = .returned (.bool z) ∧ Below w.heap.size w w'))
    (HN0 : Hid (∀ w, Calls Try.prog 42 #[.agg #[.int .u64 (dgl (a) 0 : Nat), .int .u64 (dgl (a) 1 : Nat), .int .u64 (dgl (a) 2 : Nat), .int .u64 (dgl (a) 3 : Nat), .int .u64 (dgl (a) 4 : Nat), .int .u64 (dgl (a) 5 : Nat), .int .u64 (dgl (a) 6 : Nat), .int .u64 (dgl (a) 7 : Nat)], .agg #[.int .u64 (dgl (a) 0 : Nat), .int .u64 (dgl (a) 1 : Nat), .int .u64 (dgl (a) 2 : Nat), .int .u64 (dgl (a) 3 : Nat), .int .u64 (dgl (a) 4 : Nat), .int .u64 (dgl (a) 5 : Nat), .int .u64 (dgl (a) 6 : Nat), .int .u64 (dgl (a) 7 : Nat)], .int .i64 0] w fun e w' => e = .returned (.bool true) ∧ Below w.heap.size w w'))
    (HAK : Hid (∀ w, Calls Try.prog 27 #[] w fun e w' => e = .returned (.bool true) ∧ Below w.heap.size w w'))
    (HQP : Hid (∀ w, (Op.equalIn 10000 32 (.agg #[.int .u64 (dgl (p) 0 : Nat), .int .u64 (dgl (p) 1 : Nat), .int .u64 (dgl (p) 2 : Nat), .int .u64 (dgl (p) 3 : Nat), .int .u64 (dgl (p) 4 : Nat), .int .u64 (dgl (p) 5 : Nat), .int .u64 (dgl (p) 6 : Nat), .int .u64 (dgl (p) 7 : Nat)]) (.agg #[.int .u64 (dgl (p) 0 : Nat), .int .u64 (dgl (p) 1 : Nat), .int .u64 (dgl (p) 2 : Nat), .int .u64 (dgl (p) 3 : Nat), .int .u64 (dgl (p) 4 : Nat), .int .u64 (dgl (p) 5 : Nat), .int .u64 (dgl (p) 6 : Nat), .int .u64 (dgl (p) 7 : Nat)])).run Try.prog w = .ok true w))
    (HQL : Hid (∀ w, (Op.equalIn 10000 32 (.agg #[.int .u64 (dgl (l) 0 : Nat), .int .u64 (dgl (l) 1 : Nat), .int .u64 (dgl (l) 2 : Nat), .int .u64 (dgl (l) 3 : Nat), .int .u64 (dgl (l) 4 : Nat), .int .u64 (dgl (l) 5 : Nat), .int .u64 (dgl (l) 6 : Nat), .int .u64 (dgl (l) 7 : Nat)]) (.agg #[.int .u64 (dgl (l) 0 : Nat), .int .u64 (dgl (l) 1 : Nat), .int .u64 (dgl (l) 2 : Nat), .int .u64 (dgl (l) 3 : Nat), .int .u64 (dgl (l) 4 : Nat), .int .u64 (dgl (l) 5 : Nat), .int .u64 (dgl (l) 6 : Nat), .int .u64 (dgl (l) 7 : Nat)])).run Try.prog w = .ok true w)) :
    Calls Try.prog 8 #[.agg #[.int .u64 (dgl (a) 0 : Nat), .int .u64 (dgl (a) 1 : Nat), .int .u64 (dgl (a) 2 : Nat), .int .u64 (dgl (a) 3 : Nat), .int .u64 (dgl (a) 4 : Nat), .int .u64 (dgl (a) 5 : Nat), .int .u64 (dgl (a) 6 : Nat), .int .u64 (dgl (a) 7 : Nat)], .agg #[.int .u64 (dgl (b) 0 : Nat), .int .u64 (dgl (b) 1 : Nat), .int .u64 (dgl (b) 2 : Nat), .int .u64 (dgl (b) 3 : Nat), .int .u64 (dgl (b) 4 : Nat), .int .u64 (dgl (b) 5 : Nat), .int .u64 (dgl (b) 6 : Nat), .int .u64 (dgl (b) 7 : Nat)], .int .i64 n] w fun e w' => e = .returned (.bool true) ∧ Below w.heap.size w w' := by
  have HST := hide (twSt_start a b w 32 32)
  go_enter Try.func8, Try.ntmps8
  go_upto_region 1 with fail
  refine wp_gen (fun W => TwSt a b w W) HST.out ?_
  clear HST
  rintro W0 h0
  go_cut [7] (fun y wx => y = .int .i64 (k : Nat) ∧ wx = W0)
  case first =>
    go_wp2
    all_goals
      go_meet
      exact ⟨by rw [HK.out]; first | done | (congr 1; omega), rfl⟩
  case rest =>
    obtain ⟨rfl, rfl⟩ := hcut
    go_upto_region 2 with fail
    refine wp_gen (fun W => TwSt a b w W) h0 ?_
    clear h0
    rintro W2 h2
    refine wp_region_storeK 14 [12] [17, 18, 19, 20, 21, 22, 23, 24, 16, 25, 26, 8, 9] (fun bs => [(17, .val (.agg #[.int .u64 (dgl (a) 0 : Nat), .int .u64 (dgl (a) 1 : Nat), .int .u64 (dgl (a) 2 : Nat), .int .u64 (dgl (a) 3 : Nat), .int .u64 (dgl (a) 4 : Nat), .int .u64 (dgl (a) 5 : Nat), .int .u64 (dgl (a) 6 : Nat), .int .u64 (dgl (a) 7 : Nat)])), (18, bif bs.headD false then SlotIs.any  else SlotIs.big (a) (40)), (19, .val (.agg #[.int .u64 (dgl (b) 0 : Nat), .int .u64 (dgl (b) 1 : Nat), .int .u64 (dgl (b) 2 : Nat), .int .u64 (dgl (b) 3 : Nat), .int .u64 (dgl (b) 4 : Nat), .int .u64 (dgl (b) 5 : Nat), .int .u64 (dgl (b) 6 : Nat), .int .u64 (dgl (b) 7 : Nat)])), (20, bif bs.headD false then SlotIs.any  else SlotIs.big (b) (40)), (21, bif bs.headD false then SlotIs.any  else SlotIs.big (m0) (80)), (22, .val (.int .i64 (k : Nat))), (23, bif bs.headD false then SlotIs.any  else SlotIs.big (p) (80)), (24, .val (.tuple #[.agg #[.int .u64 (dgl (p) 0 : Nat), .int .u64 (dgl (p) 1 : Nat), .int .u64 (dgl (p) 2 : Nat), .int .u64 (dgl (p) 3 : Nat), .int .u64 (dgl (p) 4 : Nat), .int .u64 (dgl (p) 5 : Nat), .int .u64 (dgl (p) 6 : Nat), .int .u64 (dgl (p) 7 : Nat)], .bool t])), (16, .val (.tuple #[.agg #[.int .u64 (dgl (p) 0 : Nat), .int .u64 (dgl (p) 1 : Nat), .int .u64 (dgl (p) 2 : Nat), .int .u64 (dgl (p) 3 : Nat), .int .u64 (dgl (p) 4 : Nat), .int .u64 (dgl (p) 5 : Nat), .int .u64 (dgl (p) 6 : Nat), .int .u64 (dgl (p) 7 : Nat)], .bool t])), (25, .val (.agg #[.int .u64 (dgl (p) 0 : Nat), .int .u64 (dgl (p) 1 : Nat), .int .u64 (dgl (p) 2 : Nat), .int .u64 (dgl (p) 3 : Nat), .int .u64 (dgl (p) 4 : Nat), .int .u64 (dgl (p) 5 : Nat), .int .u64 (dgl (p) 6 : Nat), .int .u64 (dgl (p) 7 : Nat)])), (26, .val (.bool t)), (8, bif bs.headD false then SlotIs.box (w.heap.size + 2) (dgl p) else SlotIs.box (w.heap.size + 2) (fun _ => 0)), (9, .val (.bool t))])
      (fun _ W => TwSt a b w W) (fun bs => rfl) mixedOk (by kernel_rfl) (by kernel_rfl) (by kernel_rfl) (h2.below (Below.refl _ _).drew) (fun bs W W' h hb => h.below hb) ?_ ?_
    · refine kSt rfl (fun φ hφ => gStep_run rfl ?_) ?_
      · intro ρ W hC hc hf hL
        have e3 : ρ (.tmp 3) = .pointer (some ⟨w.heap.size, 0, none⟩) := hL 3 (by decide +kernel)
        have hl := hC.la.1
        simp [go_sem, hc, hf, e3, hl]
        exact ⟨Below.refl _ _, rfl⟩
      refine kSt rfl (fun φ hφ => gStep_run rfl ?_) ?_
      · intro ρ W hC hc hf hL
        have hφ0 : φ 12 = false := hφ 12 (by simp) (by kernel_rfl)
        have e17 : ρ (.tmp 17) = .agg #[.int .u64 (dgl (a) 0 : Nat), .int .u64 (dgl (a) 1 : Nat), .int .u64 (dgl (a) 2 : Nat), .int .u64 (dgl (a) 3 : Nat), .int .u64 (dgl (a) 4 : Nat), .int .u64 (dgl (a) 5 : Nat), .int .u64 (dgl (a) 6 : Nat), .int .u64 (dgl (a) 7 : Nat)] := hL 17 (by decide +kernel)
        simp [go_sem, hc, hf, e17]
        refine (HBA.out W).mono ?_
        rintro e w' ⟨v, rfl, hv, hb⟩
        refine ⟨_, rfl, hb, ?_⟩
        show (bif φ 12 then SlotIs.any else SlotIs.big (a) (40)).R _ _
        rw [hφ0]
        exact hv
      refine kSt rfl (fun φ hφ => gStep_run rfl ?_) ?_
      · intro ρ W hC hc hf hL
        have e4 : ρ (.tmp 4) = .pointer (some ⟨w.heap.size + 1, 0, none⟩) := hL 4 (by decide +kernel)
        have hl := hC.lb.1
        simp [go_sem, hc, hf, e4, hl]
        exact ⟨Below.refl _ _, rfl⟩
      refine kSt rfl (fun φ hφ => gStep_run rfl ?_) ?_
      · intro ρ W hC hc hf hL
        have hφ0 : φ 12 = false := hφ 12 (by simp) (by kernel_rfl)
        have e19 : ρ (.tmp 19) = .agg #[.int .u64 (dgl (b) 0 : Nat), .int .u64 (dgl (b) 1 : Nat), .int .u64 (dgl (b) 2 : Nat), .int .u64 (dgl (b) 3 : Nat), .int .u64 (dgl (b) 4 : Nat), .int .u64 (dgl (b) 5 : Nat), .int .u64 (dgl (b) 6 : Nat), .int .u64 (dgl (b) 7 : Nat)] := hL 19 (by decide +kernel)
        simp [go_sem, hc, hf, e19]
        refine (HBB.out W).mono ?_
        rintro e w' ⟨v, rfl, hv, hb⟩
        refine ⟨_, rfl, hb, ?_⟩
        show (bif φ 12 then SlotIs.any else SlotIs.big (b) (40)).R _ _
        rw [hφ0]
        exact hv
      refine kSt rfl (fun φ hφ => gStep_run rfl ?_) ?_
      · intro ρ W hC hc hf hL
        have hφ0 : φ 12 = false := hφ 12 (by simp) (by kernel_rfl)
        have b18 : (bif φ 12 then SlotIs.any  else SlotIs.big (a) (40)).R (ρ (.tmp 18)) W := hL 18 (by decide +kernel)
        rw [hφ0] at b18
        have b20 : (bif φ 12 then SlotIs.any  else SlotIs.big (b) (40)).R (ρ (.tmp 20)) W := hL 20 (by decide +kernel)
        rw [hφ0] at b20
        simp [go_sem, hc, hf]
        refine (HMU.out _ _ W b18 b20).mono ?_
        rintro e w' ⟨v, rfl, hv, hb⟩
        refine ⟨_, rfl, hb, ?_⟩
        show (bif φ 12 then SlotIs.any else SlotIs.big (m0) (80)).R _ _
        rw [hφ0]
        exact hv
      refine kSt rfl (fun φ hφ => gStep_run rfl (gRun_move 7 22 (.inl rfl) rfl (by decide +kernel) (fun v w h => h))) ?_
      refine kSt rfl (fun φ hφ => gStep_run rfl ?_) ?_
      · intro ρ W hC hc hf hL
        have hφ0 : φ 12 = false := hφ 12 (by simp) (by kernel_rfl)
        have b21 : (bif φ 12 then SlotIs.any  else SlotIs.big (m0) (80)).R (ρ (.tmp 21)) W := hL 21 (by decide +kernel)
        rw [hφ0] at b21
        have e22 : ρ (.tmp 22) = .int .i64 (k : Nat) := hL 22 (by decide +kernel)
        simp [go_sem, hc, hf, e22]
        refine (HSH.out _ W b21).mono ?_
        rintro e w' ⟨v, rfl, hv, hb⟩
        refine ⟨_, rfl, hb, ?_⟩
        show (bif φ 12 then SlotIs.any else SlotIs.big (p) (80)).R _ _
        rw [hφ0]
        exact hv
      refine kSt rfl (fun φ hφ => gStep_run rfl ?_) ?_
      · intro ρ W hC hc hf hL
        have hφ0 : φ 12 = false := hφ 12 (by simp) (by kernel_rfl)
        have b23 : (bif φ 12 then SlotIs.any  else SlotIs.big (p) (80)).R (ρ (.tmp 23)) W := hL 23 (by decide +kernel)
        rw [hφ0] at b23
        simp [go_sem, hc, hf]
        refine (HWP.out _ W b23).mono ?_
        rintro e w' ⟨rfl, hb⟩
        exact ⟨_, rfl, by first | exact hb | (subst hb; exact Below.refl _ _), rfl⟩
      refine kSt rfl (fun φ hφ => gStep_run rfl (gRun_move 24 16 (.inl rfl) rfl (by decide +kernel) (fun v w h => h))) ?_
      refine kSt rfl (fun φ hφ => gStep_run rfl ?_) ?_
      · intro ρ W hC hc hf hL
        have e16 : ρ (.tmp 16) = .tuple #[.agg #[.int .u64 (dgl (p) 0 : Nat), .int .u64 (dgl (p) 1 : Nat), .int .u64 (dgl (p) 2 : Nat), .int .u64 (dgl (p) 3 : Nat), .int .u64 (dgl (p) 4 : Nat), .int .u64 (dgl (p) 5 : Nat), .int .u64 (dgl (p) 6 : Nat), .int .u64 (dgl (p) 7 : Nat)], .bool t] := hL 16 (by decide +kernel)
        simp [go_sem, hc, hf, e16]
        exact ⟨Below.refl _ _, rfl⟩
      refine kSt rfl (fun φ hφ => gStep_run rfl ?_) ?_
      · intro ρ W hC hc hf hL
        have e16 : ρ (.tmp 16) = .tuple #[.agg #[.int .u64 (dgl (p) 0 : Nat), .int .u64 (dgl (p) 1 : Nat), .int .u64 (dgl (p) 2 : Nat), .int .u64 (dgl (p) 3 : Nat), .int .u64 (dgl (p) 4 : Nat), .int .u64 (dgl (p) 5 : Nat), .int .u64 (dgl (p) 6 : Nat), .int .u64 (dgl (p) 7 : Nat)], .bool t] := hL 16 (by decide +kernel)
        simp [go_sem, hc, hf, e16]
        exact ⟨Below.refl _ _, rfl⟩
      refine kSt rfl (fun φ hφ => gStep_run rfl ?_) ?_
      · intro ρ W hC hc hf hL
        have hφ0 : φ 12 = false := hφ 12 (by simp) (by kernel_rfl)
        simp [go_sem, hc, hf]
        refine ⟨below_allocs _ _, ?_⟩
        show (bif φ 12 then SlotIs.box (w.heap.size + 2) (dgl p) else SlotIs.box (w.heap.size + 2) (fun _ => 0)).R _ _
        rw [hφ0]
        exact ⟨_, rfl, hC.lb.2, liesF_new _ (fun _ => 0) _, fun i => by simp [go_sem]⟩
      refine kStS rfl ⟨rfl, rfl, ?_⟩ ?_
      · intro φ ρ W hφ hC hc hL
        have b8 := hL 8 (by decide +kernel)
        have e25 : ρ (.tmp 25) = .agg #[.int .u64 (dgl (p) 0 : Nat), .int .u64 (dgl (p) 1 : Nat), .int .u64 (dgl (p) 2 : Nat), .int .u64 (dgl (p) 3 : Nat), .int .u64 (dgl (p) 4 : Nat), .int .u64 (dgl (p) 5 : Nat), .int .u64 (dgl (p) 6 : Nat), .int .u64 (dgl (p) 7 : Nat)] := hL 25 (by decide +kernel)
        have bx : (bif φ 12 then SlotIs.box (w.heap.size + 2) (dgl p) else SlotIs.box (w.heap.size + 2) (fun _ => 0)).R (ρ (.tmp 8)) W := hL 8 (by decide +kernel)
        rw [hφ] at bx
        obtain ⟨px, ex, qx, lx, zx⟩ := bx
        have hz := lx.1
        have hzl := lx.2
        refine gUpon_of ((((((((W.setCell ⟨px, 0, none⟩ (.int .u64 (dgl p 0 : Nat))).setCell ⟨px, 1, none⟩ (.int .u64 (dgl p 1 : Nat))).setCell ⟨px, 2, none⟩ (.int .u64 (dgl p 2 : Nat))).setCell ⟨px, 3, none⟩ (.int .u64 (dgl p 3 : Nat))).setCell ⟨px, 4, none⟩ (.int .u64 (dgl p 4 : Nat))).setCell ⟨px, 5, none⟩ (.int .u64 (dgl p 5 : Nat))).setCell ⟨px, 6, none⟩ (.int .u64 (dgl p 6 : Nat))).setCell ⟨px, 7, none⟩ (.int .u64 (dgl p 7 : Nat))) ?_ (fun _ => ?_)
        · simp [go_sem, hc, e25, ex, hz, hzl, zx, gUpon]
        have hs8 := below_set8 (Below.refl (w.heap.size + 2) W) px qx (.int .u64 (dgl p 0 : Nat)) (.int .u64 (dgl p 1 : Nat)) (.int .u64 (dgl p 2 : Nat)) (.int .u64 (dgl p 3 : Nat)) (.int .u64 (dgl p 4 : Nat)) (.int .u64 (dgl p 5 : Nat)) (.int .u64 (dgl p 6 : Nat)) (.int .u64 (dgl p 7 : Nat))
        refine ⟨hC.under hs8 (by omega), fun t => ?_⟩
        refine (tbl_imp rfl (fun _ => val_imp) (tbl_imp rfl (fun ht h => ?_) (tbl_imp rfl (fun _ => val_imp) (tbl_imp rfl (fun ht h => ?_) (tbl_imp rfl (fun ht h => ?_) (tbl_imp rfl (fun _ => val_imp) (tbl_imp rfl (fun ht h => ?_) (tbl_imp rfl (fun _ => val_imp) (tbl_imp rfl (fun _ => val_imp) (tbl_imp rfl (fun _ => val_imp) (tbl_imp rfl (fun _ => val_imp) (tbl_imp rfl (fun ht h => ?_) (tbl_imp rfl (fun _ => val_imp) tbl_nil_imp)))))))))))))
        · show (bif (φ 12 || true) then SlotIs.any else SlotIs.big (a) (40)).R _ _
          rw [Bool.or_true]
          trivial
        · show (bif (φ 12 || true) then SlotIs.any else SlotIs.big (b) (40)).R _ _
          rw [Bool.or_true]
          trivial
        · show (bif (φ 12 || true) then SlotIs.any else SlotIs.big (m0) (80)).R _ _
          rw [Bool.or_true]
          trivial
        · show (bif (φ 12 || true) then SlotIs.any else SlotIs.big (p) (80)).R _ _
          rw [Bool.or_true]
          trivial
        · subst ht
          show (bif (φ 12 || true) then SlotIs.box (w.heap.size + 2) (dgl p) else SlotIs.box (w.heap.size + 2) (fun _ => 0)).R _ _
          rw [Bool.or_true]
          exact ⟨px, ex, qx, set8_same W px (dgl p) (fun _ => 0) lx, fun i => by simpa [go_sem] using zx i⟩
      refine kSt rfl (fun φ hφ => gStep_run rfl (gRun_move 26 9 (.inr rfl) rfl (by decide +kernel) (fun v w h => h))) ?_
      exact kSt0
    · intro W hC
      refine gFi 17 rfl ?_
      rintro _ rfl
      refine gFi 18 rfl ?_
      rintro u18 b18
      refine gFi 19 rfl ?_
      rintro _ rfl
      refine gFi 20 rfl ?_
      rintro u20 b20
      refine gFi 21 rfl ?_
      rintro u21 b21
      refine gFi 22 rfl ?_
      rintro _ rfl
      refine gFi 23 rfl ?_
      rintro u23 b23
      refine gFi 24 rfl ?_
      rintro _ rfl
      refine gFi 16 rfl ?_
      rintro _ rfl
      refine gFi 25 rfl ?_
      rintro _ rfl
      refine gFi 26 rfl ?_
      rintro _ rfl
      refine gFi 8 rfl ?_
      rintro _ ⟨p8, rfl, q8, l8, z8⟩
      refine gFiN rfl ?_
      refine gFi 9 rfl ?_
      rintro _ rfl
      refine gFi0 ?_
      simp only [List.drop_succ_cons, List.drop_zero, Act.put, List.setIfInBounds_toArray, List.set_cons_succ, List.set_cons_zero]
      have HS := hide hC
      have HP := hide l8
      clear hC h2 l8 z8 b18 b20 b21 b23
      clear HMU HSH HWP HK

      go_wp2_with fail
      refine (HWH.out _).mono ?_
      rintro e w3 ⟨v3, rfl, hv3, hb3⟩
      replace HS := hide (HS.out.below hb3)
      replace HP := hide (HP.out.below hb3)
      clear hb3 HWH
      subst hs
      have hv5 := BigV.mono hv3 (show 19 ≤ 20 by decide)
      clear hv3
      have ha := HS.out.la.1
      go_wp2_with fail
      refine (HBA.out _).mono ?_
      rintro e w6 ⟨v6, rfl, hv6, hb6⟩
      replace HS := hide (HS.out.below hb6)
      replace HP := hide (HP.out.below hb6)
      replace hv5 := BigV.below hv5 hb6
      clear hb6 ha
      go_wp2_with fail
      refine (HSB.out _ _ _ hv5 hv6).mono ?_
      rintro e w7 ⟨v7, rfl, hv7, hb7⟩
      replace HS := hide (HS.out.below hb7)
      replace HP := hide (HP.out.below hb7)
      clear hb7 HSB hv5 hv6
      go_wp2_with fail
      refine (HWL.out _ _ hv7).mono ?_
      rintro e w8 ⟨rfl, hb8⟩
      replace HS := hide (HS.out.below hb8)
      replace HP := hide (HP.out.below hb8)
      clear hb8 HWL hv7
      go_upto_region 7 with fail
      refine wp_gen (fun W => TwSt a b w W ∧ LiesF W p8 (dgl p) ∧ LiesF W w8.heap.size (dgl l)) ⟨HS.out.below (below_allocs _ _), HP.out.below (below_allocs _ _), liesF_new w8 (dgl l) _⟩ ?_
      clear HS HP
      generalize w8.heap.size = p11 at *
      rintro W7 h7
      refine wp_region_grow 36 [(47, .val (.agg #[.int .u64 (dgl (a) 0 : Nat), .int .u64 (dgl (a) 1 : Nat), .int .u64 (dgl (a) 2 : Nat), .int .u64 (dgl (a) 3 : Nat), .int .u64 (dgl (a) 4 : Nat), .int .u64 (dgl (a) 5 : Nat), .int .u64 (dgl (a) 6 : Nat), .int .u64 (dgl (a) 7 : Nat)])), (48, .val (.agg #[.int .u64 (dgl (b) 0 : Nat), .int .u64 (dgl (b) 1 : Nat), .int .u64 (dgl (b) 2 : Nat), .int .u64 (dgl (b) 3 : Nat), .int .u64 (dgl (b) 4 : Nat), .int .u64 (dgl (b) 5 : Nat), .int .u64 (dgl (b) 6 : Nat), .int .u64 (dgl (b) 7 : Nat)])), (49, .val (.int .i64 n)), (50, .val (.agg #[.int .u64 (dgl (p) 0 : Nat), .int .u64 (dgl (p) 1 : Nat), .int .u64 (dgl (p) 2 : Nat), .int .u64 (dgl (p) 3 : Nat), .int .u64 (dgl (p) 4 : Nat), .int .u64 (dgl (p) 5 : Nat), .int .u64 (dgl (p) 6 : Nat), .int .u64 (dgl (p) 7 : Nat)])), (51, .val (.agg #[.int .u64 (dgl (p) 0 : Nat), .int .u64 (dgl (p) 1 : Nat), .int .u64 (dgl (p) 2 : Nat), .int .u64 (dgl (p) 3 : Nat), .int .u64 (dgl (p) 4 : Nat), .int .u64 (dgl (p) 5 : Nat), .int .u64 (dgl (p) 6 : Nat), .int .u64 (dgl (p) 7 : Nat)])), (52, .val (.bool true)), (53, .val (.bool true)), (54, .val (.int .i64 n)), (55, .val (.agg #[.int .u64 (dgl (a) 0 : Nat), .int .u64 (dgl (a) 1 : Nat), .int .u64 (dgl (a) 2 : Nat), .int .u64 (dgl (a) 3 : Nat), .int .u64 (dgl (a) 4 : Nat), .int .u64 (dgl (a) 5 : Nat), .int .u64 (dgl (a) 6 : Nat), .int .u64 (dgl (a) 7 : Nat)])), (56, .val (.agg #[.int .u64 (dgl (l) 0 : Nat), .int .u64 (dgl (l) 1 : Nat), .int .u64 (dgl (l) 2 : Nat), .int .u64 (dgl (l) 3 : Nat), .int .u64 (dgl (l) 4 : Nat), .int .u64 (dgl (l) 5 : Nat), .int .u64 (dgl (l) 6 : Nat), .int .u64 (dgl (l) 7 : Nat)])), (57, .val (.agg #[.int .u64 (dgl (l) 0 : Nat), .int .u64 (dgl (l) 1 : Nat), .int .u64 (dgl (l) 2 : Nat), .int .u64 (dgl (l) 3 : Nat), .int .u64 (dgl (l) 4 : Nat), .int .u64 (dgl (l) 5 : Nat), .int .u64 (dgl (l) 6 : Nat), .int .u64 (dgl (l) 7 : Nat)])), (58, .val (.bool true)), (59, .val (.bool true)), (60, .val (.bool true)), (61, .val (.agg #[.int .u64 (dgl (a) 0 : Nat), .int .u64 (dgl (a) 1 : Nat), .int .u64 (dgl (a) 2 : Nat), .int .u64 (dgl (a) 3 : Nat), .int .u64 (dgl (a) 4 : Nat), .int .u64 (dgl (a) 5 : Nat), .int .u64 (dgl (a) 6 : Nat), .int .u64 (dgl (a) 7 : Nat)])), (62, .val (.agg #[.int .u64 (dgl (b) 0 : Nat), .int .u64 (dgl (b) 1 : Nat), .int .u64 (dgl (b) 2 : Nat), .int .u64 (dgl (b) 3 : Nat), .int .u64 (dgl (b) 4 : Nat), .int .u64 (dgl (b) 5 : Nat), .int .u64 (dgl (b) 6 : Nat), .int .u64 (dgl (b) 7 : Nat)])), (63, .val (.int .i64 n)), (64, .val (.bool z)), (65, .val (.agg #[.int .u64 (dgl (a) 0 : Nat), .int .u64 (dgl (a) 1 : Nat), .int .u64 (dgl (a) 2 : Nat), .int .u64 (dgl (a) 3 : Nat), .int .u64 (dgl (a) 4 : Nat), .int .u64 (dgl (a) 5 : Nat), .int .u64 (dgl (a) 6 : Nat), .int .u64 (dgl (a) 7 : Nat)])), (66, .big a 40), (67, .val (.agg #[.int .u64 (dgl (b) 0 : Nat), .int .u64 (dgl (b) 1 : Nat), .int .u64 (dgl (b) 2 : Nat), .int .u64 (dgl (b) 3 : Nat), .int .u64 (dgl (b) 4 : Nat), .int .u64 (dgl (b) 5 : Nat), .int .u64 (dgl (b) 6 : Nat), .int .u64 (dgl (b) 7 : Nat)])), (68, .big b 40), (69, .big x 40), (70, .val (.int .i64 n)), (71, .val (.bool z)), (72, .val (.bool true)), (73, .val (.bool true)), (74, .val (.bool true)), (75, .val (.agg #[.int .u64 (dgl (a) 0 : Nat), .int .u64 (dgl (a) 1 : Nat), .int .u64 (dgl (a) 2 : Nat), .int .u64 (dgl (a) 3 : Nat), .int .u64 (dgl (a) 4 : Nat), .int .u64 (dgl (a) 5 : Nat), .int .u64 (dgl (a) 6 : Nat), .int .u64 (dgl (a) 7 : Nat)])), (76, .val (.agg #[.int .u64 (dgl (a) 0 : Nat), .int .u64 (dgl (a) 1 : Nat), .int .u64 (dgl (a) 2 : Nat), .int .u64 (dgl (a) 3 : Nat), .int .u64 (dgl (a) 4 : Nat), .int .u64 (dgl (a) 5 : Nat), .int .u64 (dgl (a) 6 : Nat), .int .u64 (dgl (a) 7 : Nat)])), (77, .val (.bool true)), (78, .val (.bool true)), (79, .val (.bool true)), (80, .val (.bool true)), (81, .val (.bool true)), (6, .val (.bool true))]
        (fun W => TwSt a b w W ∧ LiesF W p8 (dgl p) ∧ LiesF W p11 (dgl l)) mixedOk (by kernel_rfl) (by kernel_rfl) (⟨h7.1.below (Below.refl _ _).drew, h7.2.1.below (Below.refl _ _).drew, h7.2.2.below (Below.refl _ _).drew⟩) (fun W W' h hb => ⟨h.1.below hb, h.2.1.below hb, h.2.2.below hb⟩) ?_ ?_
      · refine gSt (gStep_run rfl ?_) ?_
        · intro ρ W hC hc hf hL
          have e3 : ρ (.tmp 3) = .pointer (some ⟨w.heap.size, 0, none⟩) := hL 3 (by decide +kernel)
          have hl := hC.1.la.1
          simp [go_sem, hc, hf, e3, hl]
          exact ⟨Below.refl _ _, rfl⟩
        refine gSt (gStep_run rfl ?_) ?_
        · intro ρ W hC hc hf hL
          have e4 : ρ (.tmp 4) = .pointer (some ⟨w.heap.size + 1, 0, none⟩) := hL 4 (by decide +kernel)
          have hl := hC.1.lb.1
          simp [go_sem, hc, hf, e4, hl]
          exact ⟨Below.refl _ _, rfl⟩
        refine gSt (gStep_run rfl (gRun_move 2 49 (.inl rfl) rfl (by decide +kernel) (fun v w h => h))) ?_
        refine gSt (gStep_run rfl ?_) ?_
        · intro ρ W hC hc hf hL
          have e47 : ρ (.tmp 47) = .agg #[.int .u64 (dgl (a) 0 : Nat), .int .u64 (dgl (a) 1 : Nat), .int .u64 (dgl (a) 2 : Nat), .int .u64 (dgl (a) 3 : Nat), .int .u64 (dgl (a) 4 : Nat), .int .u64 (dgl (a) 5 : Nat), .int .u64 (dgl (a) 6 : Nat), .int .u64 (dgl (a) 7 : Nat)] := hL 47 (by decide +kernel)
          have e48 : ρ (.tmp 48) = .agg #[.int .u64 (dgl (b) 0 : Nat), .int .u64 (dgl (b) 1 : Nat), .int .u64 (dgl (b) 2 : Nat), .int .u64 (dgl (b) 3 : Nat), .int .u64 (dgl (b) 4 : Nat), .int .u64 (dgl (b) 5 : Nat), .int .u64 (dgl (b) 6 : Nat), .int .u64 (dgl (b) 7 : Nat)] := hL 48 (by decide +kernel)
          have e49 : ρ (.tmp 49) = .int .i64 n := hL 49 (by decide +kernel)
          simp [go_sem, hc, hf, e47, e48, e49]
          refine (HTI.out W).mono ?_
          rintro e w' ⟨rfl, hb⟩
          exact ⟨_, rfl, by first | exact hb | (subst hb; exact Below.refl _ _), rfl⟩
        refine gSt (gStep_run rfl ?_) ?_
        · intro ρ W hC hc hf hL
          have e8 : ρ (.tmp 8) = .pointer (some ⟨p8, 0, none⟩) := hL 8 (by decide +kernel)
          have hl := hC.2.1.1
          simp [go_sem, hc, hf, e8, hl]
          exact ⟨Below.refl _ _, rfl⟩
        refine gSt (gStep_run rfl ?_) ?_
        · intro ρ W hC hc hf hL
          have e50 : ρ (.tmp 50) = .agg #[.int .u64 (dgl (p) 0 : Nat), .int .u64 (dgl (p) 1 : Nat), .int .u64 (dgl (p) 2 : Nat), .int .u64 (dgl (p) 3 : Nat), .int .u64 (dgl (p) 4 : Nat), .int .u64 (dgl (p) 5 : Nat), .int .u64 (dgl (p) 6 : Nat), .int .u64 (dgl (p) 7 : Nat)] := hL 50 (by decide +kernel)
          have e51 : ρ (.tmp 51) = .agg #[.int .u64 (dgl (p) 0 : Nat), .int .u64 (dgl (p) 1 : Nat), .int .u64 (dgl (p) 2 : Nat), .int .u64 (dgl (p) 3 : Nat), .int .u64 (dgl (p) 4 : Nat), .int .u64 (dgl (p) 5 : Nat), .int .u64 (dgl (p) 6 : Nat), .int .u64 (dgl (p) 7 : Nat)] := hL 51 (by decide +kernel)
          have hq := HQP.out W
          simp [go_sem, hc, hf, e50, e51, hq]
          exact ⟨Below.refl _ _, rfl⟩
        refine gSt (gStep_run rfl (gRun_move 52 53 (.inl rfl) rfl (by decide +kernel) (fun v w h => h))) ?_
        refine gSt (gStep_on 6 53 true rfl rfl (by decide +kernel) (fun v w h => h) (gRun_move 2 54 (.inl rfl) rfl (by decide +kernel) (fun v w h => h))) ?_
        refine gSt (gStep_on 6 53 true rfl rfl (by decide +kernel) (fun v w h => h) ?_) ?_
        · intro ρ W hC hc hf hL
          have e3 : ρ (.tmp 3) = .pointer (some ⟨w.heap.size, 0, none⟩) := hL 3 (by decide +kernel)
          have hl := hC.1.la.1
          simp [go_sem, hc, hf, e3, hl]
          exact ⟨Below.refl _ _, rfl⟩
        refine gSt (gStep_on 6 53 true rfl rfl (by decide +kernel) (fun v w h => h) ?_) ?_
        · intro ρ W hC hc hf hL
          have e54 : ρ (.tmp 54) = .int .i64 n := hL 54 (by decide +kernel)
          have e55 : ρ (.tmp 55) = .agg #[.int .u64 (dgl (a) 0 : Nat), .int .u64 (dgl (a) 1 : Nat), .int .u64 (dgl (a) 2 : Nat), .int .u64 (dgl (a) 3 : Nat), .int .u64 (dgl (a) 4 : Nat), .int .u64 (dgl (a) 5 : Nat), .int .u64 (dgl (a) 6 : Nat), .int .u64 (dgl (a) 7 : Nat)] := hL 55 (by decide +kernel)
          simp [go_sem, hc, hf, e54, e55]
          refine (HTW.out W).mono ?_
          rintro e w' ⟨rfl, hb⟩
          exact ⟨_, rfl, by first | exact hb | (subst hb; exact Below.refl _ _), rfl⟩
        refine gSt (gStep_on 6 53 true rfl rfl (by decide +kernel) (fun v w h => h) ?_) ?_
        · intro ρ W hC hc hf hL
          have e11 : ρ (.tmp 11) = .pointer (some ⟨p11, 0, none⟩) := hL 11 (by decide +kernel)
          have hl := hC.2.2.1
          simp [go_sem, hc, hf, e11, hl]
          exact ⟨Below.refl _ _, rfl⟩
        refine gSt (gStep_on 6 53 true rfl rfl (by decide +kernel) (fun v w h => h) ?_) ?_
        · intro ρ W hC hc hf hL
          have e56 : ρ (.tmp 56) = .agg #[.int .u64 (dgl (l) 0 : Nat), .int .u64 (dgl (l) 1 : Nat), .int .u64 (dgl (l) 2 : Nat), .int .u64 (dgl (l) 3 : Nat), .int .u64 (dgl (l) 4 : Nat), .int .u64 (dgl (l) 5 : Nat), .int .u64 (dgl (l) 6 : Nat), .int .u64 (dgl (l) 7 : Nat)] := hL 56 (by decide +kernel)
          have e57 : ρ (.tmp 57) = .agg #[.int .u64 (dgl (l) 0 : Nat), .int .u64 (dgl (l) 1 : Nat), .int .u64 (dgl (l) 2 : Nat), .int .u64 (dgl (l) 3 : Nat), .int .u64 (dgl (l) 4 : Nat), .int .u64 (dgl (l) 5 : Nat), .int .u64 (dgl (l) 6 : Nat), .int .u64 (dgl (l) 7 : Nat)] := hL 57 (by decide +kernel)
          have hq := HQL.out W
          simp [go_sem, hc, hf, e56, e57, hq]
          exact ⟨Below.refl _ _, rfl⟩
        refine gSt (gStep_run rfl (gRun_pickT 53 58 59 _ rfl rfl (by decide +kernel) (by decide +kernel) (fun v w h => h) (fun v w h => h))) ?_
        refine gSt (gStep_run rfl (gRun_move 59 60 (.inl rfl) rfl (by decide +kernel) (fun v w h => h))) ?_
        refine gSt (gStep_on 13 60 true rfl rfl (by decide +kernel) (fun v w h => h) ?_) ?_
        · intro ρ W hC hc hf hL
          have e3 : ρ (.tmp 3) = .pointer (some ⟨w.heap.size, 0, none⟩) := hL 3 (by decide +kernel)
          have hl := hC.1.la.1
          simp [go_sem, hc, hf, e3, hl]
          exact ⟨Below.refl _ _, rfl⟩
        refine gSt (gStep_on 13 60 true rfl rfl (by decide +kernel) (fun v w h => h) ?_) ?_
        · intro ρ W hC hc hf hL
          have e4 : ρ (.tmp 4) = .pointer (some ⟨w.heap.size + 1, 0, none⟩) := hL 4 (by decide +kernel)
          have hl := hC.1.lb.1
          simp [go_sem, hc, hf, e4, hl]
          exact ⟨Below.refl _ _, rfl⟩
        refine gSt (gStep_on 13 60 true rfl rfl (by decide +kernel) (fun v w h => h) (gRun_move 2 63 (.inl rfl) rfl (by decide +kernel) (fun v w h => h))) ?_
        refine gSt (gStep_on 13 60 true rfl rfl (by decide +kernel) (fun v w h => h) ?_) ?_
        · intro ρ W hC hc hf hL
          have e61 : ρ (.tmp 61) = .agg #[.int .u64 (dgl (a) 0 : Nat), .int .u64 (dgl (a) 1 : Nat), .int .u64 (dgl (a) 2 : Nat), .int .u64 (dgl (a) 3 : Nat), .int .u64 (dgl (a) 4 : Nat), .int .u64 (dgl (a) 5 : Nat), .int .u64 (dgl (a) 6 : Nat), .int .u64 (dgl (a) 7 : Nat)] := hL 61 (by decide +kernel)
          have e62 : ρ (.tmp 62) = .agg #[.int .u64 (dgl (b) 0 : Nat), .int .u64 (dgl (b) 1 : Nat), .int .u64 (dgl (b) 2 : Nat), .int .u64 (dgl (b) 3 : Nat), .int .u64 (dgl (b) 4 : Nat), .int .u64 (dgl (b) 5 : Nat), .int .u64 (dgl (b) 6 : Nat), .int .u64 (dgl (b) 7 : Nat)] := hL 62 (by decide +kernel)
          have e63 : ρ (.tmp 63) = .int .i64 n := hL 63 (by decide +kernel)
          simp [go_sem, hc, hf, e61, e62, e63]
          refine (HNE.out W).mono ?_
          rintro e w' ⟨rfl, hb⟩
          exact ⟨_, rfl, by first | exact hb | (subst hb; exact Below.refl _ _), rfl⟩
        refine gSt (gStep_on 13 60 true rfl rfl (by decide +kernel) (fun v w h => h) ?_) ?_
        · intro ρ W hC hc hf hL
          have e3 : ρ (.tmp 3) = .pointer (some ⟨w.heap.size, 0, none⟩) := hL 3 (by decide +kernel)
          have hl := hC.1.la.1
          simp [go_sem, hc, hf, e3, hl]
          exact ⟨Below.refl _ _, rfl⟩
        refine gSt (gStep_on 13 60 true rfl rfl (by decide +kernel) (fun v w h => h) ?_) ?_
        · intro ρ W hC hc hf hL
          have e65 : ρ (.tmp 65) = .agg #[.int .u64 (dgl (a) 0 : Nat), .int .u64 (dgl (a) 1 : Nat), .int .u64 (dgl (a) 2 : Nat), .int .u64 (dgl (a) 3 : Nat), .int .u64 (dgl (a) 4 : Nat), .int .u64 (dgl (a) 5 : Nat), .int .u64 (dgl (a) 6 : Nat), .int .u64 (dgl (a) 7 : Nat)] := hL 65 (by decide +kernel)
          simp [go_sem, hc, hf, e65]
          refine (HBA.out W).mono ?_
          rintro e w' ⟨v, rfl, hv, hb⟩
          exact ⟨_, rfl, hb, hv⟩
        refine gSt (gStep_on 13 60 true rfl rfl (by decide +kernel) (fun v w h => h) ?_) ?_
        · intro ρ W hC hc hf hL
          have e4 : ρ (.tmp 4) = .pointer (some ⟨w.heap.size + 1, 0, none⟩) := hL 4 (by decide +kernel)
          have hl := hC.1.lb.1
          simp [go_sem, hc, hf, e4, hl]
          exact ⟨Below.refl _ _, rfl⟩
        refine gSt (gStep_on 13 60 true rfl rfl (by decide +kernel) (fun v w h => h) ?_) ?_
        · intro ρ W hC hc hf hL
          have e67 : ρ (.tmp 67) = .agg #[.int .u64 (dgl (b) 0 : Nat), .int .u64 (dgl (b) 1 : Nat), .int .u64 (dgl (b) 2 : Nat), .int .u64 (dgl (b) 3 : Nat), .int .u64 (dgl (b) 4 : Nat), .int .u64 (dgl (b) 5 : Nat), .int .u64 (dgl (b) 6 : Nat), .int .u64 (dgl (b) 7 : Nat)] := hL 67 (by decide +kernel)
          simp [go_sem, hc, hf, e67]
          refine (HBB.out W).mono ?_
          rintro e w' ⟨v, rfl, hv, hb⟩
          exact ⟨_, rfl, hb, hv⟩
        refine gSt (gStep_on 13 60 true rfl rfl (by decide +kernel) (fun v w h => h) ?_) ?_
        · intro ρ W hC hc hf hL
          have b66 : BigV W (ρ (.tmp 66)) (a) (40) := hL 66 (by decide +kernel)
          have b68 : BigV W (ρ (.tmp 68)) (b) (40) := hL 68 (by decide +kernel)
          simp [go_sem, hc, hf]
          refine (HAW.out _ _ W b66 b68).mono ?_
          rintro e w' ⟨v, rfl, hv, hb⟩
          exact ⟨_, rfl, hb, hv⟩
        refine gSt (gStep_on 13 60 true rfl rfl (by decide +kernel) (fun v w h => h) (gRun_move 2 70 (.inl rfl) rfl (by decide +kernel) (fun v w h => h))) ?_
        refine gSt (gStep_on 13 60 true rfl rfl (by decide +kernel) (fun v w h => h) ?_) ?_
        · intro ρ W hC hc hf hL
          have b69 : BigV W (ρ (.tmp 69)) (x) (40) := hL 69 (by decide +kernel)
          have e70 : ρ (.tmp 70) = .int .i64 n := hL 70 (by decide +kernel)
          simp [go_sem, hc, hf, e70]
          refine (HWI.out _ W b69).mono ?_
          rintro e w' ⟨rfl, hb⟩
          exact ⟨_, rfl, by first | exact hb | (subst hb; exact Below.refl _ _), rfl⟩
        refine gSt (gStep_on 13 60 true rfl rfl (by decide +kernel) (fun v w h => h) ?_) ?_
        · intro ρ W hC hc hf hL
          have e64 : ρ (.tmp 64) = .bool z := hL 64 (by decide +kernel)
          have e71 : ρ (.tmp 71) = .bool z := hL 71 (by decide +kernel)
          simp [go_sem, hc, hf, e64, e71]
          exact ⟨Below.refl _ _, rfl⟩
        refine gSt (gStep_run rfl (gRun_pickT 60 72 73 _ rfl rfl (by decide +kernel) (by decide +kernel) (fun v w h => h) (fun v w h => h))) ?_
        refine gSt (gStep_run rfl (gRun_move 73 74 (.inl rfl) rfl (by decide +kernel) (fun v w h => h))) ?_
        refine gSt (gStep_on 27 74 true rfl rfl (by decide +kernel) (fun v w h => h) ?_) ?_
        · intro ρ W hC hc hf hL
          have e3 : ρ (.tmp 3) = .pointer (some ⟨w.heap.size, 0, none⟩) := hL 3 (by decide +kernel)
          have hl := hC.1.la.1
          simp [go_sem, hc, hf, e3, hl]
          exact ⟨Below.refl _ _, rfl⟩
        refine gSt (gStep_on 27 74 true rfl rfl (by decide +kernel) (fun v w h => h) ?_) ?_
        · intro ρ W hC hc hf hL
          have e3 : ρ (.tmp 3) = .pointer (some ⟨w.heap.size, 0, none⟩) := hL 3 (by decide +kernel)
          have hl := hC.1.la.1
          simp [go_sem, hc, hf, e3, hl]
          exact ⟨Below.refl _ _, rfl⟩
        refine gSt (gStep_on 27 74 true rfl rfl (by decide +kernel) (fun v w h => h) ?_) ?_
        · intro ρ W hC hc hf hL
          have e75 : ρ (.tmp 75) = .agg #[.int .u64 (dgl (a) 0 : Nat), .int .u64 (dgl (a) 1 : Nat), .int .u64 (dgl (a) 2 : Nat), .int .u64 (dgl (a) 3 : Nat), .int .u64 (dgl (a) 4 : Nat), .int .u64 (dgl (a) 5 : Nat), .int .u64 (dgl (a) 6 : Nat), .int .u64 (dgl (a) 7 : Nat)] := hL 75 (by decide +kernel)
          have e76 : ρ (.tmp 76) = .agg #[.int .u64 (dgl (a) 0 : Nat), .int .u64 (dgl (a) 1 : Nat), .int .u64 (dgl (a) 2 : Nat), .int .u64 (dgl (a) 3 : Nat), .int .u64 (dgl (a) 4 : Nat), .int .u64 (dgl (a) 5 : Nat), .int .u64 (dgl (a) 6 : Nat), .int .u64 (dgl (a) 7 : Nat)] := hL 76 (by decide +kernel)
          simp [go_sem, hc, hf, e75, e76]
          refine (HN0.out W).mono ?_
          rintro e w' ⟨rfl, hb⟩
          exact ⟨_, rfl, by first | exact hb | (subst hb; exact Below.refl _ _), rfl⟩
        refine gSt (gStep_run rfl (gRun_pickT 74 77 78 _ rfl rfl (by decide +kernel) (by decide +kernel) (fun v w h => h) (fun v w h => h))) ?_
        refine gSt (gStep_run rfl (gRun_move 78 79 (.inl rfl) rfl (by decide +kernel) (fun v w h => h))) ?_
        refine gSt (gStep_on 32 79 true rfl rfl (by decide +kernel) (fun v w h => h) ?_) ?_
        · intro ρ W hC hc hf hL
          simp [go_sem, hc, hf]
          refine (HAK.out W).mono ?_
          rintro e w' ⟨rfl, hb⟩
          exact ⟨_, rfl, by first | exact hb | (subst hb; exact Below.refl _ _), rfl⟩
        refine gSt (gStep_run rfl (gRun_pickT 79 80 81 _ rfl rfl (by decide +kernel) (by decide +kernel) (fun v w h => h) (fun v w h => h))) ?_
        refine gSt (gStep_run rfl (gRun_move 81 6 (.inr rfl) rfl (by decide +kernel) (fun v w h => h))) ?_
        exact gSt0
      · intro W hC
        refine gFi 47 rfl ?_
        rintro _ rfl
        refine gFi 48 rfl ?_
        rintro _ rfl
        refine gFi 49 rfl ?_
        rintro _ rfl
        refine gFi 50 rfl ?_
        rintro _ rfl
        refine gFi 51 rfl ?_
        rintro _ rfl
        refine gFi 52 rfl ?_
        rintro _ rfl
        refine gFi 53 rfl ?_
        rintro _ rfl
        refine gFi 54 rfl ?_
        rintro _ rfl
        refine gFi 55 rfl ?_
        rintro _ rfl
        refine gFi 56 rfl ?_
        rintro _ rfl
        refine gFi 57 rfl ?_
        rintro _ rfl
        refine gFi 58 rfl ?_
        rintro _ rfl
        refine gFi 59 rfl ?_
        rintro _ rfl
        refine gFi 60 rfl ?_
        rintro _ rfl
        refine gFi 61 rfl ?_
        rintro _ rfl
        refine gFi 62 rfl ?_
        rintro _ rfl
        refine gFi 63 rfl ?_
        rintro _ rfl
        refine gFi 64 rfl ?_
        rintro _ rfl
        refine gFi 65 rfl ?_
        rintro _ rfl
        refine gFi 66 rfl ?_
        rintro u66 b66
        refine gFi 67 rfl ?_
        rintro _ rfl
        refine gFi 68 rfl ?_
        rintro u68 b68
        refine gFi 69 rfl ?_
        rintro u69 b69
        refine gFi 70 rfl ?_
        rintro _ rfl
        refine gFi 71 rfl ?_
        rintro _ rfl
        refine gFi 72 rfl ?_
        rintro _ rfl
        refine gFi 73 rfl ?_
        rintro _ rfl
        refine gFi 74 rfl ?_
        rintro _ rfl
        refine gFi 75 rfl ?_
        rintro _ rfl
        refine gFi 76 rfl ?_
        rintro _ rfl
        refine gFi 77 rfl ?_
        rintro _ rfl
        refine gFi 78 rfl ?_
        rintro _ rfl
        refine gFi 79 rfl ?_
        rintro _ rfl
        refine gFi 80 rfl ?_
        rintro _ rfl
        refine gFi 81 rfl ?_
        rintro _ rfl
        refine gFi 6 rfl ?_
        rintro _ rfl
        refine gFi0 ?_
        simp only [List.drop_succ_cons, List.drop_zero, Act.put, List.setIfInBounds_toArray, List.set_cons_succ, List.set_cons_zero]
        have HBE := hide hC.1.bel
        clear hC h7
        go_wp2
        go_ret
        exact ⟨rfl, HBE.out⟩

set_option maxHeartbeats 4000000 in
theorem fixTimes_B (a b m0 k p T0 pw s l x : Nat) (n m : Int) (t t2 z : Bool) (w : World) (HK : Hid ((k : Int) = min (max n 0) 1100)) (hn1 : decide (-1 ≤ n) = true) (hn2 : decide (n ≤ 510) = false) (hs : s = T0)
    (HBA : Hid (∀ w, Calls Try.prog 19 #[.agg #[.int .u64 (dgl (a) 0 : Nat), .int .u64 (dgl (a) 1 : Nat), .int .u64 (dgl (a) 2 : Nat), .int .u64 (dgl (a) 3 : Nat), .int .u64 (dgl (a) 4 : Nat), .int .u64 (dgl (a) 5 : Nat), .int .u64 (dgl (a) 6 : Nat), .int .u64 (dgl (a) 7 : Nat)]] w fun e w' => ∃ v, e = .returned v ∧ BigV w' v a 40 ∧ Below w.heap.size w w'))
    (HBB : Hid (∀ w, Calls Try.prog 19 #[.agg #[.int .u64 (dgl (b) 0 : Nat), .int .u64 (dgl (b) 1 : Nat), .int .u64 (dgl (b) 2 : Nat), .int .u64 (dgl (b) 3 : Nat), .int .u64 (dgl (b) 4 : Nat), .int .u64 (dgl (b) 5 : Nat), .int .u64 (dgl (b) 6 : Nat), .int .u64 (dgl (b) 7 : Nat)]] w fun e w' => ∃ v, e = .returned v ∧ BigV w' v b 40 ∧ Below w.heap.size w w'))
    (HMU : Hid (∀ u v w, BigV w u a 40 → BigV w v b 40 → Calls Try.prog 17 #[u, v] w fun e w' => ∃ v, e = .returned v ∧ BigV w' v m0 80 ∧ Below w.heap.size w w'))
    (HSH : Hid (∀ u w, BigV w u m0 80 → Calls Try.prog 35 #[u, .int .i64 (k : Nat)] w fun e w' => ∃ v, e = .returned v ∧ BigV w' v p 80 ∧ Below w.heap.size w w'))
    (HWP : Hid (∀ u w, BigV w u p 80 → Calls Try.prog 34 #[u] w fun e w' => e = .returned (.tuple #[.agg #[.int .u64 (dgl (p) 0 : Nat), .int .u64 (dgl (p) 1 : Nat), .int .u64 (dgl (p) 2 : Nat), .int .u64 (dgl (p) 3 : Nat), .int .u64 (dgl (p) 4 : Nat), .int .u64 (dgl (p) 5 : Nat), .int .u64 (dgl (p) 6 : Nat), .int .u64 (dgl (p) 7 : Nat)], .bool t]) ∧ Below w.heap.size w w'))
    (HWH : Hid (∀ w, Calls Try.prog 36 #[] w fun e w' => ∃ v, e = .returned v ∧ BigV w' v T0 19 ∧ Below w.heap.size w w'))
    (HSB : Hid (∀ u v w, BigV w u s 20 → BigV w v a 40 → Calls Try.prog 39 #[u, v] w fun e w' => ∃ v, e = .returned v ∧ BigV w' v l 20 ∧ Below w.heap.size w w'))
    (HWL : Hid (∀ u w, BigV w u l 20 → Calls Try.prog 34 #[u] w fun e w' => e = .returned (.tuple #[.agg #[.int .u64 (dgl (l) 0 : Nat), .int .u64 (dgl (l) 1 : Nat), .int .u64 (dgl (l) 2 : Nat), .int .u64 (dgl (l) 3 : Nat), .int .u64 (dgl (l) 4 : Nat), .int .u64 (dgl (l) 5 : Nat), .int .u64 (dgl (l) 6 : Nat), .int .u64 (dgl (l) 7 : Nat)], .bool t2]) ∧ Below w.heap.size w w'))
    (HTI : Hid (∀ w, Calls Try.prog 40 #[.agg #[.int .u64 (dgl (a) 0 : Nat), .int .u64 (dgl (a) 1 : Nat), .int .u64 (dgl (a) 2 : Nat), .int .u64 (dgl (a) 3 : Nat), .int .u64 (dgl (a) 4 : Nat), .int .u64 (dgl (a) 5 : Nat), .int .u64 (dgl (a) 6 : Nat), .int .u64 (dgl (a) 7 : Nat)], .agg #[.int .u64 (dgl (b) 0 : Nat), .int .u64 (dgl (b) 1 : Nat), .int .u64 (dgl (b) 2 : Nat), .int .u64 (dgl (b) 3 : Nat), .int .u64 (dgl (b) 4 : Nat), .int .u64 (dgl (b) 5 : Nat), .int .u64 (dgl (b) 6 : Nat), .int .u64 (dgl (b) 7 : Nat)], .int .i64 n] w fun e w' => e = .returned (.agg #[.int .u64 (dgl (p) 0 : Nat), .int .u64 (dgl (p) 1 : Nat), .int .u64 (dgl (p) 2 : Nat), .int .u64 (dgl (p) 3 : Nat), .int .u64 (dgl (p) 4 : Nat), .int .u64 (dgl (p) 5 : Nat), .int .u64 (dgl (p) 6 : Nat), .int .u64 (dgl (p) 7 : Nat)]) ∧ Below w.heap.size w w'))
    (HTW : Hid (∀ w, Calls Try.prog 41 #[.int .i64 n, .agg #[.int .u64 (dgl (a) 0 : Nat), .int .u64 (dgl (a) 1 : Nat), .int .u64 (dgl (a) 2 : Nat), .int .u64 (dgl (a) 3 : Nat), .int .u64 (dgl (a) 4 : Nat), .int .u64 (dgl (a) 5 : Nat), .int .u64 (dgl (a) 6 : Nat), .int .u64 (dgl (a) 7 : Nat)]] w fun e w' => e = .returned (.agg #[.int .u64 (dgl (l) 0 : Nat), .int .u64 (dgl (l) 1 : Nat), .int .u64 (dgl (l) 2 : Nat), .int .u64 (dgl (l) 3 : Nat), .int .u64 (dgl (l) 4 : Nat), .int .u64 (dgl (l) 5 : Nat), .int .u64 (dgl (l) 6 : Nat), .int .u64 (dgl (l) 7 : Nat)]) ∧ Below w.heap.size w w'))
    (HNE : Hid (∀ w, Calls Try.prog 42 #[.agg #[.int .u64 (dgl (a) 0 : Nat), .int .u64 (dgl (a) 1 : Nat), .int .u64 (dgl (a) 2 : Nat), .int .u64 (dgl (a) 3 : Nat), .int .u64 (dgl (a) 4 : Nat), .int .u64 (dgl (a) 5 : Nat), .int .u64 (dgl (a) 6 : Nat), .int .u64 (dgl (a) 7 : Nat)], .agg #[.int .u64 (dgl (b) 0 : Nat), .int .u64 (dgl (b) 1 : Nat), .int .u64 (dgl (b) 2 : Nat), .int .u64 (dgl (b) 3 : Nat), .int .u64 (dgl (b) 4 : Nat), .int .u64 (dgl (b) 5 : Nat), .int .u64 (dgl (b) 6 : Nat), .int .u64 (dgl (b) 7 : Nat)], .int .i64 n] w fun e w' => e = .returned (.bool z) ∧ Below w.heap.size w w'))
    (HAW : Hid (∀ u v w, BigV w u a 40 → BigV w v b 40 → Calls Try.prog 29 #[u, v] w fun e w' => ∃ v, e = .returned v ∧ BigV w' v x 40 ∧ Below w.heap.size w w'))
    (HWI : Hid (∀ u w, BigV w u x 40 → Calls Try.prog 30 #[u, .int .i64 n] w fun e w' => e = .returned (.bool z) ∧ Below w.heap.size w w'))
    (HN0 : Hid (∀ w, Calls Try.prog 42 #[.agg #[.int .u64 (dgl (a) 0 : Nat), .int .u64 (dgl (a) 1 : Nat), .int .u64 (dgl (a) 2 : Nat), .int .u64 (dgl (a) 3 : Nat), .int .u64 (dgl (a) 4 : Nat), .int .u64 (dgl (a) 5 : Nat), .int .u64 (dgl (a) 6 : Nat), .int .u64 (dgl (a) 7 : Nat)], .agg #[.int .u64 (dgl (a) 0 : Nat), .int .u64 (dgl (a) 1 : Nat), .int .u64 (dgl (a) 2 : Nat), .int .u64 (dgl (a) 3 : Nat), .int .u64 (dgl (a) 4 : Nat), .int .u64 (dgl (a) 5 : Nat), .int .u64 (dgl (a) 6 : Nat), .int .u64 (dgl (a) 7 : Nat)], .int .i64 0] w fun e w' => e = .returned (.bool true) ∧ Below w.heap.size w w'))
    (HAK : Hid (∀ w, Calls Try.prog 27 #[] w fun e w' => e = .returned (.bool true) ∧ Below w.heap.size w w'))
    (HQP : Hid (∀ w, (Op.equalIn 10000 32 (.agg #[.int .u64 (dgl (p) 0 : Nat), .int .u64 (dgl (p) 1 : Nat), .int .u64 (dgl (p) 2 : Nat), .int .u64 (dgl (p) 3 : Nat), .int .u64 (dgl (p) 4 : Nat), .int .u64 (dgl (p) 5 : Nat), .int .u64 (dgl (p) 6 : Nat), .int .u64 (dgl (p) 7 : Nat)]) (.agg #[.int .u64 (dgl (p) 0 : Nat), .int .u64 (dgl (p) 1 : Nat), .int .u64 (dgl (p) 2 : Nat), .int .u64 (dgl (p) 3 : Nat), .int .u64 (dgl (p) 4 : Nat), .int .u64 (dgl (p) 5 : Nat), .int .u64 (dgl (p) 6 : Nat), .int .u64 (dgl (p) 7 : Nat)])).run Try.prog w = .ok true w))
    (HQL : Hid (∀ w, (Op.equalIn 10000 32 (.agg #[.int .u64 (dgl (l) 0 : Nat), .int .u64 (dgl (l) 1 : Nat), .int .u64 (dgl (l) 2 : Nat), .int .u64 (dgl (l) 3 : Nat), .int .u64 (dgl (l) 4 : Nat), .int .u64 (dgl (l) 5 : Nat), .int .u64 (dgl (l) 6 : Nat), .int .u64 (dgl (l) 7 : Nat)]) (.agg #[.int .u64 (dgl (l) 0 : Nat), .int .u64 (dgl (l) 1 : Nat), .int .u64 (dgl (l) 2 : Nat), .int .u64 (dgl (l) 3 : Nat), .int .u64 (dgl (l) 4 : Nat), .int .u64 (dgl (l) 5 : Nat), .int .u64 (dgl (l) 6 : Nat), .int .u64 (dgl (l) 7 : Nat)])).run Try.prog w = .ok true w)) :
    Calls Try.prog 8 #[.agg #[.int .u64 (dgl (a) 0 : Nat), .int .u64 (dgl (a) 1 : Nat), .int .u64 (dgl (a) 2 : Nat), .int .u64 (dgl (a) 3 : Nat), .int .u64 (dgl (a) 4 : Nat), .int .u64 (dgl (a) 5 : Nat), .int .u64 (dgl (a) 6 : Nat), .int .u64 (dgl (a) 7 : Nat)], .agg #[.int .u64 (dgl (b) 0 : Nat), .int .u64 (dgl (b) 1 : Nat), .int .u64 (dgl (b) 2 : Nat), .int .u64 (dgl (b) 3 : Nat), .int .u64 (dgl (b) 4 : Nat), .int .u64 (dgl (b) 5 : Nat), .int .u64 (dgl (b) 6 : Nat), .int .u64 (dgl (b) 7 : Nat)], .int .i64 n] w fun e w' => e = .returned (.bool true) ∧ Below w.heap.size w w' := by
  have HST := hide (twSt_start a b w 32 32)
  go_enter Try.func8, Try.ntmps8
  go_upto_region 1 with fail
  refine wp_gen (fun W => TwSt a b w W) HST.out ?_
  clear HST
  rintro W0 h0
  go_cut [7] (fun y wx => y = .int .i64 (k : Nat) ∧ wx = W0)
  case first =>
    go_wp2
    all_goals
      go_meet
      exact ⟨by rw [HK.out]; first | done | (congr 1; omega), rfl⟩
  case rest =>
    obtain ⟨rfl, rfl⟩ := hcut
    go_upto_region 2 with fail
    refine wp_gen (fun W => TwSt a b w W) h0 ?_
    clear h0
    rintro W2 h2
    refine wp_region_storeK 14 [12] [17, 18, 19, 20, 21, 22, 23, 24, 16, 25, 26, 8, 9] (fun bs => [(17, .val (.agg #[.int .u64 (dgl (a) 0 : Nat), .int .u64 (dgl (a) 1 : Nat), .int .u64 (dgl (a) 2 : Nat), .int .u64 (dgl (a) 3 : Nat), .int .u64 (dgl (a) 4 : Nat), .int .u64 (dgl (a) 5 : Nat), .int .u64 (dgl (a) 6 : Nat), .int .u64 (dgl (a) 7 : Nat)])), (18, bif bs.headD false then SlotIs.any  else SlotIs.big (a) (40)), (19, .val (.agg #[.int .u64 (dgl (b) 0 : Nat), .int .u64 (dgl (b) 1 : Nat), .int .u64 (dgl (b) 2 : Nat), .int .u64 (dgl (b) 3 : Nat), .int .u64 (dgl (b) 4 : Nat), .int .u64 (dgl (b) 5 : Nat), .int .u64 (dgl (b) 6 : Nat), .int .u64 (dgl (b) 7 : Nat)])), (20, bif bs.headD false then SlotIs.any  else SlotIs.big (b) (40)), (21, bif bs.headD false then SlotIs.any  else SlotIs.big (m0) (80)), (22, .val (.int .i64 (k : Nat))), (23, bif bs.headD false then SlotIs.any  else SlotIs.big (p) (80)), (24, .val (.tuple #[.agg #[.int .u64 (dgl (p) 0 : Nat), .int .u64 (dgl (p) 1 : Nat), .int .u64 (dgl (p) 2 : Nat), .int .u64 (dgl (p) 3 : Nat), .int .u64 (dgl (p) 4 : Nat), .int .u64 (dgl (p) 5 : Nat), .int .u64 (dgl (p) 6 : Nat), .int .u64 (dgl (p) 7 : Nat)], .bool t])), (16, .val (.tuple #[.agg #[.int .u64 (dgl (p) 0 : Nat), .int .u64 (dgl (p) 1 : Nat), .int .u64 (dgl (p) 2 : Nat), .int .u64 (dgl (p) 3 : Nat), .int .u64 (dgl (p) 4 : Nat), .int .u64 (dgl (p) 5 : Nat), .int .u64 (dgl (p) 6 : Nat), .int .u64 (dgl (p) 7 : Nat)], .bool t])), (25, .val (.agg #[.int .u64 (dgl (p) 0 : Nat), .int .u64 (dgl (p) 1 : Nat), .int .u64 (dgl (p) 2 : Nat), .int .u64 (dgl (p) 3 : Nat), .int .u64 (dgl (p) 4 : Nat), .int .u64 (dgl (p) 5 : Nat), .int .u64 (dgl (p) 6 : Nat), .int .u64 (dgl (p) 7 : Nat)])), (26, .val (.bool t)), (8, bif bs.headD false then SlotIs.box (w.heap.size + 2) (dgl p) else SlotIs.box (w.heap.size + 2) (fun _ => 0)), (9, .val (.bool t))])
      (fun _ W => TwSt a b w W) (fun bs => rfl) mixedOk (by kernel_rfl) (by kernel_rfl) (by kernel_rfl) (h2.below (Below.refl _ _).drew) (fun bs W W' h hb => h.below hb) ?_ ?_
    · refine kSt rfl (fun φ hφ => gStep_run rfl ?_) ?_
      · intro ρ W hC hc hf hL
        have e3 : ρ (.tmp 3) = .pointer (some ⟨w.heap.size, 0, none⟩) := hL 3 (by decide +kernel)
        have hl := hC.la.1
        simp [go_sem, hc, hf, e3, hl]
        exact ⟨Below.refl _ _, rfl⟩
      refine kSt rfl (fun φ hφ => gStep_run rfl ?_) ?_
      · intro ρ W hC hc hf hL
        have hφ0 : φ 12 = false := hφ 12 (by simp) (by kernel_rfl)
        have e17 : ρ (.tmp 17) = .agg #[.int .u64 (dgl (a) 0 : Nat), .int .u64 (dgl (a) 1 : Nat), .int .u64 (dgl (a) 2 : Nat), .int .u64 (dgl (a) 3 : Nat), .int .u64 (dgl (a) 4 : Nat), .int .u64 (dgl (a) 5 : Nat), .int .u64 (dgl (a) 6 : Nat), .int .u64 (dgl (a) 7 : Nat)] := hL 17 (by decide +kernel)
        simp [go_sem, hc, hf, e17]
        refine (HBA.out W).mono ?_
        rintro e w' ⟨v, rfl, hv, hb⟩
        refine ⟨_, rfl, hb, ?_⟩
        show (bif φ 12 then SlotIs.any else SlotIs.big (a) (40)).R _ _
        rw [hφ0]
        exact hv
      refine kSt rfl (fun φ hφ => gStep_run rfl ?_) ?_
      · intro ρ W hC hc hf hL
        have e4 : ρ (.tmp 4) = .pointer (some ⟨w.heap.size + 1, 0, none⟩) := hL 4 (by decide +kernel)
        have hl := hC.lb.1
        simp [go_sem, hc, hf, e4, hl]
        exact ⟨Below.refl _ _, rfl⟩
      refine kSt rfl (fun φ hφ => gStep_run rfl ?_) ?_
      · intro ρ W hC hc hf hL
        have hφ0 : φ 12 = false := hφ 12 (by simp) (by kernel_rfl)
        have e19 : ρ (.tmp 19) = .agg #[.int .u64 (dgl (b) 0 : Nat), .int .u64 (dgl (b) 1 : Nat), .int .u64 (dgl (b) 2 : Nat), .int .u64 (dgl (b) 3 : Nat), .int .u64 (dgl (b) 4 : Nat), .int .u64 (dgl (b) 5 : Nat), .int .u64 (dgl (b) 6 : Nat), .int .u64 (dgl (b) 7 : Nat)] := hL 19 (by decide +kernel)
        simp [go_sem, hc, hf, e19]
        refine (HBB.out W).mono ?_
        rintro e w' ⟨v, rfl, hv, hb⟩
        refine ⟨_, rfl, hb, ?_⟩
        show (bif φ 12 then SlotIs.any else SlotIs.big (b) (40)).R _ _
        rw [hφ0]
        exact hv
      refine kSt rfl (fun φ hφ => gStep_run rfl ?_) ?_
      · intro ρ W hC hc hf hL
        have hφ0 : φ 12 = false := hφ 12 (by simp) (by kernel_rfl)
        have b18 : (bif φ 12 then SlotIs.any  else SlotIs.big (a) (40)).R (ρ (.tmp 18)) W := hL 18 (by decide +kernel)
        rw [hφ0] at b18
        have b20 : (bif φ 12 then SlotIs.any  else SlotIs.big (b) (40)).R (ρ (.tmp 20)) W := hL 20 (by decide +kernel)
        rw [hφ0] at b20
        simp [go_sem, hc, hf]
        refine (HMU.out _ _ W b18 b20).mono ?_
        rintro e w' ⟨v, rfl, hv, hb⟩
        refine ⟨_, rfl, hb, ?_⟩
        show (bif φ 12 then SlotIs.any else SlotIs.big (m0) (80)).R _ _
        rw [hφ0]
        exact hv
      refine kSt rfl (fun φ hφ => gStep_run rfl (gRun_move 7 22 (.inl rfl) rfl (by decide +kernel) (fun v w h => h))) ?_
      refine kSt rfl (fun φ hφ => gStep_run rfl ?_) ?_
      · intro ρ W hC hc hf hL
        have hφ0 : φ 12 = false := hφ 12 (by simp) (by kernel_rfl)
        have b21 : (bif φ 12 then SlotIs.any  else SlotIs.big (m0) (80)).R (ρ (.tmp 21)) W := hL 21 (by decide +kernel)
        rw [hφ0] at b21
        have e22 : ρ (.tmp 22) = .int .i64 (k : Nat) := hL 22 (by decide +kernel)
        simp [go_sem, hc, hf, e22]
        refine (HSH.out _ W b21).mono ?_
        rintro e w' ⟨v, rfl, hv, hb⟩
        refine ⟨_, rfl, hb, ?_⟩
        show (bif φ 12 then SlotIs.any else SlotIs.big (p) (80)).R _ _
        rw [hφ0]
        exact hv
      refine kSt rfl (fun φ hφ => gStep_run rfl ?_) ?_
      · intro ρ W hC hc hf hL
        have hφ0 : φ 12 = false := hφ 12 (by simp) (by kernel_rfl)
        have b23 : (bif φ 12 then SlotIs.any  else SlotIs.big (p) (80)).R (ρ (.tmp 23)) W := hL 23 (by decide +kernel)
        rw [hφ0] at b23
        simp [go_sem, hc, hf]
        refine (HWP.out _ W b23).mono ?_
        rintro e w' ⟨rfl, hb⟩
        exact ⟨_, rfl, by first | exact hb | (subst hb; exact Below.refl _ _), rfl⟩
      refine kSt rfl (fun φ hφ => gStep_run rfl (gRun_move 24 16 (.inl rfl) rfl (by decide +kernel) (fun v w h => h))) ?_
      refine kSt rfl (fun φ hφ => gStep_run rfl ?_) ?_
      · intro ρ W hC hc hf hL
        have e16 : ρ (.tmp 16) = .tuple #[.agg #[.int .u64 (dgl (p) 0 : Nat), .int .u64 (dgl (p) 1 : Nat), .int .u64 (dgl (p) 2 : Nat), .int .u64 (dgl (p) 3 : Nat), .int .u64 (dgl (p) 4 : Nat), .int .u64 (dgl (p) 5 : Nat), .int .u64 (dgl (p) 6 : Nat), .int .u64 (dgl (p) 7 : Nat)], .bool t] := hL 16 (by decide +kernel)
        simp [go_sem, hc, hf, e16]
        exact ⟨Below.refl _ _, rfl⟩
      refine kSt rfl (fun φ hφ => gStep_run rfl ?_) ?_
      · intro ρ W hC hc hf hL
        have e16 : ρ (.tmp 16) = .tuple #[.agg #[.int .u64 (dgl (p) 0 : Nat), .int .u64 (dgl (p) 1 : Nat), .int .u64 (dgl (p) 2 : Nat), .int .u64 (dgl (p) 3 : Nat), .int .u64 (dgl (p) 4 : Nat), .int .u64 (dgl (p) 5 : Nat), .int .u64 (dgl (p) 6 : Nat), .int .u64 (dgl (p) 7 : Nat)], .bool t] := hL 16 (by decide +kernel)
        simp [go_sem, hc, hf, e16]
        exact ⟨Below.refl _ _, rfl⟩
      refine kSt rfl (fun φ hφ => gStep_run rfl ?_) ?_
      · intro ρ W hC hc hf hL
        have hφ0 : φ 12 = false := hφ 12 (by simp) (by kernel_rfl)
        simp [go_sem, hc, hf]
        refine ⟨below_allocs _ _, ?_⟩
        show (bif φ 12 then SlotIs.box (w.heap.size + 2) (dgl p) else SlotIs.box (w.heap.size + 2) (fun _ => 0)).R _ _
        rw [hφ0]
        exact ⟨_, rfl, hC.lb.2, liesF_new _ (fun _ => 0) _, fun i => by simp [go_sem]⟩
      refine kStS rfl ⟨rfl, rfl, ?_⟩ ?_
      · intro φ ρ W hφ hC hc hL
        have b8 := hL 8 (by decide +kernel)
        have e25 : ρ (.tmp 25) = .agg #[.int .u64 (dgl (p) 0 : Nat), .int .u64 (dgl (p) 1 : Nat), .int .u64 (dgl (p) 2 : Nat), .int .u64 (dgl (p) 3 : Nat), .int .u64 (dgl (p) 4 : Nat), .int .u64 (dgl (p) 5 : Nat), .int .u64 (dgl (p) 6 : Nat), .int .u64 (dgl (p) 7 : Nat)] := hL 25 (by decide +kernel)
        have bx : (bif φ 12 then SlotIs.box (w.heap.size + 2) (dgl p) else SlotIs.box (w.heap.size + 2) (fun _ => 0)).R (ρ (.tmp 8)) W := hL 8 (by decide +kernel)
        rw [hφ] at bx
        obtain ⟨px, ex, qx, lx, zx⟩ := bx
        have hz := lx.1
        have hzl := lx.2
        refine gUpon_of ((((((((W.setCell ⟨px, 0, none⟩ (.int .u64 (dgl p 0 : Nat))).setCell ⟨px, 1, none⟩ (.int .u64 (dgl p 1 : Nat))).setCell ⟨px, 2, none⟩ (.int .u64 (dgl p 2 : Nat))).setCell ⟨px, 3, none⟩ (.int .u64 (dgl p 3 : Nat))).setCell ⟨px, 4, none⟩ (.int .u64 (dgl p 4 : Nat))).setCell ⟨px, 5, none⟩ (.int .u64 (dgl p 5 : Nat))).setCell ⟨px, 6, none⟩ (.int .u64 (dgl p 6 : Nat))).setCell ⟨px, 7, none⟩ (.int .u64 (dgl p 7 : Nat))) ?_ (fun _ => ?_)
        · simp [go_sem, hc, e25, ex, hz, hzl, zx, gUpon]
        have hs8 := below_set8 (Below.refl (w.heap.size + 2) W) px qx (.int .u64 (dgl p 0 : Nat)) (.int .u64 (dgl p 1 : Nat)) (.int .u64 (dgl p 2 : Nat)) (.int .u64 (dgl p 3 : Nat)) (.int .u64 (dgl p 4 : Nat)) (.int .u64 (dgl p 5 : Nat)) (.int .u64 (dgl p 6 : Nat)) (.int .u64 (dgl p 7 : Nat))
        refine ⟨hC.under hs8 (by omega), fun t => ?_⟩
        refine (tbl_imp rfl (fun _ => val_imp) (tbl_imp rfl (fun ht h => ?_) (tbl_imp rfl (fun _ => val_imp) (tbl_imp rfl (fun ht h => ?_) (tbl_imp rfl (fun ht h => ?_) (tbl_imp rfl (fun _ => val_imp) (tbl_imp rfl (fun ht h => ?_) (tbl_imp rfl (fun _ => val_imp) (tbl_imp rfl (fun _ => val_imp) (tbl_imp rfl (fun _ => val_imp) (tbl_imp rfl (fun _ => val_imp) (tbl_imp rfl (fun ht h => ?_) (tbl_imp rfl (fun _ => val_imp) tbl_nil_imp)))))))))))))
        · show (bif (φ 12 || true) then SlotIs.any else SlotIs.big (a) (40)).R _ _
          rw [Bool.or_true]
          trivial
        · show (bif (φ 12 || true) then SlotIs.any else SlotIs.big (b) (40)).R _ _
          rw [Bool.or_true]
          trivial
        · show (bif (φ 12 || true) then SlotIs.any else SlotIs.big (m0) (80)).R _ _
          rw [Bool.or_true]
          trivial
        · show (bif (φ 12 || true) then SlotIs.any else SlotIs.big (p) (80)).R _ _
          rw [Bool.or_true]
          trivial
        · subst ht
          show (bif (φ 12 || true) then SlotIs.box (w.heap.size + 2) (dgl p) else SlotIs.box (w.heap.size + 2) (fun _ => 0)).R _ _
          rw [Bool.or_true]
          exact ⟨px, ex, qx, set8_same W px (dgl p) (fun _ => 0) lx, fun i => by simpa [go_sem] using zx i⟩
      refine kSt rfl (fun φ hφ => gStep_run rfl (gRun_move 26 9 (.inr rfl) rfl (by decide +kernel) (fun v w h => h))) ?_
      exact kSt0
    · intro W hC
      refine gFi 17 rfl ?_
      rintro _ rfl
      refine gFi 18 rfl ?_
      rintro u18 b18
      refine gFi 19 rfl ?_
      rintro _ rfl
      refine gFi 20 rfl ?_
      rintro u20 b20
      refine gFi 21 rfl ?_
      rintro u21 b21
      refine gFi 22 rfl ?_
      rintro _ rfl
      refine gFi 23 rfl ?_
      rintro u23 b23
      refine gFi 24 rfl ?_
      rintro _ rfl
      refine gFi 16 rfl ?_
      rintro _ rfl
      refine gFi 25 rfl ?_
      rintro _ rfl
      refine gFi 26 rfl ?_
      rintro _ rfl
      refine gFi 8 rfl ?_
      rintro _ ⟨p8, rfl, q8, l8, z8⟩
      refine gFiN rfl ?_
      refine gFi 9 rfl ?_
      rintro _ rfl
      refine gFi0 ?_
      simp only [List.drop_succ_cons, List.drop_zero, Act.put, List.setIfInBounds_toArray, List.set_cons_succ, List.set_cons_zero]
      have HS := hide hC
      have HP := hide l8
      clear hC h2 l8 z8 b18 b20 b21 b23
      clear HMU HSH HWP HK

      go_wp2_with fail
      refine (HWH.out _).mono ?_
      rintro e w3 ⟨v3, rfl, hv3, hb3⟩
      replace HS := hide (HS.out.below hb3)
      replace HP := hide (HP.out.below hb3)
      clear hb3 HWH
      subst hs
      have hv5 := BigV.mono hv3 (show 19 ≤ 20 by decide)
      clear hv3
      have ha := HS.out.la.1
      go_wp2_with fail
      refine (HBA.out _).mono ?_
      rintro e w6 ⟨v6, rfl, hv6, hb6⟩
      replace HS := hide (HS.out.below hb6)
      replace HP := hide (HP.out.below hb6)
      replace hv5 := BigV.below hv5 hb6
      clear hb6 ha
      go_wp2_with fail
      refine (HSB.out _ _ _ hv5 hv6).mono ?_
      rintro e w7 ⟨v7, rfl, hv7, hb7⟩
      replace HS := hide (HS.out.below hb7)
      replace HP := hide (HP.out.below hb7)
      clear hb7 HSB hv5 hv6
      go_wp2_with fail
      refine (HWL.out _ _ hv7).mono ?_
      rintro e w8 ⟨rfl, hb8⟩
      replace HS := hide (HS.out.below hb8)
      replace HP := hide (HP.out.below hb8)
      clear hb8 HWL hv7
      go_upto_region 7 with fail
      refine wp_gen (fun W => TwSt a b w W ∧ LiesF W p8 (dgl p) ∧ LiesF W w8.heap.size (dgl l)) ⟨HS.out.below (below_allocs _ _), HP.out.below (below_allocs _ _), liesF_new w8 (dgl l) _⟩ ?_
      clear HS HP
      generalize w8.heap.size = p11 at *
      rintro W7 h7
      refine wp_region_grow 36 [(47, .val (.agg #[.int .u64 (dgl (a) 0 : Nat), .int .u64 (dgl (a) 1 : Nat), .int .u64 (dgl (a) 2 : Nat), .int .u64 (dgl (a) 3 : Nat), .int .u64 (dgl (a) 4 : Nat), .int .u64 (dgl (a) 5 : Nat), .int .u64 (dgl (a) 6 : Nat), .int .u64 (dgl (a) 7 : Nat)])), (48, .val (.agg #[.int .u64 (dgl (b) 0 : Nat), .int .u64 (dgl (b) 1 : Nat), .int .u64 (dgl (b) 2 : Nat), .int .u64 (dgl (b) 3 : Nat), .int .u64 (dgl (b) 4 : Nat), .int .u64 (dgl (b) 5 : Nat), .int .u64 (dgl (b) 6 : Nat), .int .u64 (dgl (b) 7 : Nat)])), (49, .val (.int .i64 n)), (50, .val (.agg #[.int .u64 (dgl (p) 0 : Nat), .int .u64 (dgl (p) 1 : Nat), .int .u64 (dgl (p) 2 : Nat), .int .u64 (dgl (p) 3 : Nat), .int .u64 (dgl (p) 4 : Nat), .int .u64 (dgl (p) 5 : Nat), .int .u64 (dgl (p) 6 : Nat), .int .u64 (dgl (p) 7 : Nat)])), (51, .val (.agg #[.int .u64 (dgl (p) 0 : Nat), .int .u64 (dgl (p) 1 : Nat), .int .u64 (dgl (p) 2 : Nat), .int .u64 (dgl (p) 3 : Nat), .int .u64 (dgl (p) 4 : Nat), .int .u64 (dgl (p) 5 : Nat), .int .u64 (dgl (p) 6 : Nat), .int .u64 (dgl (p) 7 : Nat)])), (52, .val (.bool true)), (53, .val (.bool true)), (54, .val (.int .i64 n)), (55, .val (.agg #[.int .u64 (dgl (a) 0 : Nat), .int .u64 (dgl (a) 1 : Nat), .int .u64 (dgl (a) 2 : Nat), .int .u64 (dgl (a) 3 : Nat), .int .u64 (dgl (a) 4 : Nat), .int .u64 (dgl (a) 5 : Nat), .int .u64 (dgl (a) 6 : Nat), .int .u64 (dgl (a) 7 : Nat)])), (56, .val (.agg #[.int .u64 (dgl (l) 0 : Nat), .int .u64 (dgl (l) 1 : Nat), .int .u64 (dgl (l) 2 : Nat), .int .u64 (dgl (l) 3 : Nat), .int .u64 (dgl (l) 4 : Nat), .int .u64 (dgl (l) 5 : Nat), .int .u64 (dgl (l) 6 : Nat), .int .u64 (dgl (l) 7 : Nat)])), (57, .val (.agg #[.int .u64 (dgl (l) 0 : Nat), .int .u64 (dgl (l) 1 : Nat), .int .u64 (dgl (l) 2 : Nat), .int .u64 (dgl (l) 3 : Nat), .int .u64 (dgl (l) 4 : Nat), .int .u64 (dgl (l) 5 : Nat), .int .u64 (dgl (l) 6 : Nat), .int .u64 (dgl (l) 7 : Nat)])), (58, .val (.bool true)), (59, .val (.bool true)), (60, .val (.bool true)), (61, .val (.agg #[.int .u64 (dgl (a) 0 : Nat), .int .u64 (dgl (a) 1 : Nat), .int .u64 (dgl (a) 2 : Nat), .int .u64 (dgl (a) 3 : Nat), .int .u64 (dgl (a) 4 : Nat), .int .u64 (dgl (a) 5 : Nat), .int .u64 (dgl (a) 6 : Nat), .int .u64 (dgl (a) 7 : Nat)])), (62, .val (.agg #[.int .u64 (dgl (b) 0 : Nat), .int .u64 (dgl (b) 1 : Nat), .int .u64 (dgl (b) 2 : Nat), .int .u64 (dgl (b) 3 : Nat), .int .u64 (dgl (b) 4 : Nat), .int .u64 (dgl (b) 5 : Nat), .int .u64 (dgl (b) 6 : Nat), .int .u64 (dgl (b) 7 : Nat)])), (63, .val (.int .i64 n)), (64, .val (.bool z)), (65, .val (.agg #[.int .u64 (dgl (a) 0 : Nat), .int .u64 (dgl (a) 1 : Nat), .int .u64 (dgl (a) 2 : Nat), .int .u64 (dgl (a) 3 : Nat), .int .u64 (dgl (a) 4 : Nat), .int .u64 (dgl (a) 5 : Nat), .int .u64 (dgl (a) 6 : Nat), .int .u64 (dgl (a) 7 : Nat)])), (66, .big a 40), (67, .val (.agg #[.int .u64 (dgl (b) 0 : Nat), .int .u64 (dgl (b) 1 : Nat), .int .u64 (dgl (b) 2 : Nat), .int .u64 (dgl (b) 3 : Nat), .int .u64 (dgl (b) 4 : Nat), .int .u64 (dgl (b) 5 : Nat), .int .u64 (dgl (b) 6 : Nat), .int .u64 (dgl (b) 7 : Nat)])), (68, .big b 40), (69, .big x 40), (70, .val (.int .i64 n)), (71, .val (.bool z)), (72, .val (.bool true)), (73, .val (.bool true)), (74, .val (.bool true)), (75, .val (.agg #[.int .u64 (dgl (a) 0 : Nat), .int .u64 (dgl (a) 1 : Nat), .int .u64 (dgl (a) 2 : Nat), .int .u64 (dgl (a) 3 : Nat), .int .u64 (dgl (a) 4 : Nat), .int .u64 (dgl (a) 5 : Nat), .int .u64 (dgl (a) 6 : Nat), .int .u64 (dgl (a) 7 : Nat)])), (76, .val (.agg #[.int .u64 (dgl (a) 0 : Nat), .int .u64 (dgl (a) 1 : Nat), .int .u64 (dgl (a) 2 : Nat), .int .u64 (dgl (a) 3 : Nat), .int .u64 (dgl (a) 4 : Nat), .int .u64 (dgl (a) 5 : Nat), .int .u64 (dgl (a) 6 : Nat), .int .u64 (dgl (a) 7 : Nat)])), (77, .val (.bool true)), (78, .val (.bool true)), (79, .val (.bool true)), (80, .val (.bool true)), (81, .val (.bool true)), (6, .val (.bool true))]
        (fun W => TwSt a b w W ∧ LiesF W p8 (dgl p) ∧ LiesF W p11 (dgl l)) mixedOk (by kernel_rfl) (by kernel_rfl) (⟨h7.1.below (Below.refl _ _).drew, h7.2.1.below (Below.refl _ _).drew, h7.2.2.below (Below.refl _ _).drew⟩) (fun W W' h hb => ⟨h.1.below hb, h.2.1.below hb, h.2.2.below hb⟩) ?_ ?_
      · refine gSt (gStep_run rfl ?_) ?_
        · intro ρ W hC hc hf hL
          have e3 : ρ (.tmp 3) = .pointer (some ⟨w.heap.size, 0, none⟩) := hL 3 (by decide +kernel)
          have hl := hC.1.la.1
          simp [go_sem, hc, hf, e3, hl]
          exact ⟨Below.refl _ _, rfl⟩
        refine gSt (gStep_run rfl ?_) ?_
        · intro ρ W hC hc hf hL
          have e4 : ρ (.tmp 4) = .pointer (some ⟨w.heap.size + 1, 0, none⟩) := hL 4 (by decide +kernel)
          have hl := hC.1.lb.1
          simp [go_sem, hc, hf, e4, hl]
          exact ⟨Below.refl _ _, rfl⟩
        refine gSt (gStep_run rfl (gRun_move 2 49 (.inl rfl) rfl (by decide +kernel) (fun v w h => h))) ?_
        refine gSt (gStep_run rfl ?_) ?_
        · intro ρ W hC hc hf hL
          have e47 : ρ (.tmp 47) = .agg #[.int .u64 (dgl (a) 0 : Nat), .int .u64 (dgl (a) 1 : Nat), .int .u64 (dgl (a) 2 : Nat), .int .u64 (dgl (a) 3 : Nat), .int .u64 (dgl (a) 4 : Nat), .int .u64 (dgl (a) 5 : Nat), .int .u64 (dgl (a) 6 : Nat), .int .u64 (dgl (a) 7 : Nat)] := hL 47 (by decide +kernel)
          have e48 : ρ (.tmp 48) = .agg #[.int .u64 (dgl (b) 0 : Nat), .int .u64 (dgl (b) 1 : Nat), .int .u64 (dgl (b) 2 : Nat), .int .u64 (dgl (b) 3 : Nat), .int .u64 (dgl (b) 4 : Nat), .int .u64 (dgl (b) 5 : Nat), .int .u64 (dgl (b) 6 : Nat), .int .u64 (dgl (b) 7 : Nat)] := hL 48 (by decide +kernel)
          have e49 : ρ (.tmp 49) = .int .i64 n := hL 49 (by decide +kernel)
          simp [go_sem, hc, hf, e47, e48, e49]
          refine (HTI.out W).mono ?_
          rintro e w' ⟨rfl, hb⟩
          exact ⟨_, rfl, by first | exact hb | (subst hb; exact Below.refl _ _), rfl⟩
        refine gSt (gStep_run rfl ?_) ?_
        · intro ρ W hC hc hf hL
          have e8 : ρ (.tmp 8) = .pointer (some ⟨p8, 0, none⟩) := hL 8 (by decide +kernel)
          have hl := hC.2.1.1
          simp [go_sem, hc, hf, e8, hl]
          exact ⟨Below.refl _ _, rfl⟩
        refine gSt (gStep_run rfl ?_) ?_
        · intro ρ W hC hc hf hL
          have e50 : ρ (.tmp 50) = .agg #[.int .u64 (dgl (p) 0 : Nat), .int .u64 (dgl (p) 1 : Nat), .int .u64 (dgl (p) 2 : Nat), .int .u64 (dgl (p) 3 : Nat), .int .u64 (dgl (p) 4 : Nat), .int .u64 (dgl (p) 5 : Nat), .int .u64 (dgl (p) 6 : Nat), .int .u64 (dgl (p) 7 : Nat)] := hL 50 (by decide +kernel)
          have e51 : ρ (.tmp 51) = .agg #[.int .u64 (dgl (p) 0 : Nat), .int .u64 (dgl (p) 1 : Nat), .int .u64 (dgl (p) 2 : Nat), .int .u64 (dgl (p) 3 : Nat), .int .u64 (dgl (p) 4 : Nat), .int .u64 (dgl (p) 5 : Nat), .int .u64 (dgl (p) 6 : Nat), .int .u64 (dgl (p) 7 : Nat)] := hL 51 (by decide +kernel)
          have hq := HQP.out W
          simp [go_sem, hc, hf, e50, e51, hq]
          exact ⟨Below.refl _ _, rfl⟩
        refine gSt (gStep_run rfl (gRun_move 52 53 (.inl rfl) rfl (by decide +kernel) (fun v w h => h))) ?_
        refine gSt (gStep_on 6 53 true rfl rfl (by decide +kernel) (fun v w h => h) (gRun_move 2 54 (.inl rfl) rfl (by decide +kernel) (fun v w h => h))) ?_
        refine gSt (gStep_on 6 53 true rfl rfl (by decide +kernel) (fun v w h => h) ?_) ?_
        · intro ρ W hC hc hf hL
          have e3 : ρ (.tmp 3) = .pointer (some ⟨w.heap.size, 0, none⟩) := hL 3 (by decide +kernel)
          have hl := hC.1.la.1
          simp [go_sem, hc, hf, e3, hl]
          exact ⟨Below.refl _ _, rfl⟩
        refine gSt (gStep_on 6 53 true rfl rfl (by decide +kernel) (fun v w h => h) ?_) ?_
        · intro ρ W hC hc hf hL
          have e54 : ρ (.tmp 54) = .int .i64 n := hL 54 (by decide +kernel)
          have e55 : ρ (.tmp 55) = .agg #[.int .u64 (dgl (a) 0 : Nat), .int .u64 (dgl (a) 1 : Nat), .int .u64 (dgl (a) 2 : Nat), .int .u64 (dgl (a) 3 : Nat), .int .u64 (dgl (a) 4 : Nat), .int .u64 (dgl (a) 5 : Nat), .int .u64 (dgl (a) 6 : Nat), .int .u64 (dgl (a) 7 : Nat)] := hL 55 (by decide +kernel)
          simp [go_sem, hc, hf, e54, e55]
          refine (HTW.out W).mono ?_
          rintro e w' ⟨rfl, hb⟩
          exact ⟨_, rfl, by first | exact hb | (subst hb; exact Below.refl _ _), rfl⟩
        refine gSt (gStep_on 6 53 true rfl rfl (by decide +kernel) (fun v w h => h) ?_) ?_
        · intro ρ W hC hc hf hL
          have e11 : ρ (.tmp 11) = .pointer (some ⟨p11, 0, none⟩) := hL 11 (by decide +kernel)
          have hl := hC.2.2.1
          simp [go_sem, hc, hf, e11, hl]
          exact ⟨Below.refl _ _, rfl⟩
        refine gSt (gStep_on 6 53 true rfl rfl (by decide +kernel) (fun v w h => h) ?_) ?_
        · intro ρ W hC hc hf hL
          have e56 : ρ (.tmp 56) = .agg #[.int .u64 (dgl (l) 0 : Nat), .int .u64 (dgl (l) 1 : Nat), .int .u64 (dgl (l) 2 : Nat), .int .u64 (dgl (l) 3 : Nat), .int .u64 (dgl (l) 4 : Nat), .int .u64 (dgl (l) 5 : Nat), .int .u64 (dgl (l) 6 : Nat), .int .u64 (dgl (l) 7 : Nat)] := hL 56 (by decide +kernel)
          have e57 : ρ (.tmp 57) = .agg #[.int .u64 (dgl (l) 0 : Nat), .int .u64 (dgl (l) 1 : Nat), .int .u64 (dgl (l) 2 : Nat), .int .u64 (dgl (l) 3 : Nat), .int .u64 (dgl (l) 4 : Nat), .int .u64 (dgl (l) 5 : Nat), .int .u64 (dgl (l) 6 : Nat), .int .u64 (dgl (l) 7 : Nat)] := hL 57 (by decide +kernel)
          have hq := HQL.out W
          simp [go_sem, hc, hf, e56, e57, hq]
          exact ⟨Below.refl _ _, rfl⟩
        refine gSt (gStep_run rfl (gRun_pickT 53 58 59 _ rfl rfl (by decide +kernel) (by decide +kernel) (fun v w h => h) (fun v w h => h))) ?_
        refine gSt (gStep_run rfl (gRun_move 59 60 (.inl rfl) rfl (by decide +kernel) (fun v w h => h))) ?_
        refine gSt (gStep_on 13 60 true rfl rfl (by decide +kernel) (fun v w h => h) ?_) ?_
        · intro ρ W hC hc hf hL
          have e3 : ρ (.tmp 3) = .pointer (some ⟨w.heap.size, 0, none⟩) := hL 3 (by decide +kernel)
          have hl := hC.1.la.1
          simp [go_sem, hc, hf, e3, hl]
          exact ⟨Below.refl _ _, rfl⟩
        refine gSt (gStep_on 13 60 true rfl rfl (by decide +kernel) (fun v w h => h) ?_) ?_
        · intro ρ W hC hc hf hL
          have e4 : ρ (.tmp 4) = .pointer (some ⟨w.heap.size + 1, 0, none⟩) := hL 4 (by decide +kernel)
          have hl := hC.1.lb.1
          simp [go_sem, hc, hf, e4, hl]
          exact ⟨Below.refl _ _, rfl⟩
        refine gSt (gStep_on 13 60 true rfl rfl (by decide +kernel) (fun v w h => h) (gRun_move 2 63 (.inl rfl) rfl (by decide +kernel) (fun v w h => h))) ?_
        refine gSt (gStep_on 13 60 true rfl rfl (by decide +kernel) (fun v w h => h) ?_) ?_
        · intro ρ W hC hc hf hL
          have e61 : ρ (.tmp 61) = .agg #[.int .u64 (dgl (a) 0 : Nat), .int .u64 (dgl (a) 1 : Nat), .int .u64 (dgl (a) 2 : Nat), .int .u64 (dgl (a) 3 : Nat), .int .u64 (dgl (a) 4 : Nat), .int .u64 (dgl (a) 5 : Nat), .int .u64 (dgl (a) 6 : Nat), .int .u64 (dgl (a) 7 : Nat)] := hL 61 (by decide +kernel)
          have e62 : ρ (.tmp 62) = .agg #[.int .u64 (dgl (b) 0 : Nat), .int .u64 (dgl (b) 1 : Nat), .int .u64 (dgl (b) 2 : Nat), .int .u64 (dgl (b) 3 : Nat), .int .u64 (dgl (b) 4 : Nat), .int .u64 (dgl (b) 5 : Nat), .int .u64 (dgl (b) 6 : Nat), .int .u64 (dgl (b) 7 : Nat)] := hL 62 (by decide +kernel)
          have e63 : ρ (.tmp 63) = .int .i64 n := hL 63 (by decide +kernel)
          simp [go_sem, hc, hf, e61, e62, e63]
          refine (HNE.out W).mono ?_
          rintro e w' ⟨rfl, hb⟩
          exact ⟨_, rfl, by first | exact hb | (subst hb; exact Below.refl _ _), rfl⟩
        refine gSt (gStep_on 13 60 true rfl rfl (by decide +kernel) (fun v w h => h) ?_) ?_
        · intro ρ W hC hc hf hL
          have e3 : ρ (.tmp 3) = .pointer (some ⟨w.heap.size, 0, none⟩) := hL 3 (by decide +kernel)
          have hl := hC.1.la.1
          simp [go_sem, hc, hf, e3, hl]
          exact ⟨Below.refl _ _, rfl⟩
        refine gSt (gStep_on 13 60 true rfl rfl (by decide +kernel) (fun v w h => h) ?_) ?_
        · intro ρ W hC hc hf hL
          have e65 : ρ (.tmp 65) = .agg #[.int .u64 (dgl (a) 0 : Nat), .int .u64 (dgl (a) 1 : Nat), .int .u64 (dgl (a) 2 : Nat), .int .u64 (dgl (a) 3 : Nat), .int .u64 (dgl (a) 4 : Nat), .int .u64 (dgl (a) 5 : Nat), .int .u64 (dgl (a) 6 : Nat), .int .u64 (dgl (a) 7 : Nat)] := hL 65 (by decide +kernel)
          simp [go_sem, hc, hf, e65]
          refine (HBA.out W).mono ?_
          rintro e w' ⟨v, rfl, hv, hb⟩
          exact ⟨_, rfl, hb, hv⟩
        refine gSt (gStep_on 13 60 true rfl rfl (by decide +kernel) (fun v w h => h) ?_) ?_
        · intro ρ W hC hc hf hL
          have e4 : ρ (.tmp 4) = .pointer (some ⟨w.heap.size + 1, 0, none⟩) := hL 4 (by decide +kernel)
          have hl := hC.1.lb.1
          simp [go_sem, hc, hf, e4, hl]
          exact ⟨Below.refl _ _, rfl⟩
        refine gSt (gStep_on 13 60 true rfl rfl (by decide +kernel) (fun v w h => h) ?_) ?_
        · intro ρ W hC hc hf hL
          have e67 : ρ (.tmp 67) = .agg #[.int .u64 (dgl (b) 0 : Nat), .int .u64 (dgl (b) 1 : Nat), .int .u64 (dgl (b) 2 : Nat), .int .u64 (dgl (b) 3 : Nat), .int .u64 (dgl (b) 4 : Nat), .int .u64 (dgl (b) 5 : Nat), .int .u64 (dgl (b) 6 : Nat), .int .u64 (dgl (b) 7 : Nat)] := hL 67 (by decide +kernel)
          simp [go_sem, hc, hf, e67]
          refine (HBB.out W).mono ?_
          rintro e w' ⟨v, rfl, hv, hb⟩
          exact ⟨_, rfl, hb, hv⟩
        refine gSt (gStep_on 13 60 true rfl rfl (by decide +kernel) (fun v w h => h) ?_) ?_
        · intro ρ W hC hc hf hL
          have b66 : BigV W (ρ (.tmp 66)) (a) (40) := hL 66 (by decide +kernel)
          have b68 : BigV W (ρ (.tmp 68)) (b) (40) := hL 68 (by decide +kernel)
          simp [go_sem, hc, hf]
          refine (HAW.out _ _ W b66 b68).mono ?_
          rintro e w' ⟨v, rfl, hv, hb⟩
          exact ⟨_, rfl, hb, hv⟩
        refine gSt (gStep_on 13 60 true rfl rfl (by decide +kernel) (fun v w h => h) (gRun_move 2 70 (.inl rfl) rfl (by decide +kernel) (fun v w h => h))) ?_
        refine gSt (gStep_on 13 60 true rfl rfl (by decide +kernel) (fun v w h => h) ?_) ?_
        · intro ρ W hC hc hf hL
          have b69 : BigV W (ρ (.tmp 69)) (x) (40) := hL 69 (by decide +kernel)
          have e70 : ρ (.tmp 70) = .int .i64 n := hL 70 (by decide +kernel)
          simp [go_sem, hc, hf, e70]
          refine (HWI.out _ W b69).mono ?_
          rintro e w' ⟨rfl, hb⟩
          exact ⟨_, rfl, by first | exact hb | (subst hb; exact Below.refl _ _), rfl⟩
        refine gSt (gStep_on 13 60 true rfl rfl (by decide +kernel) (fun v w h => h) ?_) ?_
        · intro ρ W hC hc hf hL
          have e64 : ρ (.tmp 64) = .bool z := hL 64 (by decide +kernel)
          have e71 : ρ (.tmp 71) = .bool z := hL 71 (by decide +kernel)
          simp [go_sem, hc, hf, e64, e71]
          exact ⟨Below.refl _ _, rfl⟩
        refine gSt (gStep_run rfl (gRun_pickT 60 72 73 _ rfl rfl (by decide +kernel) (by decide +kernel) (fun v w h => h) (fun v w h => h))) ?_
        refine gSt (gStep_run rfl (gRun_move 73 74 (.inl rfl) rfl (by decide +kernel) (fun v w h => h))) ?_
        refine gSt (gStep_on 27 74 true rfl rfl (by decide +kernel) (fun v w h => h) ?_) ?_
        · intro ρ W hC hc hf hL
          have e3 : ρ (.tmp 3) = .pointer (some ⟨w.heap.size, 0, none⟩) := hL 3 (by decide +kernel)
          have hl := hC.1.la.1
          simp [go_sem, hc, hf, e3, hl]
          exact ⟨Below.refl _ _, rfl⟩
        refine gSt (gStep_on 27 74 true rfl rfl (by decide +kernel) (fun v w h => h) ?_) ?_
        · intro ρ W hC hc hf hL
          have e3 : ρ (.tmp 3) = .pointer (some ⟨w.heap.size, 0, none⟩) := hL 3 (by decide +kernel)
          have hl := hC.1.la.1
          simp [go_sem, hc, hf, e3, hl]
          exact ⟨Below.refl _ _, rfl⟩
        refine gSt (gStep_on 27 74 true rfl rfl (by decide +kernel) (fun v w h => h) ?_) ?_
        · intro ρ W hC hc hf hL
          have e75 : ρ (.tmp 75) = .agg #[.int .u64 (dgl (a) 0 : Nat), .int .u64 (dgl (a) 1 : Nat), .int .u64 (dgl (a) 2 : Nat), .int .u64 (dgl (a) 3 : Nat), .int .u64 (dgl (a) 4 : Nat), .int .u64 (dgl (a) 5 : Nat), .int .u64 (dgl (a) 6 : Nat), .int .u64 (dgl (a) 7 : Nat)] := hL 75 (by decide +kernel)
          have e76 : ρ (.tmp 76) = .agg #[.int .u64 (dgl (a) 0 : Nat), .int .u64 (dgl (a) 1 : Nat), .int .u64 (dgl (a) 2 : Nat), .int .u64 (dgl (a) 3 : Nat), .int .u64 (dgl (a) 4 : Nat), .int .u64 (dgl (a) 5 : Nat), .int .u64 (dgl (a) 6 : Nat), .int .u64 (dgl (a) 7 : Nat)] := hL 76 (by decide +kernel)
          simp [go_sem, hc, hf, e75, e76]
          refine (HN0.out W).mono ?_
          rintro e w' ⟨rfl, hb⟩
          exact ⟨_, rfl, by first | exact hb | (subst hb; exact Below.refl _ _), rfl⟩
        refine gSt (gStep_run rfl (gRun_pickT 74 77 78 _ rfl rfl (by decide +kernel) (by decide +kernel) (fun v w h => h) (fun v w h => h))) ?_
        refine gSt (gStep_run rfl (gRun_move 78 79 (.inl rfl) rfl (by decide +kernel) (fun v w h => h))) ?_
        refine gSt (gStep_on 32 79 true rfl rfl (by decide +kernel) (fun v w h => h) ?_) ?_
        · intro ρ W hC hc hf hL
          simp [go_sem, hc, hf]
          refine (HAK.out W).mono ?_
          rintro e w' ⟨rfl, hb⟩
          exact ⟨_, rfl, by first | exact hb | (subst hb; exact Below.refl _ _), rfl⟩
        refine gSt (gStep_run rfl (gRun_pickT 79 80 81 _ rfl rfl (by decide +kernel) (by decide +kernel) (fun v w h => h) (fun v w h => h))) ?_
        refine gSt (gStep_run rfl (gRun_move 81 6 (.inr rfl) rfl (by decide +kernel) (fun v w h => h))) ?_
        exact gSt0
      · intro W hC
        refine gFi 47 rfl ?_
        rintro _ rfl
        refine gFi 48 rfl ?_
        rintro _ rfl
        refine gFi 49 rfl ?_
        rintro _ rfl
        refine gFi 50 rfl ?_
        rintro _ rfl
        refine gFi 51 rfl ?_
        rintro _ rfl
        refine gFi 52 rfl ?_
        rintro _ rfl
        refine gFi 53 rfl ?_
        rintro _ rfl
        refine gFi 54 rfl ?_
        rintro _ rfl
        refine gFi 55 rfl ?_
        rintro _ rfl
        refine gFi 56 rfl ?_
        rintro _ rfl
        refine gFi 57 rfl ?_
        rintro _ rfl
        refine gFi 58 rfl ?_
        rintro _ rfl
        refine gFi 59 rfl ?_
        rintro _ rfl
        refine gFi 60 rfl ?_
        rintro _ rfl
        refine gFi 61 rfl ?_
        rintro _ rfl
        refine gFi 62 rfl ?_
        rintro _ rfl
        refine gFi 63 rfl ?_
        rintro _ rfl
        refine gFi 64 rfl ?_
        rintro _ rfl
        refine gFi 65 rfl ?_
        rintro _ rfl
        refine gFi 66 rfl ?_
        rintro u66 b66
        refine gFi 67 rfl ?_
        rintro _ rfl
        refine gFi 68 rfl ?_
        rintro u68 b68
        refine gFi 69 rfl ?_
        rintro u69 b69
        refine gFi 70 rfl ?_
        rintro _ rfl
        refine gFi 71 rfl ?_
        rintro _ rfl
        refine gFi 72 rfl ?_
        rintro _ rfl
        refine gFi 73 rfl ?_
        rintro _ rfl
        refine gFi 74 rfl ?_
        rintro _ rfl
        refine gFi 75 rfl ?_
        rintro _ rfl
        refine gFi 76 rfl ?_
        rintro _ rfl
        refine gFi 77 rfl ?_
        rintro _ rfl
        refine gFi 78 rfl ?_
        rintro _ rfl
        refine gFi 79 rfl ?_
        rintro _ rfl
        refine gFi 80 rfl ?_
        rintro _ rfl
        refine gFi 81 rfl ?_
        rintro _ rfl
        refine gFi 6 rfl ?_
        rintro _ rfl
        refine gFi0 ?_
        simp only [List.drop_succ_cons, List.drop_zero, Act.put, List.setIfInBounds_toArray, List.set_cons_succ, List.set_cons_zero]
        have HBE := hide hC.1.bel
        clear hC h7
        go_wp2
        go_ret
        exact ⟨rfl, HBE.out⟩
end Go.Proofs.Yteocibahclpegaa

/- Contracts: the law FixTimes. -/
set_option linter.unusedVariables false
set_option linter.unusedSimpArgs false
set_option maxRecDepth 8000
namespace Go.Proofs.Yteocibahclpegaa
open Go.RowKit Plain

theorem fixTimes_any (a b : Nat) (n : Int) (h1 : -9223372036854775808 ≤ n) (h2 : n ≤ 9223372036854775807) (ha : a < QQ) (hb : b < QQ) (w : World) :
    Calls Try.prog 8 #[.agg #[.int .u64 (dgl (a) 0 : Nat), .int .u64 (dgl (a) 1 : Nat), .int .u64 (dgl (a) 2 : Nat), .int .u64 (dgl (a) 3 : Nat), .int .u64 (dgl (a) 4 : Nat), .int .u64 (dgl (a) 5 : Nat), .int .u64 (dgl (a) 6 : Nat), .int .u64 (dgl (a) 7 : Nat)], .agg #[.int .u64 (dgl (b) 0 : Nat), .int .u64 (dgl (b) 1 : Nat), .int .u64 (dgl (b) 2 : Nat), .int .u64 (dgl (b) 3 : Nat), .int .u64 (dgl (b) 4 : Nat), .int .u64 (dgl (b) 5 : Nat), .int .u64 (dgl (b) 6 : Nat), .int .u64 (dgl (b) 7 : Nat)], .int .i64 n] w fun e w' => e = .returned (.bool true) ∧ Below w.heap.size w w' := by
  obtain ⟨k, hk⟩ : ∃ k : Nat, (k : Int) = max n 0 := ⟨(max n 0).toNat, by omega⟩
  obtain ⟨m, hm⟩ : ∃ m : Nat, (m : Int) = min (max n 0) 1100 := ⟨(min (max n 0) 1100).toNat, by omega⟩
  have hd := div_far (a * b) k m 512 (qq_pow 512 rfl) (by omega) rfl (Nat.mul_lt_mul_of_lt_of_lt ha hb)
  have hTI := fun w => ftimes_any a b k n hk h2 ha hb w
  rw [hd.1] at hTI
  have hpw := pwN_lt n
  have hTW := fun w => ftwo_any a n h1 h2 ha w
  have hNW : ∃ z : Bool, (∀ w, Calls Try.prog 42 #[.agg #[.int .u64 (dgl (a) 0 : Nat), .int .u64 (dgl (a) 1 : Nat), .int .u64 (dgl (a) 2 : Nat), .int .u64 (dgl (a) 3 : Nat), .int .u64 (dgl (a) 4 : Nat), .int .u64 (dgl (a) 5 : Nat), .int .u64 (dgl (a) 6 : Nat), .int .u64 (dgl (a) 7 : Nat)], .agg #[.int .u64 (dgl (b) 0 : Nat), .int .u64 (dgl (b) 1 : Nat), .int .u64 (dgl (b) 2 : Nat), .int .u64 (dgl (b) 3 : Nat), .int .u64 (dgl (b) 4 : Nat), .int .u64 (dgl (b) 5 : Nat), .int .u64 (dgl (b) 6 : Nat), .int .u64 (dgl (b) 7 : Nat)], .int .i64 n] w fun e w' => e = .returned (.bool z) ∧ Below w.heap.size w w') ∧ ∀ u w, BigV w u (awN a b) 40 → Calls Try.prog 30 #[u, .int .i64 n] w fun e w' => e = .returned (.bool z) ∧ Below w.heap.size w w' := by
    by_cases h : n < 0
    · exact ⟨false, fun w => fnear_no a b n h w, fun u w _ => within18_no u n h w⟩
    · obtain ⟨j, rfl⟩ : ∃ j : Nat, n = (j : Nat) := ⟨n.toNat, by omega⟩
      exact ⟨_, fun w => fnear_any a b j (by omega) ha hb w, fun u w hu => within18_yes (awN a b) 40 j u w hu (by omega)⟩
  obtain ⟨z, hNE, hWI⟩ := hNW
  have hN0 : ∀ w, Calls Try.prog 42 #[.agg #[.int .u64 (dgl (a) 0 : Nat), .int .u64 (dgl (a) 1 : Nat), .int .u64 (dgl (a) 2 : Nat), .int .u64 (dgl (a) 3 : Nat), .int .u64 (dgl (a) 4 : Nat), .int .u64 (dgl (a) 5 : Nat), .int .u64 (dgl (a) 6 : Nat), .int .u64 (dgl (a) 7 : Nat)], .agg #[.int .u64 (dgl (a) 0 : Nat), .int .u64 (dgl (a) 1 : Nat), .int .u64 (dgl (a) 2 : Nat), .int .u64 (dgl (a) 3 : Nat), .int .u64 (dgl (a) 4 : Nat), .int .u64 (dgl (a) 5 : Nat), .int .u64 (dgl (a) 6 : Nat), .int .u64 (dgl (a) 7 : Nat)], .int .i64 0] w fun e w' => e = .returned (.bool true) ∧ Below w.heap.size w w' := fun w => by
    have h := fnear_any a a 0 (by decide) ha ha w
    rw [decide_eq_true (show awN a a ≤ 0 by unfold awN; rw [if_neg (Nat.lt_irrefl a)]; omega)] at h
    exact h
  have hMU : ∀ u v w, BigV w u a 40 → BigV w v b 40 → Calls Try.prog 17 #[u, v] w fun e w' => ∃ v, e = .returned v ∧ BigV w' v (a * b) 80 ∧ Below w.heap.size w w' := fun u v w hu hv => refMul_any a b 40 40 u v w hu hv (by decide) (by decide)
  have hAW : ∀ u v w, BigV w u a 40 → BigV w v b 40 → Calls Try.prog 29 #[u, v] w fun e w' => ∃ v, e = .returned v ∧ BigV w' v (awN a b) 40 ∧ Below w.heap.size w w' := fun u v w hu hv => away18_any a b 40 40 u v w hu hv (by decide) (by decide)
  have hSB : ∀ u v w, BigV w u (QQ + pwN n) 20 → BigV w v a 40 → Calls Try.prog 39 #[u, v] w fun e w' => ∃ v, e = .returned v ∧ BigV w' v (QQ + pwN n - a) 20 ∧ Below w.heap.size w w' := fun u v w hu hv => refSub_any (QQ + pwN n) a 20 40 u v w hu hv (by decide) (by omega)
  have hSH : ∀ u w, BigV w u (a * b) 80 → Calls Try.prog 35 #[u, .int .i64 (m : Nat)] w fun e w' => ∃ v, e = .returned v ∧ BigV w' v (a * b / 2 ^ m) 80 ∧ Below w.heap.size w w' := fun u w hu => refShr_any _ 80 m u w hu (by decide) (by omega)
  by_cases c1 : -1 ≤ n
  · by_cases c2 : n ≤ 510
    · have hPW : ∀ w, Calls Try.prog 38 #[.int .i64 (n + 1)] w fun e w' => ∃ v, e = .returned v ∧ BigV w' v (pwN n) 19 ∧ Below w.heap.size w w' := fun w =>
        (refPower_int (n + 1).toNat (pwN n) (n + 1) (by omega) (by unfold pwN; rw [if_pos ⟨c1, c2⟩]) (by omega) w).mono fun e w' ⟨v, e1, e2, e3⟩ => ⟨v, e1, e2.mono (by omega), e3⟩
      exact fixTimes_Y a b (a * b) m (a * b / 2 ^ m) QQ (pwN n) (QQ + pwN n) (QQ + pwN n - a) (awN a b) n (n + 1) _ _ z w hm (decide_eq_true c1) (decide_eq_true c2) (hide (by rw [IntKind.wrap_i64]; omega))
        (hide fun w => refBig_any a ha w) (hide fun w => refBig_any b hb w) (hide hMU) (hide hSH) (hide fun u w hu => refWide_any _ _ u w hu) (hide fun w => refWhole_any w) (hide hPW)
        (hide fun u v w hu hv => refAdd_any QQ (pwN n) 19 19 u v w hu hv (by decide) (by decide)) (hide hSB) (hide fun u w hu => refWide_any _ _ u w hu) (hide hTI) (hide hTW) (hide hNE) (hide hAW) (hide hWI) (hide hN0) (hide fun w => awake18_any w) (hide fun w => wide_same _ w) (hide fun w => wide_same _ w)
    · have hs : QQ + pwN n = QQ := by unfold pwN; rw [if_neg (by omega)]; rfl
      exact fixTimes_B a b (a * b) m (a * b / 2 ^ m) QQ 0 (QQ + pwN n) (QQ + pwN n - a) (awN a b) n 0 _ _ z w hm (decide_eq_true c1) (decide_eq_false c2) hs
        (hide fun w => refBig_any a ha w) (hide fun w => refBig_any b hb w) (hide hMU) (hide hSH) (hide fun u w hu => refWide_any _ _ u w hu) (hide fun w => refWhole_any w)
        (hide hSB) (hide fun u w hu => refWide_any _ _ u w hu) (hide hTI) (hide hTW) (hide hNE) (hide hAW) (hide hWI) (hide hN0) (hide fun w => awake18_any w) (hide fun w => wide_same _ w) (hide fun w => wide_same _ w)
  · have hs : QQ + pwN n = QQ := by unfold pwN; rw [if_neg (by omega)]; rfl
    exact fixTimes_A a b (a * b) m (a * b / 2 ^ m) QQ 0 (QQ + pwN n) (QQ + pwN n - a) (awN a b) n 0 _ _ z w hm (decide_eq_false c1) hs
      (hide fun w => refBig_any a ha w) (hide fun w => refBig_any b hb w) (hide hMU) (hide hSH) (hide fun u w hu => refWide_any _ _ u w hu) (hide fun w => refWhole_any w)
      (hide hSB) (hide fun u w hu => refWide_any _ _ u w hu) (hide hTI) (hide hTW) (hide hNE) (hide hAW) (hide hWI) (hide hN0) (hide fun w => awake18_any w) (hide fun w => wide_same _ w) (hide fun w => wide_same _ w)
end Go.Proofs.Yteocibahclpegaa

/- For all wides and ints the law radicandlaw18.FixTimes returns true and leaves what came in as it was. No condition. -/
namespace Go.Proofs.Yteocibahclpegaa.fixTimes
open Go.ChangeShapes Go.WideShapes Go.ChangeAt Go.RowKit Go.Proofs.Yteocibahclpegaa

theorem own : ownKnob Try.prog.godebug = none := by kernel_rfl
theorem laidOut : laidOutB Try.prog = true := by kernel_rfl

set_option maxRecDepth 100000 in
theorem lifted (os : Os) (started : os.Started) (H : Type) (enc : TypeId × Value → H) :
    ReturnsInHanded {} Try.checked os 8 .any (Rows.fixTimesSpec.pre6 enc Try.prog Try.f8 Rows.fixTimesRow.domain false) (Rows.fixTimesSpec.post enc Try.prog Try.f8 false true false false) := by
  refine returnsInHanded_of_change (C := Try.checked) own started (by kernel_rfl) Try.func8
    (ChangeSpec.witness6 (enc := enc) (C := Try.checked) false ⟨#[], #[.agg #[.int .u64 0, .int .u64 0, .int .u64 0, .int .u64 0, .int .u64 0, .int .u64 0, .int .u64 0, .int .u64 0], .agg #[.int .u64 0, .int .u64 0, .int .u64 0, .int .u64 0, .int .u64 0, .int .u64 0, .int .u64 0, .int .u64 0], .int .i64 0], []⟩ 40 (by kernel_rfl) (by kernel_rfl) (by kernel_rfl) (by kernel_rfl)) ?_
  intro W base args ds gs before hval0 hW hcnd _
  have hval : ∀ (j : Nat) t v, Try.f8.params[j]? = some t → args[j]? = some v → Value.okWide Try.prog W .any base t v := hval0
  have hW' := hW
  obtain ⟨p, q, hA0, hV, rfl, hfz, hnd⟩ := hW
  have hA : DataW.TrodAll enc Try.prog W 0 (fun _ => true) true Try.f8.params.toList args.toList ds p := hA0
  rw [Try.params8] at hA hval
  obtain ⟨v0, vs0, d0, ds0, p0, q0, hargs, rfl, rfl, h0, r0⟩ := trodAll_cons hA
  obtain ⟨v1, vs1, d1, ds1, p1, q1, rfl, rfl, rfl, h1, r1⟩ := trodAll_cons r0
  obtain ⟨v2, vs2, d2, ds2, p2, q2, rfl, rfl, rfl, h2, r2⟩ := trodAll_cons r1
  obtain ⟨rfl, rfl, rfl⟩ := trodAll_nil r2
  obtain rfl : args = #[v0, v1, v2] := by cases args; simp_all
  obtain ⟨rfl, rfl⟩ := trodVars_none hV
  have k0 := h0
  have lt0 : ∀ x ∈ p0, x.block < W.heap.size := by obtain ⟨m, hm⟩ := k0; exact DataW.trod_lt m _ _ _ hm
  have k1 := h1
  have lt1 : ∀ x ∈ p1, x.block < W.heap.size := by obtain ⟨m, hm⟩ := k1; exact DataW.trod_lt m _ _ _ hm
  have k2 := h2
  have lt2 : ∀ x ∈ p2, x.block < W.heap.size := by obtain ⟨m, hm⟩ := k2; exact DataW.trod_lt m _ _ _ hm
  obtain ⟨x0, hx0, rfl⟩ := wide_of_trod (hval 0 32 v0 rfl rfl) h0
  obtain ⟨x1, hx1, rfl⟩ := wide_of_trod (hval 1 32 v1 rfl rfl) h1
  obtain ⟨a2, rfl, rfl, rfl, wf2⟩ := open_int Try.underlying3 (hval 2 3 v2 rfl rfl) h2
  clear hA0 hval0
  refine (fixTimes_any x0 x1 a2 (i64_bd wf2).1 (i64_bd wf2).2 hx0 hx1 W).mono fun e W' ⟨he, bel⟩ => ?_
  subst he
  exact ⟨_, rfl, _, _, _, [], _, [], hW', trodAll_mk1 (shut_bool Try.underlying4 _), (trodAll_cons_mk (Below.trod laidOut (by kernel_rfl) (of_decide_eq_true (by kernel_rfl)) k0 bel lt0) (trodAll_cons_mk (Below.trod laidOut (by kernel_rfl) (of_decide_eq_true (by kernel_rfl)) k1 bel lt1) (trodAll_cons_mk (Below.trod laidOut (by kernel_rfl) (of_decide_eq_true (by kernel_rfl)) k2 bel lt2) trodAll_mk0))), rfl, bel.frame _, fun h => by cases h⟩

theorem over : Rows.fixTimesRow.holds Try.pinned (OpenSpec.ofChange Rows.fixTimesSpec) :=
  OpenClaim.holds_of_wide 8 Try.f8 rfl rfl rfl rfl rfl rfl rfl ⟨rfl, rfl, rfl, rfl, rfl⟩ rfl rfl rfl rfl rfl (by kernel_rfl) Try.func8 (by kernel_rfl)
    (of_decide_eq_true (by kernel_rfl)) (by unfold Func.isWrapper; first | (rw [if_pos (by decide +kernel)]; kernel_rfl) | (rw [if_neg (by decide +kernel)]; exact ⟨rfl, rfl⟩))
    (fun os started H enc _ => lifted os started H enc)

theorem proved : Rows.FixTimesSaid := over
#print axioms proved
end Go.Proofs.Yteocibahclpegaa.fixTimes

