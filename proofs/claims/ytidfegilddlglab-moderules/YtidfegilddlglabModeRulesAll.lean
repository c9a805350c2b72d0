/- ModeRules: for every wide, number of digits and two ints the law returns true. -/
import Derived.Test.YtidfegilddlglabXModD
import Derived.Test.YtidfegilddlglabRows
import Derived.WalkKit
import Derived.ProofKit
import Derived.OpenShut
import Derived.ShutString
import Derived.ChangeOld
import Derived.Below
/- The walk of ModeRules. -/
set_option linter.unusedVariables false
set_option linter.unusedSimpArgs false
set_option maxRecDepth 8000
namespace Go.Proofs.Ytidfegilddlglab
open Go.RowKit Plain

structure UtSt (a : Nat) (q0 q1 : Int) (w W : World) : Prop where
  la : LiesF W w.heap.size (dgl a)
  fr : ∀ i, W.frozen? ⟨w.heap.size, i, none⟩ = false
  c0 : W.cell? ⟨w.heap.size + 1, 0, none⟩ = some (.int .i64 q0)
  c1 : W.cell? ⟨w.heap.size + 1, 1, none⟩ = some (.int .i64 q1)
  lt : w.heap.size + 1 < W.heap.size
  bel : Below w.heap.size w W
theorem UtSt.under {a : Nat} {q0 q1 : Int} {w W W' : World} (h : UtSt a q0 q1 w W) {C : Nat} (hb : Below C W W') (hc : w.heap.size + 1 < C) : UtSt a q0 q1 w W' :=
  ⟨lies_box h.la hb (by omega), fun i => (hb.frozen (p := ⟨w.heap.size, i, none⟩) (show w.heap.size < C by omega)).trans (h.fr i), (hb.cell (p := ⟨w.heap.size + 1, 0, none⟩) hc).trans h.c0, (hb.cell (p := ⟨w.heap.size + 1, 1, none⟩) hc).trans h.c1, Nat.lt_of_lt_of_le h.lt hb.size, h.bel.trans (hb.mono (by omega))⟩
theorem UtSt.below {a : Nat} {q0 q1 : Int} {w W W' : World} (h : UtSt a q0 q1 w W) (hb : Below W.heap.size W W') : UtSt a q0 q1 w W' := h.under hb h.lt
theorem utSt_start (a : Nat) (q0 q1 : Int) (w : World) : UtSt a q0 q1 w ((w.alloc (.cells #[.int .u64 (dgl (a) 0 : Nat), .int .u64 (dgl (a) 1 : Nat), .int .u64 (dgl (a) 2 : Nat), .int .u64 (dgl (a) 3 : Nat), .int .u64 (dgl (a) 4 : Nat), .int .u64 (dgl (a) 5 : Nat), .int .u64 (dgl (a) 6 : Nat), .int .u64 (dgl (a) 7 : Nat)] 24)).alloc (.cells #[.int .i64 q0, .int .i64 q1] 36)) :=
  ⟨(liesF_new w (dgl a) 24).alloc _, fun i => by simp [go_sem], by simp [go_sem], by simp [go_sem], by simp, below_trans (below_allocs _ _) (below_allocs _ _)⟩
theorem UtSt.half {a a0 : Nat} {q0 q1 : Int} {w W : World} (h : UtSt a0 q0 q1 w W) (h1 : ∀ i, i < 7 → dgl a i = dgl a0 i) (h7 : dgl a 7 = dgl a0 7 / 2) : UtSt a q0 q1 w (W.setCell ⟨w.heap.size, 7, none⟩ (.int .u64 ((dgl a0 7 / 2 : Nat) : Int))) := by
  refine ⟨⟨fun i hi => ?_, by simpa [go_sem] using h.la.2⟩, fun i => by simpa [go_sem] using h.fr i, by simpa [go_sem] using h.c0, by simpa [go_sem] using h.c1, by simpa [go_sem] using h.lt, h.bel.setCell (p := ⟨w.heap.size, 7, none⟩) (Nat.le_refl _) _⟩
  by_cases e : i = 7
  · subst e
    have := h.la.1 7 (by decide)
    rw [h7]
    simp [go_sem, this, h.la.2]
  · have h2 := h.la.1 i hi
    rw [h1 i (by omega)]
    have e2 : ¬ 7 = i := fun x => e x.symm
    simpa [go_sem, e, e2] using h2

set_option maxHeartbeats 2000000 in
theorem modeRules_grow (a a0 b x y : Nat) (n q0 q1 t1 t2 t3 m mm : Int) (neg is : Bool)
    (Hq : Hid ((q1.tmod 2 == 0) = neg)) (Hn : Hid ((b : Int).tmod 520 = n)) (Hn2 : Hid (IntKind.i64.wrap n = n)) (Ht1 : Hid (q0.tmod 5 = t1)) (Ht2 : Hid (IntKind.i64.wrap (t1 + 5) = t2)) (Ht3 : Hid (t2.tmod 5 = t3)) (Hm : Hid (IntKind.i64.wrap (1 + t3) = m))
    (Ha : Hid (∀ i, i < 7 → dgl a i = dgl a0 i)) (Ha7 : Hid (dgl a 7 = dgl a0 7 / 2))
    (HC1 : Hid (∀ w, Calls Try.prog 12 #[.agg #[.int .u64 (dgl (a) 0 : Nat), .int .u64 (dgl (a) 1 : Nat), .int .u64 (dgl (a) 2 : Nat), .int .u64 (dgl (a) 3 : Nat), .int .u64 (dgl (a) 4 : Nat), .int .u64 (dgl (a) 5 : Nat), .int .u64 (dgl (a) 6 : Nat), .int .u64 (dgl (a) 7 : Nat)], .int .i64 n, .bool false, .int .i64 m, .bool neg] w fun e w' => e = .returned (.tuple #[.agg #[.int .u64 (dgl (x) 0 : Nat), .int .u64 (dgl (x) 1 : Nat), .int .u64 (dgl (x) 2 : Nat), .int .u64 (dgl (x) 3 : Nat), .int .u64 (dgl (x) 4 : Nat), .int .u64 (dgl (x) 5 : Nat), .int .u64 (dgl (x) 6 : Nat), .int .u64 (dgl (x) 7 : Nat)], .bool is]) ∧ Below w.heap.size w w'))
    (HC2 : Hid (∀ w, Calls Try.prog 12 #[.agg #[.int .u64 (dgl (a) 0 : Nat), .int .u64 (dgl (a) 1 : Nat), .int .u64 (dgl (a) 2 : Nat), .int .u64 (dgl (a) 3 : Nat), .int .u64 (dgl (a) 4 : Nat), .int .u64 (dgl (a) 5 : Nat), .int .u64 (dgl (a) 6 : Nat), .int .u64 (dgl (a) 7 : Nat)], .int .i64 n, .bool false, .int .i64 mm, .bool (!neg)] w fun e w' => e = .returned (.tuple #[.agg #[.int .u64 (dgl (x) 0 : Nat), .int .u64 (dgl (x) 1 : Nat), .int .u64 (dgl (x) 2 : Nat), .int .u64 (dgl (x) 3 : Nat), .int .u64 (dgl (x) 4 : Nat), .int .u64 (dgl (x) 5 : Nat), .int .u64 (dgl (x) 6 : Nat), .int .u64 (dgl (x) 7 : Nat)], .bool is]) ∧ Below w.heap.size w w'))
    (HC3 : Hid (∀ w, Calls Try.prog 12 #[.agg #[.int .u64 (dgl (a) 0 : Nat), .int .u64 (dgl (a) 1 : Nat), .int .u64 (dgl (a) 2 : Nat), .int .u64 (dgl (a) 3 : Nat), .int .u64 (dgl (a) 4 : Nat), .int .u64 (dgl (a) 5 : Nat), .int .u64 (dgl (a) 6 : Nat), .int .u64 (dgl (a) 7 : Nat)], .int .i64 n, .bool false, .int .i64 3, .bool neg] w fun e w' => e = .returned (.tuple #[.agg #[.int .u64 (dgl (y) 0 : Nat), .int .u64 (dgl (y) 1 : Nat), .int .u64 (dgl (y) 2 : Nat), .int .u64 (dgl (y) 3 : Nat), .int .u64 (dgl (y) 4 : Nat), .int .u64 (dgl (y) 5 : Nat), .int .u64 (dgl (y) 6 : Nat), .int .u64 (dgl (y) 7 : Nat)], .bool is]) ∧ Below w.heap.size w w'))
    (HMI : Hid (∀ w, Calls Try.prog 14 #[.int .i64 m] w fun e w' => e = .returned (.int .i64 mm) ∧ w' = w))
    (HBX : Hid (∀ w, Calls Try.prog 15 #[.agg #[.int .u64 (dgl (x) 0 : Nat), .int .u64 (dgl (x) 1 : Nat), .int .u64 (dgl (x) 2 : Nat), .int .u64 (dgl (x) 3 : Nat), .int .u64 (dgl (x) 4 : Nat), .int .u64 (dgl (x) 5 : Nat), .int .u64 (dgl (x) 6 : Nat), .int .u64 (dgl (x) 7 : Nat)]] w fun e w' => ∃ v, e = .returned v ∧ BigV w' v x 40 ∧ Below w.heap.size w w'))
    (HBY : Hid (∀ w, Calls Try.prog 15 #[.agg #[.int .u64 (dgl (y) 0 : Nat), .int .u64 (dgl (y) 1 : Nat), .int .u64 (dgl (y) 2 : Nat), .int .u64 (dgl (y) 3 : Nat), .int .u64 (dgl (y) 4 : Nat), .int .u64 (dgl (y) 5 : Nat), .int .u64 (dgl (y) 6 : Nat), .int .u64 (dgl (y) 7 : Nat)]] w fun e w' => ∃ v, e = .returned v ∧ BigV w' v y 40 ∧ Below w.heap.size w w'))
    (HSM : Hid (∀ w, Calls Try.prog 18 #[.int .u64 1] w fun e w' => ∃ v, e = .returned v ∧ BigV w' v 1 2 ∧ Below w.heap.size w w'))
    (HAD : Hid (∀ v u w, BigV w v y 40 → BigV w u 1 2 → Calls Try.prog 17 #[v, u] w fun e w' => ∃ v, e = .returned v ∧ BigV w' v (y + 1) 41 ∧ Below w.heap.size w w'))
    (HCM : Hid (∀ v u w, BigV w v x 40 → BigV w u (y + 1) 41 → Calls Try.prog 16 #[v, u] w fun e w' => e = .returned (.int .i64 (0)) ∧ w' = w))
    (HU : Hid (m = 4 → is = true → neg = false))
    (HD : Hid (m = 5 → is = true → neg = true))
    (HIS : Hid (is = true)) (w : World) : Calls Try.prog 5 #[.agg #[.int .u64 (dgl (a0) 0 : Nat), .int .u64 (dgl (a0) 1 : Nat), .int .u64 (dgl (a0) 2 : Nat), .int .u64 (dgl (a0) 3 : Nat), .int .u64 (dgl (a0) 4 : Nat), .int .u64 (dgl (a0) 5 : Nat), .int .u64 (dgl (a0) 6 : Nat), .int .u64 (dgl (a0) 7 : Nat)], .int .u16 (b : Nat), .agg #[.int .i64 q0, .int .i64 q1]] w fun e w' => e = .returned (.bool true) ∧ Below w.heap.size w w' := by
  have HST := hide (utSt_start a0 q0 q1 w)
  go_enter Try.func5, Try.ntmps5
  go_upto_region 1 with fail
  refine wp_gen (fun W => UtSt a0 q0 q1 w W) HST.out ?_
  clear HST
  rintro W1 h1
  refine wp_region_grow 11 [(19, .val (.int .u16 (b : Nat))), (20, .val (.int .u16 n)), (21, .val (.int .i64 n)), (22, .val (.pointer (some ⟨w.heap.size + 1, 0, none⟩))), (23, .val (.int .i64 q0)), (24, .val (.int .i64 t1)), (25, .val (.int .i64 t2)), (26, .val (.int .i64 t3)), (27, .val (.int .i64 m)), (7, .val (.int .i64 n)), (8, .val (.int .i64 m))]
    (fun W => UtSt a0 q0 q1 w W) mixedOk (by kernel_rfl) (by kernel_rfl) (h1.below (Below.refl _ _).drew) (fun W W' h hb => h.below hb) ?_ ?_
  · refine gSt (gStep_run rfl (gRun_move 1 19 (.inl rfl) rfl (by decide +kernel) (fun v w h => h))) ?_
    refine gSt (gStep_run rfl ?_) ?_
    · intro ρ W hC hc hf hL
      have e19 : ρ (.tmp 19) = .int .u16 (b : Nat) := hL 19 (by decide +kernel)
      have hl := Hn.out
      simp [go_sem, hc, hf, e19, hl]
      exact ⟨Below.refl _ _, rfl⟩
    refine gSt (gStep_run rfl ?_) ?_
    · intro ρ W hC hc hf hL
      have e20 : ρ (.tmp 20) = .int .u16 n := hL 20 (by decide +kernel)
      have hl := Hn2.out
      simp [go_sem, hc, hf, e20, hl]
      exact ⟨Below.refl _ _, rfl⟩
    refine gSt (gStep_run rfl ?_) ?_
    · intro ρ W hC hc hf hL
      have e5 : ρ (.tmp 5) = .pointer (some ⟨w.heap.size + 1, 0, none⟩) := hL 5 (by decide +kernel)
      have hl := hC.lt
      simp [go_sem, hc, hf, e5, hl]
      exact ⟨Below.refl _ _, rfl⟩
    refine gSt (gStep_run rfl ?_) ?_
    · intro ρ W hC hc hf hL
      have e22 : ρ (.tmp 22) = .pointer (some ⟨w.heap.size + 1, 0, none⟩) := hL 22 (by decide +kernel)
      have hl := hC.c0
      simp [go_sem, hc, hf, e22, hl]
      exact ⟨Below.refl _ _, rfl⟩
    refine gSt (gStep_run rfl ?_) ?_
    · intro ρ W hC hc hf hL
      have e23 : ρ (.tmp 23) = .int .i64 q0 := hL 23 (by decide +kernel)
      have hl := Ht1.out
      simp [go_sem, hc, hf, e23, hl]
      exact ⟨Below.refl _ _, rfl⟩
    refine gSt (gStep_run rfl ?_) ?_
    · intro ρ W hC hc hf hL
      have e24 : ρ (.tmp 24) = .int .i64 t1 := hL 24 (by decide +kernel)
      have hl := Ht2.out
      simp [go_sem, hc, hf, e24, hl]
      exact ⟨Below.refl _ _, rfl⟩
    refine gSt (gStep_run rfl ?_) ?_
    · intro ρ W hC hc hf hL
      have e25 : ρ (.tmp 25) = .int .i64 t2 := hL 25 (by decide +kernel)
      have hl := Ht3.out
      simp [go_sem, hc, hf, e25, hl]
      exact ⟨Below.refl _ _, rfl⟩
    refine gSt (gStep_run rfl ?_) ?_
    · intro ρ W hC hc hf hL
      have e26 : ρ (.tmp 26) = .int .i64 t3 := hL 26 (by decide +kernel)
      have hl := Hm.out
      simp [go_sem, hc, hf, e26, hl]
      exact ⟨Below.refl _ _, rfl⟩
    refine gSt (gStep_run rfl (gRun_move 21 7 (.inr rfl) rfl (by decide +kernel) (fun v w h => h))) ?_
    refine gSt (gStep_run rfl (gRun_move 27 8 (.inr rfl) rfl (by decide +kernel) (fun v w h => h))) ?_
    exact gSt0
  · intro W hC
    refine gFi 19 rfl ?_
    rintro _ rfl
    refine gFi 20 rfl ?_
    rintro _ rfl
    refine gFi 21 rfl ?_
    rintro _ rfl
    refine gFi 22 rfl ?_
    rintro _ rfl
    refine gFi 23 rfl ?_
    rintro _ rfl
    refine gFi 24 rfl ?_
    rintro _ rfl
    refine gFi 25 rfl ?_
    rintro _ rfl
    refine gFi 26 rfl ?_
    rintro _ rfl
    refine gFi 27 rfl ?_
    rintro _ rfl
    refine gFi 7 rfl ?_
    rintro _ rfl
    refine gFi 8 rfl ?_
    rintro _ rfl
    refine gFi0 ?_
    simp only [List.drop_succ_cons, List.drop_zero, Act.put, List.setIfInBounds_toArray, List.set_cons_succ, List.set_cons_zero]
    have HST := hide hC
    clear hC h1
    have hq := Hq.out
    have hc1 := HST.out.c1
    have hlt := HST.out.lt
    have hl := HST.out.la.1
    have hlz := HST.out.la.2
    have hfr := HST.out.fr
    go_upto_region 4 with fail
    refine wp_gen (fun W => UtSt a q0 q1 w W) (by have hd := dgl_lt a0 7; have hx : IntKind.u64.wrap (((dgl a0 7 : Nat) : Int) / 2) = ((dgl a0 7 : Nat) : Int) / 2 := (by rw [IntKind.wrap_u64]; omega); have := HST.out.half Ha.out Ha7.out; simpa [hx] using this) ?_
    clear HST hc1 hlt hl hlz hfr
    rintro W2 h2
    have HST := hide h2
    clear h2
    have hl := HST.out.la.1
    go_wp2_with fail
    refine (HC1.out _).mono ?_
    rintro e w3 ⟨rfl, hb3⟩
    replace HST := hide (HST.out.below hb3)
    clear hb3 hl hq
    go_upto_region 5 with fail
    refine wp_gen (fun W => ∃ p10, UtSt a q0 q1 w W ∧ LiesF W p10 (dgl x) ∧ w.heap.size + 1 < p10 ∧ p10 = w3.heap.size) ⟨_, HST.out.below (below_allocs _ _), liesF_new _ _ _, HST.out.lt, rfl⟩ ?_
    clear HST
    rintro W3 ⟨p10, g1, g2, g3, g4⟩
    rw [← g4]
    have HP := hide g3
    clear g3 g4
    refine wp_region_storeK 13 [11] [45, 46, 47, 48, 49, 50, 51, 44, 52, 53, 12, 13] (fun bs => [(45, .val (.agg #[.int .u64 (dgl (a) 0 : Nat), .int .u64 (dgl (a) 1 : Nat), .int .u64 (dgl (a) 2 : Nat), .int .u64 (dgl (a) 3 : Nat), .int .u64 (dgl (a) 4 : Nat), .int .u64 (dgl (a) 5 : Nat), .int .u64 (dgl (a) 6 : Nat), .int .u64 (dgl (a) 7 : Nat)])), (46, .val (.int .i64 n)), (47, .val (.int .i64 m)), (48, .val (.int .i64 mm)), (49, .val (.bool neg)), (50, .val (.bool (!neg))), (51, .val (.tuple #[.agg #[.int .u64 (dgl (x) 0 : Nat), .int .u64 (dgl (x) 1 : Nat), .int .u64 (dgl (x) 2 : Nat), .int .u64 (dgl (x) 3 : Nat), .int .u64 (dgl (x) 4 : Nat), .int .u64 (dgl (x) 5 : Nat), .int .u64 (dgl (x) 6 : Nat), .int .u64 (dgl (x) 7 : Nat)], .bool is])), (44, .val (.tuple #[.agg #[.int .u64 (dgl (x) 0 : Nat), .int .u64 (dgl (x) 1 : Nat), .int .u64 (dgl (x) 2 : Nat), .int .u64 (dgl (x) 3 : Nat), .int .u64 (dgl (x) 4 : Nat), .int .u64 (dgl (x) 5 : Nat), .int .u64 (dgl (x) 6 : Nat), .int .u64 (dgl (x) 7 : Nat)], .bool is])), (52, .val (.agg #[.int .u64 (dgl (x) 0 : Nat), .int .u64 (dgl (x) 1 : Nat), .int .u64 (dgl (x) 2 : Nat), .int .u64 (dgl (x) 3 : Nat), .int .u64 (dgl (x) 4 : Nat), .int .u64 (dgl (x) 5 : Nat), .int .u64 (dgl (x) 6 : Nat), .int .u64 (dgl (x) 7 : Nat)])), (53, .val (.bool is)), (12, bif bs.headD false then SlotIs.box (p10 + 1) (dgl x) else SlotIs.box (p10 + 1) (fun _ => 0)), (13, .val (.bool is))])
      (fun _ W => UtSt a q0 q1 w W ∧ LiesF W p10 (dgl x)) (fun bs => rfl) mixedOk (by kernel_rfl) (by kernel_rfl) (by kernel_rfl) (⟨g1.below (Below.refl _ _).drew, g2.below (Below.refl _ _).drew⟩) (fun bs W W' h hb => ⟨h.1.below hb, h.2.below hb⟩) ?_ ?_
    · refine kSt rfl (fun φ hφ => gStep_run rfl ?_) ?_
      · intro ρ W hC hc hf hL
        have e3 : ρ (.tmp 3) = .pointer (some ⟨w.heap.size, 0, none⟩) := hL 3 (by decide +kernel)
        have hl := hC.1.la.1
        simp [go_sem, hc, hf, e3, hl]
        exact ⟨Below.refl _ _, rfl⟩
      refine kSt rfl (fun φ hφ => gStep_run rfl (gRun_move 7 46 (.inl rfl) rfl (by decide +kernel) (fun v w h => h))) ?_
      refine kSt rfl (fun φ hφ => gStep_run rfl (gRun_move 8 47 (.inl rfl) rfl (by decide +kernel) (fun v w h => h))) ?_
      refine kSt rfl (fun φ hφ => gStep_run rfl ?_) ?_
      · intro ρ W hC hc hf hL
        have e47 : ρ (.tmp 47) = .int .i64 m := hL 47 (by decide +kernel)
        simp [go_sem, hc, hf, e47]
        refine (HMI.out _).mono ?_
        rintro e w' ⟨rfl, hb⟩
        exact ⟨_, rfl, by first | exact hb | (subst hb; exact Below.refl _ _), rfl⟩
      refine kSt rfl (fun φ hφ => gStep_run rfl (gRun_move 9 49 (.inl rfl) rfl (by decide +kernel) (fun v w h => h))) ?_
      refine kSt rfl (fun φ hφ => gStep_run rfl ?_) ?_
      · intro ρ W hC hc hf hL
        have e49 : ρ (.tmp 49) = .bool neg := hL 49 (by decide +kernel)
        simp [go_sem, hc, hf, e49]
        exact ⟨Below.refl _ _, rfl⟩
      refine kSt rfl (fun φ hφ => gStep_run rfl ?_) ?_
      · intro ρ W hC hc hf hL
        have e45 : ρ (.tmp 45) = .agg #[.int .u64 (dgl (a) 0 : Nat), .int .u64 (dgl (a) 1 : Nat), .int .u64 (dgl (a) 2 : Nat), .int .u64 (dgl (a) 3 : Nat), .int .u64 (dgl (a) 4 : Nat), .int .u64 (dgl (a) 5 : Nat), .int .u64 (dgl (a) 6 : Nat), .int .u64 (dgl (a) 7 : Nat)] := hL 45 (by decide +kernel)
        have e46 : ρ (.tmp 46) = .int .i64 n := hL 46 (by decide +kernel)
        have e48 : ρ (.tmp 48) = .int .i64 mm := hL 48 (by decide +kernel)
        have e50 : ρ (.tmp 50) = .bool (!neg) := hL 50 (by decide +kernel)
        simp [go_sem, hc, hf, e45, e46, e48, e50]
        refine (HC2.out _).mono ?_
        rintro e w' ⟨rfl, hb⟩
        exact ⟨_, rfl, by first | exact hb | (subst hb; exact Below.refl _ _), rfl⟩
      refine kSt rfl (fun φ hφ => gStep_run rfl (gRun_move 51 44 (.inl rfl) rfl (by decide +kernel) (fun v w h => h))) ?_
      refine kSt rfl (fun φ hφ => gStep_run rfl ?_) ?_
      · intro ρ W hC hc hf hL
        have e44 : ρ (.tmp 44) = .tuple #[.agg #[.int .u64 (dgl (x) 0 : Nat), .int .u64 (dgl (x) 1 : Nat), .int .u64 (dgl (x) 2 : Nat), .int .u64 (dgl (x) 3 : Nat), .int .u64 (dgl (x) 4 : Nat), .int .u64 (dgl (x) 5 : Nat), .int .u64 (dgl (x) 6 : Nat), .int .u64 (dgl (x) 7 : Nat)], .bool is] := hL 44 (by decide +kernel)
        simp [go_sem, hc, hf, e44]
        exact ⟨Below.refl _ _, rfl⟩
      refine kSt rfl (fun φ hφ => gStep_run rfl ?_) ?_
      · intro ρ W hC hc hf hL
        have e44 : ρ (.tmp 44) = .tuple #[.agg #[.int .u64 (dgl (x) 0 : Nat), .int .u64 (dgl (x) 1 : Nat), .int .u64 (dgl (x) 2 : Nat), .int .u64 (dgl (x) 3 : Nat), .int .u64 (dgl (x) 4 : Nat), .int .u64 (dgl (x) 5 : Nat), .int .u64 (dgl (x) 6 : Nat), .int .u64 (dgl (x) 7 : Nat)], .bool is] := hL 44 (by decide +kernel)
        simp [go_sem, hc, hf, e44]
        exact ⟨Below.refl _ _, rfl⟩
      refine kSt rfl (fun φ hφ => gStep_run rfl ?_) ?_
      · intro ρ W hC hc hf hL
        have hφ0 : φ 11 = false := hφ 11 (by simp) (by kernel_rfl)
        simp [go_sem, hc, hf]
        refine ⟨below_allocs _ _, ?_⟩
        show (bif φ 11 then SlotIs.box (p10 + 1) (dgl x) else SlotIs.box (p10 + 1) (fun _ => 0)).R _ _
        rw [hφ0]
        exact ⟨_, rfl, hC.2.2, liesF_new _ (fun _ => 0) _, fun i => by simp [go_sem]⟩
      refine kStS rfl ⟨rfl, rfl, ?_⟩ ?_
      · intro φ ρ W hφ hC hc hL
        have b12 := hL 12 (by decide +kernel)
        have e52 : ρ (.tmp 52) = .agg #[.int .u64 (dgl (x) 0 : Nat), .int .u64 (dgl (x) 1 : Nat), .int .u64 (dgl (x) 2 : Nat), .int .u64 (dgl (x) 3 : Nat), .int .u64 (dgl (x) 4 : Nat), .int .u64 (dgl (x) 5 : Nat), .int .u64 (dgl (x) 6 : Nat), .int .u64 (dgl (x) 7 : Nat)] := hL 52 (by decide +kernel)
        have b12 : (bif φ 11 then SlotIs.box (p10 + 1) (dgl x) else SlotIs.box (p10 + 1) (fun _ => 0)).R (ρ (.tmp 12)) W := hL 12 (by decide +kernel)
        rw [hφ] at b12
        obtain ⟨p12, e12, q12, l12, z12⟩ := b12
        have hz := l12.1
        have hzl := l12.2
        refine gUpon_of ((((((((W.setCell ⟨p12, 0, none⟩ (.int .u64 (dgl x 0 : Nat))).setCell ⟨p12, 1, none⟩ (.int .u64 (dgl x 1 : Nat))).setCell ⟨p12, 2, none⟩ (.int .u64 (dgl x 2 : Nat))).setCell ⟨p12, 3, none⟩ (.int .u64 (dgl x 3 : Nat))).setCell ⟨p12, 4, none⟩ (.int .u64 (dgl x 4 : Nat))).setCell ⟨p12, 5, none⟩ (.int .u64 (dgl x 5 : Nat))).setCell ⟨p12, 6, none⟩ (.int .u64 (dgl x 6 : Nat))).setCell ⟨p12, 7, none⟩ (.int .u64 (dgl x 7 : Nat))) ?_ (fun _ => ?_)
        · simp [go_sem, hc, e52, e12, hz, hzl, z12, gUpon]
        have hp : w.heap.size + 1 < p10 := HP.out
        have hs8 := below_set8 (Below.refl (p10 + 1) W) p12 q12 (.int .u64 (dgl x 0 : Nat)) (.int .u64 (dgl x 1 : Nat)) (.int .u64 (dgl x 2 : Nat)) (.int .u64 (dgl x 3 : Nat)) (.int .u64 (dgl x 4 : Nat)) (.int .u64 (dgl x 5 : Nat)) (.int .u64 (dgl x 6 : Nat)) (.int .u64 (dgl x 7 : Nat))
        refine ⟨⟨hC.1.under hs8 (by omega), lies_box hC.2 hs8 (by omega)⟩, fun t => ?_⟩
        refine (tbl_imp rfl (fun _ => val_imp) (tbl_imp rfl (fun _ => val_imp) (tbl_imp rfl (fun _ => val_imp) (tbl_imp rfl (fun _ => val_imp) (tbl_imp rfl (fun _ => val_imp) (tbl_imp rfl (fun _ => val_imp) (tbl_imp rfl (fun _ => val_imp) (tbl_imp rfl (fun _ => val_imp) (tbl_imp rfl (fun _ => val_imp) (tbl_imp rfl (fun _ => val_imp) (tbl_imp rfl (fun ht h => ?_) (tbl_imp rfl (fun _ => val_imp) tbl_nil_imp))))))))))))
        subst ht
        show (bif (φ 11 || true) then SlotIs.box (p10 + 1) (dgl x) else SlotIs.box (p10 + 1) (fun _ => 0)).R _ _
        rw [Bool.or_true]
        exact ⟨p12, e12, q12, set8_same W p12 (dgl x) (fun _ => 0) l12, fun i => by simpa [go_sem] using z12 i⟩
      refine kSt rfl (fun φ hφ => gStep_run rfl (gRun_move 53 13 (.inr rfl) rfl (by decide +kernel) (fun v w h => h))) ?_
      exact kSt0
    · intro W hC
      refine gFi 45 rfl ?_
      rintro _ rfl
      refine gFi 46 rfl ?_
      rintro _ rfl
      refine gFi 47 rfl ?_
      rintro _ rfl
      refine gFi 48 rfl ?_
      rintro _ rfl
      refine gFi 49 rfl ?_
      rintro _ rfl
      refine gFi 50 rfl ?_
      rintro _ rfl
      refine gFi 51 rfl ?_
      rintro _ rfl
      refine gFi 44 rfl ?_
      rintro _ rfl
      refine gFi 52 rfl ?_
      rintro _ rfl
      refine gFi 53 rfl ?_
      rintro _ rfl
      refine gFi 12 rfl ?_
      rintro _ ⟨p12, rfl, q12, l12, z12⟩
      refine gFiN rfl ?_
      refine gFi 13 rfl ?_
      rintro _ rfl
      refine gFi0 ?_
      simp only [List.drop_succ_cons, List.drop_zero, Act.put, List.setIfInBounds_toArray, List.set_cons_succ, List.set_cons_zero]
      have HST := hide hC.1
      have HL10 := hide hC.2
      have HL12 := hide l12
      clear hC l12 z12 g1 g2
      have hl := HST.out.la.1
      go_wp2_with fail
      refine (HC3.out _).mono ?_
      rintro e w4 ⟨rfl, hb4⟩
      replace HST := hide (HST.out.below hb4)
      replace HL10 := hide (HL10.out.below hb4)
      replace HL12 := hide (HL12.out.below hb4)
      clear hb4 hl
      go_upto_region 7 with fail
      refine wp_gen (fun W => LiesF W p10 (dgl x) ∧ LiesF W p12 (dgl x) ∧ LiesF W w4.heap.size (dgl y) ∧ Below w.heap.size w W) ⟨HL10.out.below (below_allocs _ _), HL12.out.below (below_allocs _ _), liesF_new _ _ _, below_trans HST.out.bel (below_allocs _ _)⟩ ?_
      clear HST HL10 HL12
      generalize w4.heap.size = p14
      rintro W5 ⟨g1, g2, g3, g4⟩
      have k1 := g1.1
      have k2 := g2.1
      go_upto_region 9 with fail
      refine wp_gen (fun W => LiesF W p10 (dgl x) ∧ LiesF W p14 (dgl y) ∧ Below w.heap.size w W) ⟨g1, g3, g4⟩ ?_
      clear g1 g2 g3 g4 k1 k2
      rintro W6 ⟨g1, g2, g3⟩
      refine wp_region_grow 6 [(74, .val (.agg #[.int .u64 (dgl (x) 0 : Nat), .int .u64 (dgl (x) 1 : Nat), .int .u64 (dgl (x) 2 : Nat), .int .u64 (dgl (x) 3 : Nat), .int .u64 (dgl (x) 4 : Nat), .int .u64 (dgl (x) 5 : Nat), .int .u64 (dgl (x) 6 : Nat), .int .u64 (dgl (x) 7 : Nat)])), (75, .big x 40), (76, .val (.agg #[.int .u64 (dgl (y) 0 : Nat), .int .u64 (dgl (y) 1 : Nat), .int .u64 (dgl (y) 2 : Nat), .int .u64 (dgl (y) 3 : Nat), .int .u64 (dgl (y) 4 : Nat), .int .u64 (dgl (y) 5 : Nat), .int .u64 (dgl (y) 6 : Nat), .int .u64 (dgl (y) 7 : Nat)])), (77, .big y 40), (16, .big x 40), (17, .big y 40)]
        (fun W => LiesF W p10 (dgl x) ∧ LiesF W p14 (dgl y) ∧ Below w.heap.size w W) mixedOk (by kernel_rfl) (by kernel_rfl) (⟨g1.below (Below.refl _ _).drew, g2.below (Below.refl _ _).drew, below_trans g3 (Below.refl _ _).drew⟩) (fun W W' h hb => ⟨h.1.below hb, h.2.1.below hb, below_trans h.2.2 hb⟩) ?_ ?_
      · refine gSt (gStep_run rfl ?_) ?_
        · intro ρ W hC hc hf hL
          have e10 : ρ (.tmp 10) = .pointer (some ⟨p10, 0, none⟩) := hL 10 (by decide +kernel)
          have hl := hC.1.1
          simp [go_sem, hc, hf, e10, hl]
          exact ⟨Below.refl _ _, rfl⟩
        refine gSt (gStep_run rfl ?_) ?_
        · intro ρ W hC hc hf hL
          have e74 : ρ (.tmp 74) = .agg #[.int .u64 (dgl (x) 0 : Nat), .int .u64 (dgl (x) 1 : Nat), .int .u64 (dgl (x) 2 : Nat), .int .u64 (dgl (x) 3 : Nat), .int .u64 (dgl (x) 4 : Nat), .int .u64 (dgl (x) 5 : Nat), .int .u64 (dgl (x) 6 : Nat), .int .u64 (dgl (x) 7 : Nat)] := hL 74 (by decide +kernel)
          simp [go_sem, hc, hf, e74]
          refine (HBX.out _).mono ?_
          rintro e w' ⟨v, rfl, hv, hb⟩
          exact ⟨_, rfl, hb, hv⟩
        refine gSt (gStep_run rfl ?_) ?_
        · intro ρ W hC hc hf hL
          have e14 : ρ (.tmp 14) = .pointer (some ⟨p14, 0, none⟩) := hL 14 (by decide +kernel)
          have hl := hC.2.1.1
          simp [go_sem, hc, hf, e14, hl]
          exact ⟨Below.refl _ _, rfl⟩
        refine gSt (gStep_run rfl ?_) ?_
        · intro ρ W hC hc hf hL
          have e76 : ρ (.tmp 76) = .agg #[.int .u64 (dgl (y) 0 : Nat), .int .u64 (dgl (y) 1 : Nat), .int .u64 (dgl (y) 2 : Nat), .int .u64 (dgl (y) 3 : Nat), .int .u64 (dgl (y) 4 : Nat), .int .u64 (dgl (y) 5 : Nat), .int .u64 (dgl (y) 6 : Nat), .int .u64 (dgl (y) 7 : Nat)] := hL 76 (by decide +kernel)
          simp [go_sem, hc, hf, e76]
          refine (HBY.out _).mono ?_
          rintro e w' ⟨v, rfl, hv, hb⟩
          exact ⟨_, rfl, hb, hv⟩
        refine gSt (gStep_run rfl (gRun_move 75 16 (.inr rfl) rfl (by decide +kernel) (fun v w h => h))) ?_
        refine gSt (gStep_run rfl (gRun_move 77 17 (.inr rfl) rfl (by decide +kernel) (fun v w h => h))) ?_
        exact gSt0
      · intro W hC
        refine gFi 74 rfl ?_
        rintro _ rfl
        refine gFi 75 rfl ?_
        rintro u75 b75
        refine gFi 76 rfl ?_
        rintro _ rfl
        refine gFi 77 rfl ?_
        rintro u77 b77
        refine gFi 16 rfl ?_
        rintro u16 b16
        refine gFi 17 rfl ?_
        rintro u17 b17
        refine gFi0 ?_
        simp only [List.drop_succ_cons, List.drop_zero, Act.put, List.setIfInBounds_toArray, List.set_cons_succ, List.set_cons_zero]
        have HX := hide b16
        have HY := hide b17
        have HB := hide hC.2.2
        clear hC b16 b17 b75 b77 g1 g2 g3
        go_wp2_with fail
        refine (HSM.out _).mono ?_
        rintro e w6 ⟨v6, rfl, hv6, hb6⟩
        replace HX := hide (HX.out.below hb6)
        replace HY := hide (HY.out.below hb6)
        replace HB := hide (below_trans HB.out hb6)
        have HO := hide hv6
        clear hb6 hv6
        go_wp2_with fail
        refine (HAD.out _ _ _ HY.out HO.out).mono ?_
        rintro e w7 ⟨v7, rfl, hv7, hb7⟩
        replace HX := hide (HX.out.below hb7)
        replace HY := hide (HY.out.below hb7)
        replace HB := hide (below_trans HB.out hb7)
        clear HO
        have HO := hide hv7
        clear hb7 hv7
        go_wp2_with fail
        refine (HCM.out _ _ _ HX.out HO.out).mono ?_
        rintro e wl ⟨rfl, hw⟩
        subst wl
        clear HO
        have go : ∀ W : World, True := fun _ => trivial
        clear go
        by_cases h4 : m = 4
        · subst h4
          cases is
          · exact absurd HIS.out (by decide)
          · have hn := HU.out rfl rfl
            subst hn
            go_wp2_with fail
            refine (awake8_any _).mono ?_
            rintro e w8 ⟨rfl, hb8⟩
            replace HB := hide (below_trans HB.out hb8)
            clear hb8
            go_wp2
            go_ret
            exact ⟨rfl, HB.out⟩
        · by_cases h5 : m = 5
          · subst h5
            cases is
            · exact absurd HIS.out (by decide)
            · have hn := HD.out rfl rfl
              subst hn
              go_wp2_with fail
              refine (awake8_any _).mono ?_
              rintro e w8 ⟨rfl, hb8⟩
              replace HB := hide (below_trans HB.out hb8)
              clear hb8
              go_wp2
              go_ret
              exact ⟨rfl, HB.out⟩
          · have his := HIS.out
            subst his
            go_wp2_with fail
            refine (awake8_any _).mono ?_
            rintro e w8 ⟨rfl, hb8⟩
            replace HB := hide (below_trans HB.out hb8)
            clear hb8
            go_wp2
            go_ret
            exact ⟨rfl, HB.out⟩
        

set_option maxHeartbeats 2000000 in
theorem modeRules_keep (a a0 b x y : Nat) (n q0 q1 t1 t2 t3 m mm : Int) (neg is : Bool)
    (Hq : Hid ((q1.tmod 2 == 0) = neg)) (Hn : Hid ((b : Int).tmod 520 = n)) (Hn2 : Hid (IntKind.i64.wrap n = n)) (Ht1 : Hid (q0.tmod 5 = t1)) (Ht2 : Hid (IntKind.i64.wrap (t1 + 5) = t2)) (Ht3 : Hid (t2.tmod 5 = t3)) (Hm : Hid (IntKind.i64.wrap (1 + t3) = m))
    (Ha : Hid (∀ i, i < 7 → dgl a i = dgl a0 i)) (Ha7 : Hid (dgl a 7 = dgl a0 7 / 2))
    (HC1 : Hid (∀ w, Calls Try.prog 12 #[.agg #[.int .u64 (dgl (a) 0 : Nat), .int .u64 (dgl (a) 1 : Nat), .int .u64 (dgl (a) 2 : Nat), .int .u64 (dgl (a) 3 : Nat), .int .u64 (dgl (a) 4 : Nat), .int .u64 (dgl (a) 5 : Nat), .int .u64 (dgl (a) 6 : Nat), .int .u64 (dgl (a) 7 : Nat)], .int .i64 n, .bool false, .int .i64 m, .bool neg] w fun e w' => e = .returned (.tuple #[.agg #[.int .u64 (dgl (x) 0 : Nat), .int .u64 (dgl (x) 1 : Nat), .int .u64 (dgl (x) 2 : Nat), .int .u64 (dgl (x) 3 : Nat), .int .u64 (dgl (x) 4 : Nat), .int .u64 (dgl (x) 5 : Nat), .int .u64 (dgl (x) 6 : Nat), .int .u64 (dgl (x) 7 : Nat)], .bool is]) ∧ Below w.heap.size w w'))
    (HC2 : Hid (∀ w, Calls Try.prog 12 #[.agg #[.int .u64 (dgl (a) 0 : Nat), .int .u64 (dgl (a) 1 : Nat), .int .u64 (dgl (a) 2 : Nat), .int .u64 (dgl (a) 3 : Nat), .int .u64 (dgl (a) 4 : Nat), .int .u64 (dgl (a) 5 : Nat), .int .u64 (dgl (a) 6 : Nat), .int .u64 (dgl (a) 7 : Nat)], .int .i64 n, .bool false, .int .i64 mm, .bool (!neg)] w fun e w' => e = .returned (.tuple #[.agg #[.int .u64 (dgl (x) 0 : Nat), .int .u64 (dgl (x) 1 : Nat), .int .u64 (dgl (x) 2 : Nat), .int .u64 (dgl (x) 3 : Nat), .int .u64 (dgl (x) 4 : Nat), .int .u64 (dgl (x) 5 : Nat), .int .u64 (dgl (x) 6 : Nat), .int .u64 (dgl (x) 7 : Nat)], .bool is]) ∧ Below w.heap.size w w'))
    (HC3 : Hid (∀ w, Calls Try.prog 12 #[.agg #[.int .u64 (dgl (a) 0 : Nat), .int .u64 (dgl (a) 1 : Nat), .int .u64 (dgl (a) 2 : Nat), .int .u64 (dgl (a) 3 : Nat), .int .u64 (dgl (a) 4 : Nat), .int .u64 (dgl (a) 5 : Nat), .int .u64 (dgl (a) 6 : Nat), .int .u64 (dgl (a) 7 : Nat)], .int .i64 n, .bool false, .int .i64 3, .bool neg] w fun e w' => e = .returned (.tuple #[.agg #[.int .u64 (dgl (y) 0 : Nat), .int .u64 (dgl (y) 1 : Nat), .int .u64 (dgl (y) 2 : Nat), .int .u64 (dgl (y) 3 : Nat), .int .u64 (dgl (y) 4 : Nat), .int .u64 (dgl (y) 5 : Nat), .int .u64 (dgl (y) 6 : Nat), .int .u64 (dgl (y) 7 : Nat)], .bool is]) ∧ Below w.heap.size w w'))
    (HMI : Hid (∀ w, Calls Try.prog 14 #[.int .i64 m] w fun e w' => e = .returned (.int .i64 mm) ∧ w' = w))
    (HBX : Hid (∀ w, Calls Try.prog 15 #[.agg #[.int .u64 (dgl (x) 0 : Nat), .int .u64 (dgl (x) 1 : Nat), .int .u64 (dgl (x) 2 : Nat), .int .u64 (dgl (x) 3 : Nat), .int .u64 (dgl (x) 4 : Nat), .int .u64 (dgl (x) 5 : Nat), .int .u64 (dgl (x) 6 : Nat), .int .u64 (dgl (x) 7 : Nat)]] w fun e w' => ∃ v, e = .returned v ∧ BigV w' v x 40 ∧ Below w.heap.size w w'))
    (HBY : Hid (∀ w, Calls Try.prog 15 #[.agg #[.int .u64 (dgl (y) 0 : Nat), .int .u64 (dgl (y) 1 : Nat), .int .u64 (dgl (y) 2 : Nat), .int .u64 (dgl (y) 3 : Nat), .int .u64 (dgl (y) 4 : Nat), .int .u64 (dgl (y) 5 : Nat), .int .u64 (dgl (y) 6 : Nat), .int .u64 (dgl (y) 7 : Nat)]] w fun e w' => ∃ v, e = .returned v ∧ BigV w' v y 40 ∧ Below w.heap.size w w'))
    (HSM : Hid (∀ w, Calls Try.prog 18 #[.int .u64 1] w fun e w' => ∃ v, e = .returned v ∧ BigV w' v 1 2 ∧ Below w.heap.size w w'))
    (HAD : Hid (∀ v u w, BigV w v y 40 → BigV w u 1 2 → Calls Try.prog 17 #[v, u] w fun e w' => ∃ v, e = .returned v ∧ BigV w' v (y + 1) 41 ∧ Below w.heap.size w w'))
    (HCM : Hid (∀ v u w, BigV w v x 40 → BigV w u (y + 1) 41 → Calls Try.prog 16 #[v, u] w fun e w' => e = .returned (.int .i64 (-1)) ∧ w' = w))
    (HCN : Hid (∀ v u w, BigV w v x 40 → BigV w u y 40 → Calls Try.prog 16 #[v, u] w fun e w' => e = .returned (.int .i64 0) ∧ w' = w))
    (HU : Hid (m = 4 → is = true → neg = true))
    (HD : Hid (m = 5 → is = true → neg = false)) (w : World) : Calls Try.prog 5 #[.agg #[.int .u64 (dgl (a0) 0 : Nat), .int .u64 (dgl (a0) 1 : Nat), .int .u64 (dgl (a0) 2 : Nat), .int .u64 (dgl (a0) 3 : Nat), .int .u64 (dgl (a0) 4 : Nat), .int .u64 (dgl (a0) 5 : Nat), .int .u64 (dgl (a0) 6 : Nat), .int .u64 (dgl (a0) 7 : Nat)], .int .u16 (b : Nat), .agg #[.int .i64 q0, .int .i64 q1]] w fun e w' => e = .returned (.bool true) ∧ Below w.heap.size w w' := by
  have HST := hide (utSt_start a0 q0 q1 w)
  go_enter Try.func5, Try.ntmps5
  go_upto_region 1 with fail
  refine wp_gen (fun W => UtSt a0 q0 q1 w W) HST.out ?_
  clear HST
  rintro W1 h1
  refine wp_region_grow 11 [(19, .val (.int .u16 (b : Nat))), (20, .val (.int .u16 n)), (21, .val (.int .i64 n)), (22, .val (.pointer (some ⟨w.heap.size + 1, 0, none⟩))), (23, .val (.int .i64 q0)), (24, .val (.int .i64 t1)), (25, .val (.int .i64 t2)), (26, .val (.int .i64 t3)), (27, .val (.int .i64 m)), (7, .val (.int .i64 n)), (8, .val (.int .i64 m))]
    (fun W => UtSt a0 q0 q1 w W) mixedOk (by kernel_rfl) (by kernel_rfl) (h1.below (Below.refl _ _).drew) (fun W W' h hb => h.below hb) ?_ ?_
  · refine gSt (gStep_run rfl (gRun_move 1 19 (.inl rfl) rfl (by decide +kernel) (fun v w h => h))) ?_
    refine gSt (gStep_run rfl ?_) ?_
    · intro ρ W hC hc hf hL
      have e19 : ρ (.tmp 19) = .int .u16 (b : Nat) := hL 19 (by decide +kernel)
      have hl := Hn.out
      simp [go_sem, hc, hf, e19, hl]
      exact ⟨Below.refl _ _, rfl⟩
    refine gSt (gStep_run rfl ?_) ?_
    · intro ρ W hC hc hf hL
      have e20 : ρ (.tmp 20) = .int .u16 n := hL 20 (by decide +kernel)
      have hl := Hn2.out
      simp [go_sem, hc, hf, e20, hl]
      exact ⟨Below.refl _ _, rfl⟩
    refine gSt (gStep_run rfl ?_) ?_
    · intro ρ W hC hc hf hL
      have e5 : ρ (.tmp 5) = .pointer (some ⟨w.heap.size + 1, 0, none⟩) := hL 5 (by decide +kernel)
      have hl := hC.lt
      simp [go_sem, hc, hf, e5, hl]
      exact ⟨Below.refl _ _, rfl⟩
    refine gSt (gStep_run rfl ?_) ?_
    · intro ρ W hC hc hf hL
      have e22 : ρ (.tmp 22) = .pointer (some ⟨w.heap.size + 1, 0, none⟩) := hL 22 (by decide +kernel)
      have hl := hC.c0
      simp [go_sem, hc, hf, e22, hl]
      exact ⟨Below.refl _ _, rfl⟩
    refine gSt (gStep_run rfl ?_) ?_
    · intro ρ W hC hc hf hL
      have e23 : ρ (.tmp 23) = .int .i64 q0 := hL 23 (by decide +kernel)
      have hl := Ht1.out
      simp [go_sem, hc, hf, e23, hl]
      exact ⟨Below.refl _ _, rfl⟩
    refine gSt (gStep_run rfl ?_) ?_
    · intro ρ W hC hc hf hL
      have e24 : ρ (.tmp 24) = .int .i64 t1 := hL 24 (by decide +kernel)
      have hl := Ht2.out
      simp [go_sem, hc, hf, e24, hl]
      exact ⟨Below.refl _ _, rfl⟩
    refine gSt (gStep_run rfl ?_) ?_
    · intro ρ W hC hc hf hL
      have e25 : ρ (.tmp 25) = .int .i64 t2 := hL 25 (by decide +kernel)
      have hl := Ht3.out
      simp [go_sem, hc, hf, e25, hl]
      exact ⟨Below.refl _ _, rfl⟩
    refine gSt (gStep_run rfl ?_) ?_
    · intro ρ W hC hc hf hL
      have e26 : ρ (.tmp 26) = .int .i64 t3 := hL 26 (by decide +kernel)
      have hl := Hm.out
      simp [go_sem, hc, hf, e26, hl]
      exact ⟨Below.refl _ _, rfl⟩
    refine gSt (gStep_run rfl (gRun_move 21 7 (.inr rfl) rfl (by decide +kernel) (fun v w h => h))) ?_
    refine gSt (gStep_run rfl (gRun_move 27 8 (.inr rfl) rfl (by decide +kernel) (fun v w h => h))) ?_
    exact gSt0
  · intro W hC
    refine gFi 19 rfl ?_
    rintro _ rfl
    refine gFi 20 rfl ?_
    rintro _ rfl
    refine gFi 21 rfl ?_
    rintro _ rfl
    refine gFi 22 rfl ?_
    rintro _ rfl
    refine gFi 23 rfl ?_
    rintro _ rfl
    refine gFi 24 rfl ?_
    rintro _ rfl
    refine gFi 25 rfl ?_
    rintro _ rfl
    refine gFi 26 rfl ?_
    rintro _ rfl
    refine gFi 27 rfl ?_
    rintro _ rfl
    refine gFi 7 rfl ?_
    rintro _ rfl
    refine gFi 8 rfl ?_
    rintro _ rfl
    refine gFi0 ?_
    simp only [List.drop_succ_cons, List.drop_zero, Act.put, List.setIfInBounds_toArray, List.set_cons_succ, List.set_cons_zero]
    have HST := hide hC
    clear hC h1
    have hq := Hq.out
    have hc1 := HST.out.c1
    have hlt := HST.out.lt
    have hl := HST.out.la.1
    have hlz := HST.out.la.2
    have hfr := HST.out.fr
    go_upto_region 4 with fail
    refine wp_gen (fun W => UtSt a q0 q1 w W) (by have hd := dgl_lt a0 7; have hx : IntKind.u64.wrap (((dgl a0 7 : Nat) : Int) / 2) = ((dgl a0 7 : Nat) : Int) / 2 := (by rw [IntKind.wrap_u64]; omega); have := HST.out.half Ha.out Ha7.out; simpa [hx] using this) ?_
    clear HST hc1 hlt hl hlz hfr
    rintro W2 h2
    have HST := hide h2
    clear h2
    have hl := HST.out.la.1
    go_wp2_with fail
    refine (HC1.out _).mono ?_
    rintro e w3 ⟨rfl, hb3⟩
    replace HST := hide (HST.out.below hb3)
    clear hb3 hl hq
    go_upto_region 5 with fail
    refine wp_gen (fun W => ∃ p10, UtSt a q0 q1 w W ∧ LiesF W p10 (dgl x) ∧ w.heap.size + 1 < p10 ∧ p10 = w3.heap.size) ⟨_, HST.out.below (below_allocs _ _), liesF_new _ _ _, HST.out.lt, rfl⟩ ?_
    clear HST
    rintro W3 ⟨p10, g1, g2, g3, g4⟩
    rw [← g4]
    have HP := hide g3
    clear g3 g4
    refine wp_region_storeK 13 [11] [45, 46, 47, 48, 49, 50, 51, 44, 52, 53, 12, 13] (fun bs => [(45, .val (.agg #[.int .u64 (dgl (a) 0 : Nat), .int .u64 (dgl (a) 1 : Nat), .int .u64 (dgl (a) 2 : Nat), .int .u64 (dgl (a) 3 : Nat), .int .u64 (dgl (a) 4 : Nat), .int .u64 (dgl (a) 5 : Nat), .int .u64 (dgl (a) 6 : Nat), .int .u64 (dgl (a) 7 : Nat)])), (46, .val (.int .i64 n)), (47, .val (.int .i64 m)), (48, .val (.int .i64 mm)), (49, .val (.bool neg)), (50, .val (.bool (!neg))), (51, .val (.tuple #[.agg #[.int .u64 (dgl (x) 0 : Nat), .int .u64 (dgl (x) 1 : Nat), .int .u64 (dgl (x) 2 : Nat), .int .u64 (dgl (x) 3 : Nat), .int .u64 (dgl (x) 4 : Nat), .int .u64 (dgl (x) 5 : Nat), .int .u64 (dgl (x) 6 : Nat), .int .u64 (dgl (x) 7 : Nat)], .bool is])), (44, .val (.tuple #[.agg #[.int .u64 (dgl (x) 0 : Nat), .int .u64 (dgl (x) 1 : Nat), .int .u64 (dgl (x) 2 : Nat), .int .u64 (dgl (x) 3 : Nat), .int .u64 (dgl (x) 4 : Nat), .int .u64 (dgl (x) 5 : Nat), .int .u64 (dgl (x) 6 : Nat), .int .u64 (dgl (x) 7 : Nat)], .bool is])), (52, .val (.agg #[.int .u64 (dgl (x) 0 : Nat), .int .u64 (dgl (x) 1 : Nat), .int .u64 (dgl (x) 2 : Nat), .int .u64 (dgl (x) 3 : Nat), .int .u64 (dgl (x) 4 : Nat), .int .u64 (dgl (x) 5 : Nat), .int .u64 (dgl (x) 6 : Nat), .int .u64 (dgl (x) 7 : Nat)])), (53, .val (.bool is)), (12, bif bs.headD false then SlotIs.box (p10 + 1) (dgl x) else SlotIs.box (p10 + 1) (fun _ => 0)), (13, .val (.bool is))])
      (fun _ W => UtSt a q0 q1 w W ∧ LiesF W p10 (dgl x)) (fun bs => rfl) mixedOk (by kernel_rfl) (by kernel_rfl) (by kernel_rfl) (⟨g1.below (Below.refl _ _).drew, g2.below (Below.refl _ _).drew⟩) (fun bs W W' h hb => ⟨h.1.below hb, h.2.below hb⟩) ?_ ?_
    · refine kSt rfl (fun φ hφ => gStep_run rfl ?_) ?_
      · intro ρ W hC hc hf hL
        have e3 : ρ (.tmp 3) = .pointer (some ⟨w.heap.size, 0, none⟩) := hL 3 (by decide +kernel)
        have hl := hC.1.la.1
        simp [go_sem, hc, hf, e3, hl]
        exact ⟨Below.refl _ _, rfl⟩
      refine kSt rfl (fun φ hφ => gStep_run rfl (gRun_move 7 46 (.inl rfl) rfl (by decide +kernel) (fun v w h => h))) ?_
      refine kSt rfl (fun φ hφ => gStep_run rfl (gRun_move 8 47 (.inl rfl) rfl (by decide +kernel) (fun v w h => h))) ?_
      refine kSt rfl (fun φ hφ => gStep_run rfl ?_) ?_
      · intro ρ W hC hc hf hL
        have e47 : ρ (.tmp 47) = .int .i64 m := hL 47 (by decide +kernel)
        simp [go_sem, hc, hf, e47]
        refine (HMI.out _).mono ?_
        rintro e w' ⟨rfl, hb⟩
        exact ⟨_, rfl, by first | exact hb | (subst hb; exact Below.refl _ _), rfl⟩
      refine kSt rfl (fun φ hφ => gStep_run rfl (gRun_move 9 49 (.inl rfl) rfl (by decide +kernel) (fun v w h => h))) ?_
      refine kSt rfl (fun φ hφ => gStep_run rfl ?_) ?_
      · intro ρ W hC hc hf hL
        have e49 : ρ (.tmp 49) = .bool neg := hL 49 (by decide +kernel)
        simp [go_sem, hc, hf, e49]
        exact ⟨Below.refl _ _, rfl⟩
      refine kSt rfl (fun φ hφ => gStep_run rfl ?_) ?_
      · intro ρ W hC hc hf hL
        have e45 : ρ (.tmp 45) = .agg #[.int .u64 (dgl (a) 0 : Nat), .int .u64 (dgl (a) 1 : Nat), .int .u64 (dgl (a) 2 : Nat), .int .u64 (dgl (a) 3 : Nat), .int .u64 (dgl (a) 4 : Nat), .int .u64 (dgl (a) 5 : Nat), .int .u64 (dgl (a) 6 : Nat), .int .u64 (dgl (a) 7 : Nat)] := hL 45 (by decide +kernel)
        have e46 : ρ (.tmp 46) = .int .i64 n := hL 46 (by decide +kernel)
        have e48 : ρ (.tmp 48) = .int .i64 mm := hL 48 (by decide +kernel)
        have e50 : ρ (.tmp 50) = .bool (!neg) := hL 50 (by decide +kernel)
        simp [go_sem, hc, hf, e45, e46, e48, e50]
        refine (HC2.out _).mono ?_
        rintro e w' ⟨rfl, hb⟩
        exact ⟨_, rfl, by first | exact hb | (subst hb; exact Below.refl _ _), rfl⟩
      refine kSt rfl (fun φ hφ => gStep_run rfl (gRun_move 51 44 (.inl rfl) rfl (by decide +kernel) (fun v w h => h))) ?_
      refine kSt rfl (fun φ hφ => gStep_run rfl ?_) ?_
      · intro ρ W hC hc hf hL
        have e44 : ρ (.tmp 44) = .tuple #[.agg #[.int .u64 (dgl (x) 0 : Nat), .int .u64 (dgl (x) 1 : Nat), .int .u64 (dgl (x) 2 : Nat), .int .u64 (dgl (x) 3 : Nat), .int .u64 (dgl (x) 4 : Nat), .int .u64 (dgl (x) 5 : Nat), .int .u64 (dgl (x) 6 : Nat), .int .u64 (dgl (x) 7 : Nat)], .bool is] := hL 44 (by decide +kernel)
        simp [go_sem, hc, hf, e44]
        exact ⟨Below.refl _ _, rfl⟩
      refine kSt rfl (fun φ hφ => gStep_run rfl ?_) ?_
      · intro ρ W hC hc hf hL
        have e44 : ρ (.tmp 44) = .tuple #[.agg #[.int .u64 (dgl (x) 0 : Nat), .int .u64 (dgl (x) 1 : Nat), .int .u64 (dgl (x) 2 : Nat), .int .u64 (dgl (x) 3 : Nat), .int .u64 (dgl (x) 4 : Nat), .int .u64 (dgl (x) 5 : Nat), .int .u64 (dgl (x) 6 : Nat), .int .u64 (dgl (x) 7 : Nat)], .bool is] := hL 44 (by decide +kernel)
        simp [go_sem, hc, hf, e44]
        exact ⟨Below.refl _ _, rfl⟩
      refine kSt rfl (fun φ hφ => gStep_run rfl ?_) ?_
      · intro ρ W hC hc hf hL
        have hφ0 : φ 11 = false := hφ 11 (by simp) (by kernel_rfl)
        simp [go_sem, hc, hf]
        refine ⟨below_allocs _ _, ?_⟩
        show (bif φ 11 then SlotIs.box (p10 + 1) (dgl x) else SlotIs.box (p10 + 1) (fun _ => 0)).R _ _
        rw [hφ0]
        exact ⟨_, rfl, hC.2.2, liesF_new _ (fun _ => 0) _, fun i => by simp [go_sem]⟩
      refine kStS rfl ⟨rfl, rfl, ?_⟩ ?_
      · intro φ ρ W hφ hC hc hL
        have b12 := hL 12 (by decide +kernel)
        have e52 : ρ (.tmp 52) = .agg #[.int .u64 (dgl (x) 0 : Nat), .int .u64 (dgl (x) 1 : Nat), .int .u64 (dgl (x) 2 : Nat), .int .u64 (dgl (x) 3 : Nat), .int .u64 (dgl (x) 4 : Nat), .int .u64 (dgl (x) 5 : Nat), .int .u64 (dgl (x) 6 : Nat), .int .u64 (dgl (x) 7 : Nat)] := hL 52 (by decide +kernel)
        have b12 : (bif φ 11 then SlotIs.box (p10 + 1) (dgl x) else SlotIs.box (p10 + 1) (fun _ => 0)).R (ρ (.tmp 12)) W := hL 12 (by decide +kernel)
        rw [hφ] at b12
        obtain ⟨p12, e12, q12, l12, z12⟩ := b12
        have hz := l12.1
        have hzl := l12.2
        refine gUpon_of ((((((((W.setCell ⟨p12, 0, none⟩ (.int .u64 (dgl x 0 : Nat))).setCell ⟨p12, 1, none⟩ (.int .u64 (dgl x 1 : Nat))).setCell ⟨p12, 2, none⟩ (.int .u64 (dgl x 2 : Nat))).setCell ⟨p12, 3, none⟩ (.int .u64 (dgl x 3 : Nat))).setCell ⟨p12, 4, none⟩ (.int .u64 (dgl x 4 : Nat))).setCell ⟨p12, 5, none⟩ (.int .u64 (dgl x 5 : Nat))).setCell ⟨p12, 6, none⟩ (.int .u64 (dgl x 6 : Nat))).setCell ⟨p12, 7, none⟩ (.int .u64 (dgl x 7 : Nat))) ?_ (fun _ => ?_)
        · simp [go_sem, hc, e52, e12, hz, hzl, z12, gUpon]
        have hp : w.heap.size + 1 < p10 := HP.out
        have hs8 := below_set8 (Below.refl (p10 + 1) W) p12 q12 (.int .u64 (dgl x 0 : Nat)) (.int .u64 (dgl x 1 : Nat)) (.int .u64 (dgl x 2 : Nat)) (.int .u64 (dgl x 3 : Nat)) (.int .u64 (dgl x 4 : Nat)) (.int .u64 (dgl x 5 : Nat)) (.int .u64 (dgl x 6 : Nat)) (.int .u64 (dgl x 7 : Nat))
        refine ⟨⟨hC.1.under hs8 (by omega), lies_box hC.2 hs8 (by omega)⟩, fun t => ?_⟩
        refine (tbl_imp rfl (fun _ => val_imp) (tbl_imp rfl (fun _ => val_imp) (tbl_imp rfl (fun _ => val_imp) (tbl_imp rfl (fun _ => val_imp) (tbl_imp rfl (fun _ => val_imp) (tbl_imp rfl (fun _ => val_imp) (tbl_imp rfl (fun _ => val_imp) (tbl_imp rfl (fun _ => val_imp) (tbl_imp rfl (fun _ => val_imp) (tbl_imp rfl (fun _ => val_imp) (tbl_imp rfl (fun ht h => ?_) (tbl_imp rfl (fun _ => val_imp) tbl_nil_imp))))))))))))
        subst ht
        show (bif (φ 11 || true) then SlotIs.box (p10 + 1) (dgl x) else SlotIs.box (p10 + 1) (fun _ => 0)).R _ _
        rw [Bool.or_true]
        exact ⟨p12, e12, q12, set8_same W p12 (dgl x) (fun _ => 0) l12, fun i => by simpa [go_sem] using z12 i⟩
      refine kSt rfl (fun φ hφ => gStep_run rfl (gRun_move 53 13 (.inr rfl) rfl (by decide +kernel) (fun v w h => h))) ?_
      exact kSt0
    · intro W hC
      refine gFi 45 rfl ?_
      rintro _ rfl
      refine gFi 46 rfl ?_
      rintro _ rfl
      refine gFi 47 rfl ?_
      rintro _ rfl
      refine gFi 48 rfl ?_
      rintro _ rfl
      refine gFi 49 rfl ?_
      rintro _ rfl
      refine gFi 50 rfl ?_
      rintro _ rfl
      refine gFi 51 rfl ?_
      rintro _ rfl
      refine gFi 44 rfl ?_
      rintro _ rfl
      refine gFi 52 rfl ?_
      rintro _ rfl
      refine gFi 53 rfl ?_
      rintro _ rfl
      refine gFi 12 rfl ?_
      rintro _ ⟨p12, rfl, q12, l12, z12⟩
      refine gFiN rfl ?_
      refine gFi 13 rfl ?_
      rintro _ rfl
      refine gFi0 ?_
      simp only [List.drop_succ_cons, List.drop_zero, Act.put, List.setIfInBounds_toArray, List.set_cons_succ, List.set_cons_zero]
      have HST := hide hC.1
      have HL10 := hide hC.2
      have HL12 := hide l12
      clear hC l12 z12 g1 g2
      have hl := HST.out.la.1
      go_wp2_with fail
      refine (HC3.out _).mono ?_
      rintro e w4 ⟨rfl, hb4⟩
      replace HST := hide (HST.out.below hb4)
      replace HL10 := hide (HL10.out.below hb4)
      replace HL12 := hide (HL12.out.below hb4)
      clear hb4 hl
      go_upto_region 7 with fail
      refine wp_gen (fun W => LiesF W p10 (dgl x) ∧ LiesF W p12 (dgl x) ∧ LiesF W w4.heap.size (dgl y) ∧ Below w.heap.size w W) ⟨HL10.out.below (below_allocs _ _), HL12.out.below (below_allocs _ _), liesF_new _ _ _, below_trans HST.out.bel (below_allocs _ _)⟩ ?_
      clear HST HL10 HL12
      generalize w4.heap.size = p14
      rintro W5 ⟨g1, g2, g3, g4⟩
      have k1 := g1.1
      have k2 := g2.1
      go_upto_region 9 with fail
      refine wp_gen (fun W => LiesF W p10 (dgl x) ∧ LiesF W p14 (dgl y) ∧ Below w.heap.size w W) ⟨g1, g3, g4⟩ ?_
      clear g1 g2 g3 g4 k1 k2
      rintro W6 ⟨g1, g2, g3⟩
      refine wp_region_grow 6 [(74, .val (.agg #[.int .u64 (dgl (x) 0 : Nat), .int .u64 (dgl (x) 1 : Nat), .int .u64 (dgl (x) 2 : Nat), .int .u64 (dgl (x) 3 : Nat), .int .u64 (dgl (x) 4 : Nat), .int .u64 (dgl (x) 5 : Nat), .int .u64 (dgl (x) 6 : Nat), .int .u64 (dgl (x) 7 : Nat)])), (75, .big x 40), (76, .val (.agg #[.int .u64 (dgl (y) 0 : Nat), .int .u64 (dgl (y) 1 : Nat), .int .u64 (dgl (y) 2 : Nat), .int .u64 (dgl (y) 3 : Nat), .int .u64 (dgl (y) 4 : Nat), .int .u64 (dgl (y) 5 : Nat), .int .u64 (dgl (y) 6 : Nat), .int .u64 (dgl (y) 7 : Nat)])), (77, .big y 40), (16, .big x 40), (17, .big y 40)]
        (fun W => LiesF W p10 (dgl x) ∧ LiesF W p14 (dgl y) ∧ Below w.heap.size w W) mixedOk (by kernel_rfl) (by kernel_rfl) (⟨g1.below (Below.refl _ _).drew, g2.below (Below.refl _ _).drew, below_trans g3 (Below.refl _ _).drew⟩) (fun W W' h hb => ⟨h.1.below hb, h.2.1.below hb, below_trans h.2.2 hb⟩) ?_ ?_
      · refine gSt (gStep_run rfl ?_) ?_
        · intro ρ W hC hc hf hL
          have e10 : ρ (.tmp 10) = .pointer (some ⟨p10, 0, none⟩) := hL 10 (by decide +kernel)
          have hl := hC.1.1
          simp [go_sem, hc, hf, e10, hl]
          exact ⟨Below.refl _ _, rfl⟩
        refine gSt (gStep_run rfl ?_) ?_
        · intro ρ W hC hc hf hL
          have e74 : ρ (.tmp 74) = .agg #[.int .u64 (dgl (x) 0 : Nat), .int .u64 (dgl (x) 1 : Nat), .int .u64 (dgl (x) 2 : Nat), .int .u64 (dgl (x) 3 : Nat), .int .u64 (dgl (x) 4 : Nat), .int .u64 (dgl (x) 5 : Nat), .int .u64 (dgl (x) 6 : Nat), .int .u64 (dgl (x) 7 : Nat)] := hL 74 (by decide +kernel)
          simp [go_sem, hc, hf, e74]
          refine (HBX.out _).mono ?_
          rintro e w' ⟨v, rfl, hv, hb⟩
          exact ⟨_, rfl, hb, hv⟩
        refine gSt (gStep_run rfl ?_) ?_
        · intro ρ W hC hc hf hL
          have e14 : ρ (.tmp 14) = .pointer (some ⟨p14, 0, none⟩) := hL 14 (by decide +kernel)
          have hl := hC.2.1.1
          simp [go_sem, hc, hf, e14, hl]
          exact ⟨Below.refl _ _, rfl⟩
        refine gSt (gStep_run rfl ?_) ?_
        · intro ρ W hC hc hf hL
          have e76 : ρ (.tmp 76) = .agg #[.int .u64 (dgl (y) 0 : Nat), .int .u64 (dgl (y) 1 : Nat), .int .u64 (dgl (y) 2 : Nat), .int .u64 (dgl (y) 3 : Nat), .int .u64 (dgl (y) 4 : Nat), .int .u64 (dgl (y) 5 : Nat), .int .u64 (dgl (y) 6 : Nat), .int .u64 (dgl (y) 7 : Nat)] := hL 76 (by decide +kernel)
          simp [go_sem, hc, hf, e76]
          refine (HBY.out _).mono ?_
          rintro e w' ⟨v, rfl, hv, hb⟩
          exact ⟨_, rfl, hb, hv⟩
        refine gSt (gStep_run rfl (gRun_move 75 16 (.inr rfl) rfl (by decide +kernel) (fun v w h => h))) ?_
        refine gSt (gStep_run rfl (gRun_move 77 17 (.inr rfl) rfl (by decide +kernel) (fun v w h => h))) ?_
        exact gSt0
      · intro W hC
        refine gFi 74 rfl ?_
        rintro _ rfl
        refine gFi 75 rfl ?_
        rintro u75 b75
        refine gFi 76 rfl ?_
        rintro _ rfl
        refine gFi 77 rfl ?_
        rintro u77 b77
        refine gFi 16 rfl ?_
        rintro u16 b16
        refine gFi 17 rfl ?_
        rintro u17 b17
        refine gFi0 ?_
        simp only [List.drop_succ_cons, List.drop_zero, Act.put, List.setIfInBounds_toArray, List.set_cons_succ, List.set_cons_zero]
        have HX := hide b16
        have HY := hide b17
        have HB := hide hC.2.2
        clear hC b16 b17 b75 b77 g1 g2 g3
        go_wp2_with fail
        refine (HSM.out _).mono ?_
        rintro e w6 ⟨v6, rfl, hv6, hb6⟩
        replace HX := hide (HX.out.below hb6)
        replace HY := hide (HY.out.below hb6)
        replace HB := hide (below_trans HB.out hb6)
        have HO := hide hv6
        clear hb6 hv6
        go_wp2_with fail
        refine (HAD.out _ _ _ HY.out HO.out).mono ?_
        rintro e w7 ⟨v7, rfl, hv7, hb7⟩
        replace HX := hide (HX.out.below hb7)
        replace HY := hide (HY.out.below hb7)
        replace HB := hide (below_trans HB.out hb7)
        clear HO
        have HO := hide hv7
        clear hb7 hv7
        go_wp2_with fail
        refine (HCM.out _ _ _ HX.out HO.out).mono ?_
        rintro e wl ⟨rfl, hw⟩
        subst wl
        clear HO
        have go : ∀ W : World, True := fun _ => trivial
        clear go
        by_cases h4 : m = 4
        · subst h4
          cases is
          · go_wp2_with fail
            refine (HCN.out _ _ _ HX.out HY.out).mono ?_
            rintro e wl ⟨rfl, hw⟩
            subst wl
            go_wp2_with fail
            refine (awake8_any _).mono ?_
            rintro e w8 ⟨rfl, hb8⟩
            replace HB := hide (below_trans HB.out hb8)
            clear hb8
            go_wp2
            go_ret
            exact ⟨rfl, HB.out⟩
          · have hn := HU.out rfl rfl
            subst hn
            go_wp2_with fail
            refine (HCN.out _ _ _ HX.out HY.out).mono ?_
            rintro e wl ⟨rfl, hw⟩
            subst wl
            go_wp2_with fail
            refine (awake8_any _).mono ?_
            rintro e w8 ⟨rfl, hb8⟩
            replace HB := hide (below_trans HB.out hb8)
            clear hb8
            go_wp2
            go_ret
            exact ⟨rfl, HB.out⟩
        · by_cases h5 : m = 5
          · subst h5
            cases is
            · go_wp2_with fail
              refine (HCN.out _ _ _ HX.out HY.out).mono ?_
              rintro e wl ⟨rfl, hw⟩
              subst wl
              go_wp2_with fail
              refine (awake8_any _).mono ?_
              rintro e w8 ⟨rfl, hb8⟩
              replace HB := hide (below_trans HB.out hb8)
              clear hb8
              go_wp2
              go_ret
              exact ⟨rfl, HB.out⟩
            · have hn := HD.out rfl rfl
              subst hn
              go_wp2_with fail
              refine (HCN.out _ _ _ HX.out HY.out).mono ?_
              rintro e wl ⟨rfl, hw⟩
              subst wl
              go_wp2_with fail
              refine (awake8_any _).mono ?_
              rintro e w8 ⟨rfl, hb8⟩
              replace HB := hide (below_trans HB.out hb8)
              clear hb8
              go_wp2
              go_ret
              exact ⟨rfl, HB.out⟩
          · cases is
            · go_wp2_with fail
              refine (HCN.out _ _ _ HX.out HY.out).mono ?_
              rintro e wl ⟨rfl, hw⟩
              subst wl
              go_wp2_with fail
              refine (awake8_any _).mono ?_
              rintro e w8 ⟨rfl, hb8⟩
              replace HB := hide (below_trans HB.out hb8)
              clear hb8
              go_wp2
              go_ret
              exact ⟨rfl, HB.out⟩
            · go_wp2_with fail
              refine (HCN.out _ _ _ HX.out HY.out).mono ?_
              rintro e wl ⟨rfl, hw⟩
              subst wl
              go_wp2_with fail
              refine (awake8_any _).mono ?_
              rintro e w8 ⟨rfl, hb8⟩
              replace HB := hide (below_trans HB.out hb8)
              clear hb8
              go_wp2
              go_ret
              exact ⟨rfl, HB.out⟩
        

theorem modeRules_all (a0 b : Nat) (ha0 : a0 < QQ) (q0 q1 : Int) (w : World) : Calls Try.prog 5 #[.agg #[.int .u64 (dgl (a0) 0 : Nat), .int .u64 (dgl (a0) 1 : Nat), .int .u64 (dgl (a0) 2 : Nat), .int .u64 (dgl (a0) 3 : Nat), .int .u64 (dgl (a0) 4 : Nat), .int .u64 (dgl (a0) 5 : Nat), .int .u64 (dgl (a0) 6 : Nat), .int .u64 (dgl (a0) 7 : Nat)], .int .u16 (b : Nat), .agg #[.int .i64 q0, .int .i64 q1]] w fun e w' => e = .returned (.bool true) ∧ Below w.heap.size w w' := by
  obtain ⟨a, ha1, hd, hd7⟩ := half_num a0
  have ha : a < QQ := by omega
  obtain ⟨n, hn⟩ : ∃ n : Int, (b : Int).tmod 520 = n := ⟨_, rfl⟩
  have hn0 : 0 ≤ n := hn ▸ Int.tmod_nonneg _ (by omega)
  have hn1 : n < 520 := hn ▸ Int.tmod_lt_of_pos _ (by decide)
  obtain ⟨t1, ht1⟩ : ∃ t : Int, q0.tmod 5 = t := ⟨_, rfl⟩
  have h11 : t1 < 5 := ht1 ▸ Int.tmod_lt_of_pos _ (by decide)
  have h12 : -5 < t1 := ht1 ▸ Int.lt_tmod_of_pos _ (by decide)
  obtain ⟨t3, ht3⟩ : ∃ t : Int, (t1 + 5).tmod 5 = t := ⟨_, rfl⟩
  have h31 : t3 < 5 := ht3 ▸ Int.tmod_lt_of_pos _ (by decide)
  have h32 : 0 ≤ t3 := ht3 ▸ Int.tmod_nonneg _ (by omega)
  obtain ⟨m, hm⟩ : ∃ m : Int, 1 + t3 = m := ⟨_, rfl⟩
  have him : isM m = true := by unfold isM; rw [decide_eq_true (by omega), decide_eq_true (by omega)]; rfl
  obtain ⟨neg, hneg⟩ : ∃ g : Bool, (q1.tmod 2 == 0) = g := ⟨_, rfl⟩
  have hC1 := fun w => modeCut_yes a ha n m (by omega) false neg him w
  have hC2 := fun w => modeCut_yes a ha n (mirN m) (by omega) false (!neg) (mirN_is m him) w
  have hC3 := fun w => modeCut_yes a ha n 3 (by omega) false neg (by decide) w
  have hMI := fun w => mirror_any m him w
  rw [cutN_mir] at hC2
  rw [cutN_zero] at hC3
  unfold cutN at hC1 hC2
  have hr3 := restN_le a n.toNat false
  have hyl : a / 2 ^ n.toNat + 1 < QQ := Nat.lt_of_le_of_lt (Nat.succ_le_succ (Nat.div_le_self _ _)) ha1
  generalize restN a n.toNat false = r at *
  generalize a / 2 ^ n.toNat = y at *
  obtain ⟨g, hg⟩ : ∃ g, growN m neg (y % 2 == 1) (r : Nat) = g := ⟨_, rfl⟩
  rw [hg] at hC1 hC2
  obtain ⟨is, his⟩ : ∃ is, (!decide (r = 0)) = is := ⟨_, rfl⟩
  rw [his] at hC1 hC2 hC3
  have hr1 : is = true → 1 ≤ (r : Int) ∧ (r : Int) ≤ 3 := fun h => by
    rw [h, Bool.not_eq_true', decide_eq_false_iff_not] at his
    omega
  have hU : m = 4 → is = true → g = !neg := fun h4 hi => by
    subst h4
    rw [← hg]
    exact growN_four _ _ _ (hr1 hi)
  have hD : m = 5 → is = true → g = neg := fun h4 hi => by
    subst h4
    rw [← hg]
    exact growN_five _ _ _ (hr1 hi)
  have hAD := fun v u w hv hu => refAdd_any y 1 40 2 v u w hv hu (by decide) (by decide)
  have w1 : IntKind.i64.wrap n = n := by rw [IntKind.wrap_i64] <;> omega
  have w2 : IntKind.i64.wrap (t1 + 5) = t1 + 5 := by rw [IntKind.wrap_i64] <;> omega
  have w3 : IntKind.i64.wrap (1 + t3) = m := by rw [IntKind.wrap_i64] <;> omega
  cases g
  · have c1 : cmpN y (y + 1) = -1 := by unfold cmpN; rw [if_pos (by omega)]
    have c2 : cmpN y y = 0 := by unfold cmpN; rw [if_neg (by omega), if_neg (by omega)]
    have hcm := fun v u w hv hu => cmp_any y (y + 1) 40 41 v u w hv hu
    have hcn := fun v u w hv hu => cmp_any y y 40 40 v u w hv hu
    rw [c1] at hcm
    rw [c2] at hcn
    exact modeRules_keep a a0 b y y n q0 q1 t1 (t1 + 5) t3 m (mirN m) neg is hneg hn w1 ht1 w2 ht3 w3 hd hd7 hC1 hC2 hC3 hMI (fun w => refBig_any y (by omega) w) (fun w => refBig_any y (by omega) w) (fun w => small_any 1 (by decide) w) hAD hcm hcn
      (fun h hi => by have := hU h hi; revert this; cases neg <;> decide) (fun h hi => (hD h hi).symm) w
  · have c1 : cmpN (y + 1) (y + 1) = 0 := by unfold cmpN; rw [if_neg (by omega), if_neg (by omega)]
    have hcm := fun v u w hv hu => cmp_any (y + 1) (y + 1) 40 41 v u w hv hu
    rw [c1] at hcm
    have hi : is = true := by
      cases hr : is
      · rw [hr, Bool.not_eq_false', decide_eq_true_eq] at his
        subst his
        rw [growN_none] at hg
        exact hg
      · rfl
    exact modeRules_grow a a0 b (y + 1) y n q0 q1 t1 (t1 + 5) t3 m (mirN m) neg is hneg hn w1 ht1 w2 ht3 w3 hd hd7 hC1 hC2 hC3 hMI (fun w => refBig_any (y + 1) (by omega) w) (fun w => refBig_any y (by omega) w) (fun w => small_any 1 (by decide) w) hAD hcm
      (fun h hi => by have := hU h hi; revert this; cases neg <;> decide) (fun h hi => (hD h hi).symm) hi w

end Go.Proofs.Ytidfegilddlglab

/- ModeRules: for every wide, number of digits and two ints the law returns true. -/
namespace Go.Proofs.Ytidfegilddlglab.modeRules
open Go.ChangeShapes Go.WideShapes Go.ChangeAt Go.RowKit Go.Proofs.Ytidfegilddlglab

theorem own : ownKnob Try.prog.godebug = none := by kernel_rfl
theorem laidOut : laidOutB Try.prog = true := by kernel_rfl

set_option maxRecDepth 100000 in
theorem lifted (os : Os) (started : os.Started) (H : Type) (enc : TypeId × Value → H) :
    ReturnsInHanded {} Try.checked os 5 .any (Rows.modeRulesSpec.pre6 enc Try.prog Try.f5 Rows.modeRulesRow.domain false) (Rows.modeRulesSpec.post enc Try.prog Try.f5 false true false false) := by
  refine returnsInHanded_of_change (C := Try.checked) own started (by kernel_rfl) Try.func5
    (ChangeSpec.witness6 (enc := enc) (C := Try.checked) false ⟨#[], #[.agg #[.int .u64 0, .int .u64 0, .int .u64 0, .int .u64 0, .int .u64 0, .int .u64 0, .int .u64 0, .int .u64 0], .int .u16 0, .agg #[.int .i64 0, .int .i64 0]], []⟩ 40 (by kernel_rfl) (by kernel_rfl) (by kernel_rfl) (by kernel_rfl)) ?_
  intro W base args ds gs before hval0 hW hcnd _
  have hval : ∀ (j : Nat) t v, Try.f5.params[j]? = some t → args[j]? = some v → Value.okWide Try.prog W .any base t v := hval0
  have hW' := hW
  obtain ⟨p, q, hA0, hV, rfl, hfz, hnd⟩ := hW
  have hA : DataW.TrodAll enc Try.prog W 0 (fun _ => true) true Try.f5.params.toList args.toList ds p := hA0
  rw [Try.params5] at hA hval
  obtain ⟨v0, vs0, d0, ds0, p0, q0, hargs, rfl, rfl, h0, r0⟩ := trodAll_cons hA
  obtain ⟨v1, vs1, d1, ds1, p1, q1, rfl, rfl, rfl, h1, r1⟩ := trodAll_cons r0
  obtain ⟨v2, vs2, d2, ds2, p2, q2, rfl, rfl, rfl, h2, r2⟩ := trodAll_cons r1
  obtain ⟨rfl, rfl, rfl⟩ := trodAll_nil r2
  obtain rfl : args = #[v0, v1, v2] := by cases args; simp_all
  obtain ⟨rfl, rfl⟩ := trodVars_none hV
  have k0 := h0
  have lt0 : ∀ x ∈ p0, x.block < W.heap.size := by obtain ⟨m, hm⟩ := k0; exact DataW.trod_lt m _ _ _ hm
  have k1 := h1
  have lt1 : ∀ x ∈ p1, x.block < W.heap.size := by obtain ⟨m, hm⟩ := k1; exact DataW.trod_lt m _ _ _ hm
  have k2 := h2
  have lt2 : ∀ x ∈ p2, x.block < W.heap.size := by obtain ⟨m, hm⟩ := k2; exact DataW.trod_lt m _ _ _ hm
  obtain ⟨x0, hx0, rfl⟩ := wide_of_trod (hval 0 24 v0 rfl rfl) h0
  obtain ⟨a1, rfl, rfl, rfl, wf1⟩ := open_int Try.underlying35 (hval 1 35 v1 rfl rfl) h1
  obtain ⟨q20, q21, ⟨bq20, bq21⟩, rfl⟩ := ints2_open (hval 2 36 v2 rfl rfl) h2
  clear hA0 hval0
  obtain ⟨b1, rfl, hb1⟩ := u16_nat wf1
  refine (modeRules_all x0 b1 hx0 q20 q21 W).mono fun e W' ⟨he, bel⟩ => ?_
  subst he
  exact ⟨_, rfl, _, _, _, [], _, [], hW', trodAll_mk1 (shut_bool Try.underlying4 _), (trodAll_cons_mk (Below.trod laidOut (by kernel_rfl) (of_decide_eq_true (by kernel_rfl)) k0 bel lt0) (trodAll_cons_mk (Below.trod laidOut (by kernel_rfl) (of_decide_eq_true (by kernel_rfl)) k1 bel lt1) (trodAll_cons_mk (Below.trod laidOut (by kernel_rfl) (of_decide_eq_true (by kernel_rfl)) k2 bel lt2) trodAll_mk0))), rfl, bel.frame _, fun h => by cases h⟩

theorem over : Rows.modeRulesRow.holds Try.pinned (OpenSpec.ofChange Rows.modeRulesSpec) :=
  OpenClaim.holds_of_wide 5 Try.f5 rfl rfl rfl rfl rfl rfl rfl ⟨rfl, rfl, rfl, rfl, rfl⟩ rfl rfl rfl rfl rfl (by kernel_rfl) Try.func5 (by kernel_rfl)
    (of_decide_eq_true (by kernel_rfl)) (by unfold Func.isWrapper; first | (rw [if_pos (by decide +kernel)]; kernel_rfl) | (rw [if_neg (by decide +kernel)]; exact ⟨rfl, rfl⟩))
    (fun os started H enc _ => lifted os started H enc)

theorem proved : Rows.ModeRulesSaid := over
#print axioms proved
end Go.Proofs.Ytidfegilddlglab.modeRules

