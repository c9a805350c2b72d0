/- Contracts and laws: ClsC. -/
import Derived.Test.YtidfegilddlglaaDoorXClsB
/- Contracts: class.Of. -/
set_option linter.unusedVariables false
set_option linter.unusedSimpArgs false
set_option maxRecDepth 8000
namespace Go.Proofs.YtidfegilddlglaaDoor
open Go.RowKit Plain

/-- What the closures of class go by: the record, and the parts. -/
structure OcSt (w : World) (k : Nat → Int) (ng : Bool) (fd r : Nat) (W : World) : Prop where
  rk : ∀ i, i < 5 → W.cell? ⟨w.heap.size, i, none⟩ = some (.int .i64 (k i))
  p0 : W.cell? ⟨w.heap.size + 1, 0, none⟩ = some (.bool ng)
  p1 : W.cell? ⟨w.heap.size + 1, 1, none⟩ = some (.int .i64 (fd : Nat))
  p2 : ∀ i, i < 8 → W.cell? ⟨w.heap.size + 1, 2 + i, none⟩ = some (.int .u64 (dgl r i : Nat))
  lt : w.heap.size + 1 < W.heap.size
  bel : Below w.heap.size w W
theorem OcSt.below {w : World} {k : Nat → Int} {ng : Bool} {fd r : Nat} {W W' : World} (h : OcSt w k ng fd r W) (hb : Below W.heap.size W W') : OcSt w k ng fd r W' :=
  have hl := h.lt
  ⟨fun i hi => (hb.cell (p := ⟨w.heap.size, i, none⟩) (show w.heap.size < W.heap.size by omega)).trans (h.rk i hi), (hb.cell (p := ⟨w.heap.size + 1, 0, none⟩) h.lt).trans h.p0, (hb.cell (p := ⟨w.heap.size + 1, 1, none⟩) h.lt).trans h.p1,
    fun i hi => (hb.cell (p := ⟨w.heap.size + 1, 2 + i, none⟩) h.lt).trans (h.p2 i hi), Nat.lt_of_lt_of_le h.lt hb.size, below_trans h.bel hb⟩
theorem ocSt_start (w : World) (k : Nat → Int) (ng : Bool) (fd r : Nat) : OcSt w k ng fd r ((w.alloc (.cells #[.int .i64 (k 0), .int .i64 (k 1), .int .i64 (k 2), .int .i64 (k 3), .int .i64 (k 4)] 69)).alloc (.cells #[.bool ng, .int .i64 ((fd : Nat)), .int .u64 (dgl r 0 : Nat), .int .u64 (dgl r 1 : Nat), .int .u64 (dgl r 2 : Nat), .int .u64 (dgl r 3 : Nat), .int .u64 (dgl r 4 : Nat), .int .u64 (dgl r 5 : Nat), .int .u64 (dgl r 6 : Nat), .int .u64 (dgl r 7 : Nat)] 71)) := by
  have h2 := below_allocs (w.alloc (.cells #[.int .i64 (k 0), .int .i64 (k 1), .int .i64 (k 2), .int .i64 (k 3), .int .i64 (k 4)] 69)) (.cells #[.bool ng, .int .i64 ((fd : Nat)), .int .u64 (dgl r 0 : Nat), .int .u64 (dgl r 1 : Nat), .int .u64 (dgl r 2 : Nat), .int .u64 (dgl r 3 : Nat), .int .u64 (dgl r 4 : Nat), .int .u64 (dgl r 5 : Nat), .int .u64 (dgl r 6 : Nat), .int .u64 (dgl r 7 : Nat)] 71)
  rw [World.size_alloc] at h2
  refine ⟨fun i hi => (h2.cell (p := ⟨w.heap.size, i, none⟩) (show w.heap.size < w.heap.size + 1 by omega)).trans (rec5_new w k _ i hi), by simp [go_sem], by simp [go_sem], fun i hi => ?_, by simp, below_trans (below_allocs _ _) (below_allocs _ _)⟩
  match i, hi with
  | 0, _ | 1, _ | 2, _ | 3, _ | 4, _ | 5, _ | 6, _ | 7, _ => simp [go_sem]

set_option maxHeartbeats 2000000 in
theorem of1_inf (k : Nat → Int) (ng : Bool) (fd r m : Nat) (hr : r < QQ) (h0 : r = 0) (HEQ : Hid (((fd : Int) == (m : Int)) = true))
    (HON : Hid (∀ w, Calls Tryd.prog 52 #[.agg #[.int .i64 (k 0), .int .i64 (k 1), .int .i64 (k 2), .int .i64 (k 3), .int .i64 (k 4)]] w fun e w' => e = .returned (.int .i64 ((m : Nat) : Int)) ∧ Below w.heap.size w w')) (w : World) :
    Calls Tryd.prog 51 #[.agg #[.int .i64 (k 0), .int .i64 (k 1), .int .i64 (k 2), .int .i64 (k 3), .int .i64 (k 4)], .agg #[.bool ng, .int .i64 ((fd : Nat)), .int .u64 (dgl r 0 : Nat), .int .u64 (dgl r 1 : Nat), .int .u64 (dgl r 2 : Nat), .int .u64 (dgl r 3 : Nat), .int .u64 (dgl r 4 : Nat), .int .u64 (dgl r 5 : Nat), .int .u64 (dgl r 6 : Nat), .int .u64 (dgl r 7 : Nat)]] w fun e w' => e = .returned (.int .i64 3) ∧ Below w.heap.size w w' := by
  have HST := hide (ocSt_start w k ng fd r)
  have hz := fun w => wide_eqz hr w
  rw [decide_eq_true h0] at hz
  clear hr h0
  go_enter Tryd.func51, Tryd.ntmps51
  go_upto_region 2 with fail
  refine wp_gen (fun W => OcSt w k ng fd r W) HST.out ?_
  clear HST hz
  rintro W1 h1
  refine wp_region_grow 8 [(11, .val (.pointer (some ⟨w.heap.size + 1, 1, none⟩))), (12, .val (.int .i64 (fd : Nat))), (13, .val (.agg #[.int .i64 (k 0), .int .i64 (k 1), .int .i64 (k 2), .int .i64 (k 3), .int .i64 (k 4)])), (14, .val (.int .i64 ((m : Nat) : Int))), (15, .val (.bool true)), (16, .val (.bool true)), (17, .val (.bool true)), (18, .val (.bool true))]
    (fun W => OcSt w k ng fd r W) mixedOk (by kernel_rfl) (by kernel_rfl) (h1.below (Below.refl _ _).drew) (fun W W' h hb => h.below hb) ?_ ?_
  · refine gSt (gStep_run rfl ?_) ?_
    · intro ρ W hC hc hf hL
      have e3 : ρ (.tmp 3) = .pointer (some ⟨w.heap.size + 1, 0, none⟩) := hL 3 (by decide +kernel)
      simp [go_sem, hc, hf, e3]
      exact ⟨Below.refl _ _, rfl⟩
    refine gSt (gStep_run rfl ?_) ?_
    · intro ρ W hC hc hf hL
      have e11 : ρ (.tmp 11) = .pointer (some ⟨w.heap.size + 1, 1, none⟩) := hL 11 (by decide +kernel)
      have hl := hC.p1
      simp [go_sem, hc, hf, e11, hl]
      exact ⟨Below.refl _ _, rfl⟩
    refine gSt (gStep_run rfl ?_) ?_
    · intro ρ W hC hc hf hL
      have e2 : ρ (.tmp 2) = .pointer (some ⟨w.heap.size, 0, none⟩) := hL 2 (by decide +kernel)
      have g0 := hC.rk 0 (by decide)
      have g1 := hC.rk 1 (by decide)
      have g2 := hC.rk 2 (by decide)
      have g3 := hC.rk 3 (by decide)
      have g4 := hC.rk 4 (by decide)
      simp [go_sem, hc, hf, e2, g0, g1, g2, g3, g4]
      exact ⟨Below.refl _ _, rfl⟩
    refine gSt (gStep_run rfl ?_) ?_
    · intro ρ W hC hc hf hL
      have e13 : ρ (.tmp 13) = .agg #[.int .i64 (k 0), .int .i64 (k 1), .int .i64 (k 2), .int .i64 (k 3), .int .i64 (k 4)] := hL 13 (by decide +kernel)
      simp [go_sem, hc, hf, e13]
      refine (HON.out W).mono ?_
      rintro e w' ⟨rfl, hb⟩
      exact ⟨_, rfl, by first | exact hb | (subst hb; exact Below.refl _ _), rfl⟩
    refine gSt (gStep_run rfl ?_) ?_
    · intro ρ W hC hc hf hL
      have e12 : ρ (.tmp 12) = .int .i64 (fd : Nat) := hL 12 (by decide +kernel)
      have e14 : ρ (.tmp 14) = .int .i64 ((m : Nat) : Int) := hL 14 (by decide +kernel)
      have hl := HEQ.out
      simp [go_sem, hc, hf, e12, e14, hl]
      exact ⟨Below.refl _ _, rfl⟩
    refine gSt (gStep_run rfl (gRun_move 15 16 (.inl rfl) rfl (by decide +kernel) (fun v w h => h))) ?_
    refine gSt (gStep_on 5 16 true rfl rfl (by decide +kernel) (fun v w h => h) (gRun_move 5 17 (.inl rfl) rfl (by decide +kernel) (fun v w h => h))) ?_
    refine gSt (gStep_run rfl (gRun_pickT 16 17 18 _ rfl rfl (by decide +kernel) (by decide +kernel) (fun v w h => h) (fun v w h => h))) ?_
    exact gSt0
  · intro W hC
    refine gFi 11 rfl ?_
    rintro _ rfl
    refine gFi 12 rfl ?_
    rintro _ rfl
    refine gFi 13 rfl ?_
    rintro _ rfl
    refine gFi 14 rfl ?_
    rintro _ rfl
    refine gFi 15 rfl ?_
    rintro _ rfl
    refine gFi 16 rfl ?_
    rintro _ rfl
    refine gFi 17 rfl ?_
    rintro _ rfl
    refine gFi 18 rfl ?_
    rintro _ rfl
    refine gFi0 ?_
    simp only [List.drop_succ_cons, List.drop_zero, Act.put, List.setIfInBounds_toArray, List.set_cons_succ, List.set_cons_zero]
    have HB := hide hC.bel
    clear hC h1
    go_wp2
    go_ret
    exact ⟨rfl, HB.out⟩

set_option maxHeartbeats 2000000 in
theorem of1_quiet (k : Nat → Int) (ng : Bool) (fd r m : Nat) (hr : r < QQ) (h0 : ¬ r = 0) (HEQ : Hid (((fd : Int) == (m : Int)) = true)) (hw1 : IntKind.i64.wrap (k 1 - 2) = k 1 - 2) (HBI : Hid (∀ w, Calls Tryd.prog 53 #[.agg #[.int .u64 (dgl (r) 0 : Nat), .int .u64 (dgl (r) 1 : Nat), .int .u64 (dgl (r) 2 : Nat), .int .u64 (dgl (r) 3 : Nat), .int .u64 (dgl (r) 4 : Nat), .int .u64 (dgl (r) 5 : Nat), .int .u64 (dgl (r) 6 : Nat), .int .u64 (dgl (r) 7 : Nat)], .int .i64 (k 1 - 2)] w fun e w' => e = .returned (.bool true) ∧ Below w.heap.size w w'))
    (HON : Hid (∀ w, Calls Tryd.prog 52 #[.agg #[.int .i64 (k 0), .int .i64 (k 1), .int .i64 (k 2), .int .i64 (k 3), .int .i64 (k 4)]] w fun e w' => e = .returned (.int .i64 ((m : Nat) : Int)) ∧ Below w.heap.size w w')) (w : World) :
    Calls Tryd.prog 51 #[.agg #[.int .i64 (k 0), .int .i64 (k 1), .int .i64 (k 2), .int .i64 (k 3), .int .i64 (k 4)], .agg #[.bool ng, .int .i64 ((fd : Nat)), .int .u64 (dgl r 0 : Nat), .int .u64 (dgl r 1 : Nat), .int .u64 (dgl r 2 : Nat), .int .u64 (dgl r 3 : Nat), .int .u64 (dgl r 4 : Nat), .int .u64 (dgl r 5 : Nat), .int .u64 (dgl r 6 : Nat), .int .u64 (dgl r 7 : Nat)]] w fun e w' => e = .returned (.int .i64 2) ∧ Below w.heap.size w w' := by
  have HST := hide (ocSt_start w k ng fd r)
  have hz := fun w => wide_eqz hr w
  rw [decide_eq_false h0] at hz
  clear hr h0
  go_enter Tryd.func51, Tryd.ntmps51
  go_upto_region 2 with fail
  refine wp_gen (fun W => OcSt w k ng fd r W) HST.out ?_
  clear HST hz
  rintro W1 h1
  refine wp_region_grow 8 [(11, .val (.pointer (some ⟨w.heap.size + 1, 1, none⟩))), (12, .val (.int .i64 (fd : Nat))), (13, .val (.agg #[.int .i64 (k 0), .int .i64 (k 1), .int .i64 (k 2), .int .i64 (k 3), .int .i64 (k 4)])), (14, .val (.int .i64 ((m : Nat) : Int))), (15, .val (.bool true)), (16, .val (.bool true)), (17, .val (.bool false)), (18, .val (.bool false))]
    (fun W => OcSt w k ng fd r W) mixedOk (by kernel_rfl) (by kernel_rfl) (h1.below (Below.refl _ _).drew) (fun W W' h hb => h.below hb) ?_ ?_
  · refine gSt (gStep_run rfl ?_) ?_
    · intro ρ W hC hc hf hL
      have e3 : ρ (.tmp 3) = .pointer (some ⟨w.heap.size + 1, 0, none⟩) := hL 3 (by decide +kernel)
      simp [go_sem, hc, hf, e3]
      exact ⟨Below.refl _ _, rfl⟩
    refine gSt (gStep_run rfl ?_) ?_
    · intro ρ W hC hc hf hL
      have e11 : ρ (.tmp 11) = .pointer (some ⟨w.heap.size + 1, 1, none⟩) := hL 11 (by decide +kernel)
      have hl := hC.p1
      simp [go_sem, hc, hf, e11, hl]
      exact ⟨Below.refl _ _, rfl⟩
    refine gSt (gStep_run rfl ?_) ?_
    · intro ρ W hC hc hf hL
      have e2 : ρ (.tmp 2) = .pointer (some ⟨w.heap.size, 0, none⟩) := hL 2 (by decide +kernel)
      have g0 := hC.rk 0 (by decide)
      have g1 := hC.rk 1 (by decide)
      have g2 := hC.rk 2 (by decide)
      have g3 := hC.rk 3 (by decide)
      have g4 := hC.rk 4 (by decide)
      simp [go_sem, hc, hf, e2, g0, g1, g2, g3, g4]
      exact ⟨Below.refl _ _, rfl⟩
    refine gSt (gStep_run rfl ?_) ?_
    · intro ρ W hC hc hf hL
      have e13 : ρ (.tmp 13) = .agg #[.int .i64 (k 0), .int .i64 (k 1), .int .i64 (k 2), .int .i64 (k 3), .int .i64 (k 4)] := hL 13 (by decide +kernel)
      simp [go_sem, hc, hf, e13]
      refine (HON.out W).mono ?_
      rintro e w' ⟨rfl, hb⟩
      exact ⟨_, rfl, by first | exact hb | (subst hb; exact Below.refl _ _), rfl⟩
    refine gSt (gStep_run rfl ?_) ?_
    · intro ρ W hC hc hf hL
      have e12 : ρ (.tmp 12) = .int .i64 (fd : Nat) := hL 12 (by decide +kernel)
      have e14 : ρ (.tmp 14) = .int .i64 ((m : Nat) : Int) := hL 14 (by decide +kernel)
      have hl := HEQ.out
      simp [go_sem, hc, hf, e12, e14, hl]
      exact ⟨Below.refl _ _, rfl⟩
    refine gSt (gStep_run rfl (gRun_move 15 16 (.inl rfl) rfl (by decide +kernel) (fun v w h => h))) ?_
    refine gSt (gStep_on 5 16 true rfl rfl (by decide +kernel) (fun v w h => h) (gRun_move 5 17 (.inl rfl) rfl (by decide +kernel) (fun v w h => h))) ?_
    refine gSt (gStep_run rfl (gRun_pickT 16 17 18 _ rfl rfl (by decide +kernel) (by decide +kernel) (fun v w h => h) (fun v w h => h))) ?_
    exact gSt0
  · intro W hC
    refine gFi 11 rfl ?_
    rintro _ rfl
    refine gFi 12 rfl ?_
    rintro _ rfl
    refine gFi 13 rfl ?_
    rintro _ rfl
    refine gFi 14 rfl ?_
    rintro _ rfl
    refine gFi 15 rfl ?_
    rintro _ rfl
    refine gFi 16 rfl ?_
    rintro _ rfl
    refine gFi 17 rfl ?_
    rintro _ rfl
    refine gFi 18 rfl ?_
    rintro _ rfl
    refine gFi0 ?_
    simp only [List.drop_succ_cons, List.drop_zero, Act.put, List.setIfInBounds_toArray, List.set_cons_succ, List.set_cons_zero]
    have HC := hide hC
    clear hC h1
    go_upto_region 4 with fail
    refine wp_gen (fun W => OcSt w k ng fd r W) HC.out ?_
    clear HC
    rintro W1 h1
    refine wp_region_grow 13 [(20, .val (.pointer (some ⟨w.heap.size + 1, 1, none⟩))), (21, .val (.int .i64 (fd : Nat))), (22, .val (.agg #[.int .i64 (k 0), .int .i64 (k 1), .int .i64 (k 2), .int .i64 (k 3), .int .i64 (k 4)])), (23, .val (.int .i64 ((m : Nat) : Int))), (24, .val (.bool true)), (25, .val (.bool true)), (26, .val (.pointer (some ⟨w.heap.size + 1, 2, none⟩))), (27, .val (.agg #[.int .u64 (dgl (r) 0 : Nat), .int .u64 (dgl (r) 1 : Nat), .int .u64 (dgl (r) 2 : Nat), .int .u64 (dgl (r) 3 : Nat), .int .u64 (dgl (r) 4 : Nat), .int .u64 (dgl (r) 5 : Nat), .int .u64 (dgl (r) 6 : Nat), .int .u64 (dgl (r) 7 : Nat)])), (28, .val (.pointer (some ⟨w.heap.size, 1, none⟩))), (29, .val (.int .i64 (k 1))), (30, .val (.int .i64 (k 1 - 2))), (31, .val (.bool true)), (32, .val (.bool true))]
      (fun W => OcSt w k ng fd r W) mixedOk (by kernel_rfl) (by kernel_rfl) (h1.below (Below.refl _ _).drew) (fun W W' h hb => h.below hb) ?_ ?_
    · refine gSt (gStep_run rfl ?_) ?_
      · intro ρ W hC hc hf hL
        have e3 : ρ (.tmp 3) = .pointer (some ⟨w.heap.size + 1, 0, none⟩) := hL 3 (by decide +kernel)
        simp [go_sem, hc, hf, e3]
        exact ⟨Below.refl _ _, rfl⟩
      refine gSt (gStep_run rfl ?_) ?_
      · intro ρ W hC hc hf hL
        have e20 : ρ (.tmp 20) = .pointer (some ⟨w.heap.size + 1, 1, none⟩) := hL 20 (by decide +kernel)
        have hl := hC.p1
        simp [go_sem, hc, hf, e20, hl]
        exact ⟨Below.refl _ _, rfl⟩
      refine gSt (gStep_run rfl ?_) ?_
      · intro ρ W hC hc hf hL
        have e2 : ρ (.tmp 2) = .pointer (some ⟨w.heap.size, 0, none⟩) := hL 2 (by decide +kernel)
        have g0 := hC.rk 0 (by decide)
        have g1 := hC.rk 1 (by decide)
        have g2 := hC.rk 2 (by decide)
        have g3 := hC.rk 3 (by decide)
        have g4 := hC.rk 4 (by decide)
        simp [go_sem, hc, hf, e2, g0, g1, g2, g3, g4]
        exact ⟨Below.refl _ _, rfl⟩
      refine gSt (gStep_run rfl ?_) ?_
      · intro ρ W hC hc hf hL
        have e22 : ρ (.tmp 22) = .agg #[.int .i64 (k 0), .int .i64 (k 1), .int .i64 (k 2), .int .i64 (k 3), .int .i64 (k 4)] := hL 22 (by decide +kernel)
        simp [go_sem, hc, hf, e22]
        refine (HON.out W).mono ?_
        rintro e w' ⟨rfl, hb⟩
        exact ⟨_, rfl, by first | exact hb | (subst hb; exact Below.refl _ _), rfl⟩
      refine gSt (gStep_run rfl ?_) ?_
      · intro ρ W hC hc hf hL
        have e21 : ρ (.tmp 21) = .int .i64 (fd : Nat) := hL 21 (by decide +kernel)
        have e23 : ρ (.tmp 23) = .int .i64 ((m : Nat) : Int) := hL 23 (by decide +kernel)
        have hl := HEQ.out
        simp [go_sem, hc, hf, e21, e23, hl]
        exact ⟨Below.refl _ _, rfl⟩
      refine gSt (gStep_run rfl (gRun_move 24 25 (.inl rfl) rfl (by decide +kernel) (fun v w h => h))) ?_
      refine gSt (gStep_on 5 25 true rfl rfl (by decide +kernel) (fun v w h => h) ?_) ?_
      · intro ρ W hC hc hf hL
        have e3 : ρ (.tmp 3) = .pointer (some ⟨w.heap.size + 1, 0, none⟩) := hL 3 (by decide +kernel)
        simp [go_sem, hc, hf, e3]
        exact ⟨Below.refl _ _, rfl⟩
      refine gSt (gStep_on 5 25 true rfl rfl (by decide +kernel) (fun v w h => h) ?_) ?_
      · intro ρ W hC hc hf hL
        have e26 : ρ (.tmp 26) = .pointer (some ⟨w.heap.size + 1, 2, none⟩) := hL 26 (by decide +kernel)
        have q0 := hC.p2 0 (by decide)
        have q1 := hC.p2 1 (by decide)
        have q2 := hC.p2 2 (by decide)
        have q3 := hC.p2 3 (by decide)
        have q4 := hC.p2 4 (by decide)
        have q5 := hC.p2 5 (by decide)
        have q6 := hC.p2 6 (by decide)
        have q7 := hC.p2 7 (by decide)
        simp only [Nat.reduceAdd] at q0 q1 q2 q3 q4 q5 q6 q7
        simp [go_sem, hc, hf, e26, q0, q1, q2, q3, q4, q5, q6, q7]
        exact ⟨Below.refl _ _, rfl⟩
      refine gSt (gStep_on 5 25 true rfl rfl (by decide +kernel) (fun v w h => h) ?_) ?_
      · intro ρ W hC hc hf hL
        have e2 : ρ (.tmp 2) = .pointer (some ⟨w.heap.size, 0, none⟩) := hL 2 (by decide +kernel)
        simp [go_sem, hc, hf, e2]
        exact ⟨Below.refl _ _, rfl⟩
      refine gSt (gStep_on 5 25 true rfl rfl (by decide +kernel) (fun v w h => h) ?_) ?_
      · intro ρ W hC hc hf hL
        have e28 : ρ (.tmp 28) = .pointer (some ⟨w.heap.size, 1, none⟩) := hL 28 (by decide +kernel)
        have hl := hC.rk 1 (by decide)
        simp [go_sem, hc, hf, e28, hl]
        exact ⟨Below.refl _ _, rfl⟩
      refine gSt (gStep_on 5 25 true rfl rfl (by decide +kernel) (fun v w h => h) ?_) ?_
      · intro ρ W hC hc hf hL
        have e29 : ρ (.tmp 29) = .int .i64 (k 1) := hL 29 (by decide +kernel)
        simp [go_sem, hc, hf, e29, hw1]
        exact ⟨Below.refl _ _, rfl⟩
      refine gSt (gStep_on 5 25 true rfl rfl (by decide +kernel) (fun v w h => h) ?_) ?_
      · intro ρ W hC hc hf hL
        have e27 : ρ (.tmp 27) = .agg #[.int .u64 (dgl (r) 0 : Nat), .int .u64 (dgl (r) 1 : Nat), .int .u64 (dgl (r) 2 : Nat), .int .u64 (dgl (r) 3 : Nat), .int .u64 (dgl (r) 4 : Nat), .int .u64 (dgl (r) 5 : Nat), .int .u64 (dgl (r) 6 : Nat), .int .u64 (dgl (r) 7 : Nat)] := hL 27 (by decide +kernel)
        have e30 : ρ (.tmp 30) = .int .i64 (k 1 - 2) := hL 30 (by decide +kernel)
        simp [go_sem, hc, hf, e27, e30]
        refine (HBI.out W).mono ?_
        rintro e w' ⟨rfl, hb⟩
        exact ⟨_, rfl, by first | exact hb | (subst hb; exact Below.refl _ _), rfl⟩
      refine gSt (gStep_run rfl (gRun_pickT 25 31 32 _ rfl rfl (by decide +kernel) (by decide +kernel) (fun v w h => h) (fun v w h => h))) ?_
      exact gSt0
    · intro W hC
      refine gFi 20 rfl ?_
      rintro _ rfl
      refine gFi 21 rfl ?_
      rintro _ rfl
      refine gFi 22 rfl ?_
      rintro _ rfl
      refine gFi 23 rfl ?_
      rintro _ rfl
      refine gFi 24 rfl ?_
      rintro _ rfl
      refine gFi 25 rfl ?_
      rintro _ rfl
      refine gFi 26 rfl ?_
      rintro _ rfl
      refine gFi 27 rfl ?_
      rintro _ rfl
      refine gFi 28 rfl ?_
      rintro _ rfl
      refine gFi 29 rfl ?_
      rintro _ rfl
      refine gFi 30 rfl ?_
      rintro _ rfl
      refine gFi 31 rfl ?_
      rintro _ rfl
      refine gFi 32 rfl ?_
      rintro _ rfl
      refine gFi0 ?_
      simp only [List.drop_succ_cons, List.drop_zero, Act.put, List.setIfInBounds_toArray, List.set_cons_succ, List.set_cons_zero]
      have HB := hide hC.bel
      clear hC h1
      go_wp2
      go_ret
      exact ⟨rfl, HB.out⟩

set_option maxHeartbeats 2000000 in
theorem of1_sig (k : Nat → Int) (ng : Bool) (fd r m : Nat) (hr : r < QQ) (h0 : ¬ r = 0) (HEQ : Hid (((fd : Int) == (m : Int)) = true)) (hw1 : IntKind.i64.wrap (k 1 - 2) = k 1 - 2) (HBI : Hid (∀ w, Calls Tryd.prog 53 #[.agg #[.int .u64 (dgl (r) 0 : Nat), .int .u64 (dgl (r) 1 : Nat), .int .u64 (dgl (r) 2 : Nat), .int .u64 (dgl (r) 3 : Nat), .int .u64 (dgl (r) 4 : Nat), .int .u64 (dgl (r) 5 : Nat), .int .u64 (dgl (r) 6 : Nat), .int .u64 (dgl (r) 7 : Nat)], .int .i64 (k 1 - 2)] w fun e w' => e = .returned (.bool false) ∧ Below w.heap.size w w'))
    (HON : Hid (∀ w, Calls Tryd.prog 52 #[.agg #[.int .i64 (k 0), .int .i64 (k 1), .int .i64 (k 2), .int .i64 (k 3), .int .i64 (k 4)]] w fun e w' => e = .returned (.int .i64 ((m : Nat) : Int)) ∧ Below w.heap.size w w')) (w : World) :
    Calls Tryd.prog 51 #[.agg #[.int .i64 (k 0), .int .i64 (k 1), .int .i64 (k 2), .int .i64 (k 3), .int .i64 (k 4)], .agg #[.bool ng, .int .i64 ((fd : Nat)), .int .u64 (dgl r 0 : Nat), .int .u64 (dgl r 1 : Nat), .int .u64 (dgl r 2 : Nat), .int .u64 (dgl r 3 : Nat), .int .u64 (dgl r 4 : Nat), .int .u64 (dgl r 5 : Nat), .int .u64 (dgl r 6 : Nat), .int .u64 (dgl r 7 : Nat)]] w fun e w' => e = .returned (.int .i64 1) ∧ Below w.heap.size w w' := by
  have HST := hide (ocSt_start w k ng fd r)
  have hz := fun w => wide_eqz hr w
  rw [decide_eq_false h0] at hz
  clear hr h0
  go_enter Tryd.func51, Tryd.ntmps51
  go_upto_region 2 with fail
  refine wp_gen (fun W => OcSt w k ng fd r W) HST.out ?_
  clear HST hz
  rintro W1 h1
  refine wp_region_grow 8 [(11, .val (.pointer (some ⟨w.heap.size + 1, 1, none⟩))), (12, .val (.int .i64 (fd : Nat))), (13, .val (.agg #[.int .i64 (k 0), .int .i64 (k 1), .int .i64 (k 2), .int .i64 (k 3), .int .i64 (k 4)])), (14, .val (.int .i64 ((m : Nat) : Int))), (15, .val (.bool true)), (16, .val (.bool true)), (17, .val (.bool false)), (18, .val (.bool false))]
    (fun W => OcSt w k ng fd r W) mixedOk (by kernel_rfl) (by kernel_rfl) (h1.below (Below.refl _ _).drew) (fun W W' h hb => h.below hb) ?_ ?_
  · refine gSt (gStep_run rfl ?_) ?_
    · intro ρ W hC hc hf hL
      have e3 : ρ (.tmp 3) = .pointer (some ⟨w.heap.size + 1, 0, none⟩) := hL 3 (by decide +kernel)
      simp [go_sem, hc, hf, e3]
      exact ⟨Below.refl _ _, rfl⟩
    refine gSt (gStep_run rfl ?_) ?_
    · intro ρ W hC hc hf hL
      have e11 : ρ (.tmp 11) = .pointer (some ⟨w.heap.size + 1, 1, none⟩) := hL 11 (by decide +kernel)
      have hl := hC.p1
      simp [go_sem, hc, hf, e11, hl]
      exact ⟨Below.refl _ _, rfl⟩
    refine gSt (gStep_run rfl ?_) ?_
    · intro ρ W hC hc hf hL
      have e2 : ρ (.tmp 2) = .pointer (some ⟨w.heap.size, 0, none⟩) := hL 2 (by decide +kernel)
      have g0 := hC.rk 0 (by decide)
      have g1 := hC.rk 1 (by decide)
      have g2 := hC.rk 2 (by decide)
      have g3 := hC.rk 3 (by decide)
      have g4 := hC.rk 4 (by decide)
      simp [go_sem, hc, hf, e2, g0, g1, g2, g3, g4]
      exact ⟨Below.refl _ _, rfl⟩
    refine gSt (gStep_run rfl ?_) ?_
    · intro ρ W hC hc hf hL
      have e13 : ρ (.tmp 13) = .agg #[.int .i64 (k 0), .int .i64 (k 1), .int .i64 (k 2), .int .i64 (k 3), .int .i64 (k 4)] := hL 13 (by decide +kernel)
      simp [go_sem, hc, hf, e13]
      refine (HON.out W).mono ?_
      rintro e w' ⟨rfl, hb⟩
      exact ⟨_, rfl, by first | exact hb | (subst hb; exact Below.refl _ _), rfl⟩
    refine gSt (gStep_run rfl ?_) ?_
    · intro ρ W hC hc hf hL
      have e12 : ρ (.tmp 12) = .int .i64 (fd : Nat) := hL 12 (by decide +kernel)
      have e14 : ρ (.tmp 14) = .int .i64 ((m : Nat) : Int) := hL 14 (by decide +kernel)
      have hl := HEQ.out
      simp [go_sem, hc, hf, e12, e14, hl]
      exact ⟨Below.refl _ _, rfl⟩
    refine gSt (gStep_run rfl (gRun_move 15 16 (.inl rfl) rfl (by decide +kernel) (fun v w h => h))) ?_
    refine gSt (gStep_on 5 16 true rfl rfl (by decide +kernel) (fun v w h => h) (gRun_move 5 17 (.inl rfl) rfl (by decide +kernel) (fun v w h => h))) ?_
    refine gSt (gStep_run rfl (gRun_pickT 16 17 18 _ rfl rfl (by decide +kernel) (by decide +kernel) (fun v w h => h) (fun v w h => h))) ?_
    exact gSt0
  · intro W hC
    refine gFi 11 rfl ?_
    rintro _ rfl
    refine gFi 12 rfl ?_
    rintro _ rfl
    refine gFi 13 rfl ?_
    rintro _ rfl
    refine gFi 14 rfl ?_
    rintro _ rfl
    refine gFi 15 rfl ?_
    rintro _ rfl
    refine gFi 16 rfl ?_
    rintro _ rfl
    refine gFi 17 rfl ?_
    rintro _ rfl
    refine gFi 18 rfl ?_
    rintro _ rfl
    refine gFi0 ?_
    simp only [List.drop_succ_cons, List.drop_zero, Act.put, List.setIfInBounds_toArray, List.set_cons_succ, List.set_cons_zero]
    have HC := hide hC
    clear hC h1
    go_upto_region 4 with fail
    refine wp_gen (fun W => OcSt w k ng fd r W) HC.out ?_
    clear HC
    rintro W1 h1
    refine wp_region_grow 13 [(20, .val (.pointer (some ⟨w.heap.size + 1, 1, none⟩))), (21, .val (.int .i64 (fd : Nat))), (22, .val (.agg #[.int .i64 (k 0), .int .i64 (k 1), .int .i64 (k 2), .int .i64 (k 3), .int .i64 (k 4)])), (23, .val (.int .i64 ((m : Nat) : Int))), (24, .val (.bool true)), (25, .val (.bool true)), (26, .val (.pointer (some ⟨w.heap.size + 1, 2, none⟩))), (27, .val (.agg #[.int .u64 (dgl (r) 0 : Nat), .int .u64 (dgl (r) 1 : Nat), .int .u64 (dgl (r) 2 : Nat), .int .u64 (dgl (r) 3 : Nat), .int .u64 (dgl (r) 4 : Nat), .int .u64 (dgl (r) 5 : Nat), .int .u64 (dgl (r) 6 : Nat), .int .u64 (dgl (r) 7 : Nat)])), (28, .val (.pointer (some ⟨w.heap.size, 1, none⟩))), (29, .val (.int .i64 (k 1))), (30, .val (.int .i64 (k 1 - 2))), (31, .val (.bool false)), (32, .val (.bool false))]
      (fun W => OcSt w k ng fd r W) mixedOk (by kernel_rfl) (by kernel_rfl) (h1.below (Below.refl _ _).drew) (fun W W' h hb => h.below hb) ?_ ?_
    · refine gSt (gStep_run rfl ?_) ?_
      · intro ρ W hC hc hf hL
        have e3 : ρ (.tmp 3) = .pointer (some ⟨w.heap.size + 1, 0, none⟩) := hL 3 (by decide +kernel)
        simp [go_sem, hc, hf, e3]
        exact ⟨Below.refl _ _, rfl⟩
      refine gSt (gStep_run rfl ?_) ?_
      · intro ρ W hC hc hf hL
        have e20 : ρ (.tmp 20) = .pointer (some ⟨w.heap.size + 1, 1, none⟩) := hL 20 (by decide +kernel)
        have hl := hC.p1
        simp [go_sem, hc, hf, e20, hl]
        exact ⟨Below.refl _ _, rfl⟩
      refine gSt (gStep_run rfl ?_) ?_
      · intro ρ W hC hc hf hL
        have e2 : ρ (.tmp 2) = .pointer (some ⟨w.heap.size, 0, none⟩) := hL 2 (by decide +kernel)
        have g0 := hC.rk 0 (by decide)
        have g1 := hC.rk 1 (by decide)
        have g2 := hC.rk 2 (by decide)
        have g3 := hC.rk 3 (by decide)
        have g4 := hC.rk 4 (by decide)
        simp [go_sem, hc, hf, e2, g0, g1, g2, g3, g4]
        exact ⟨Below.refl _ _, rfl⟩
      refine gSt (gStep_run rfl ?_) ?_
      · intro ρ W hC hc hf hL
        have e22 : ρ (.tmp 22) = .agg #[.int .i64 (k 0), .int .i64 (k 1), .int .i64 (k 2), .int .i64 (k 3), .int .i64 (k 4)] := hL 22 (by decide +kernel)
        simp [go_sem, hc, hf, e22]
        refine (HON.out W).mono ?_
        rintro e w' ⟨rfl, hb⟩
        exact ⟨_, rfl, by first | exact hb | (subst hb; exact Below.refl _ _), rfl⟩
      refine gSt (gStep_run rfl ?_) ?_
      · intro ρ W hC hc hf hL
        have e21 : ρ (.tmp 21) = .int .i64 (fd : Nat) := hL 21 (by decide +kernel)
        have e23 : ρ (.tmp 23) = .int .i64 ((m : Nat) : Int) := hL 23 (by decide +kernel)
        have hl := HEQ.out
        simp [go_sem, hc, hf, e21, e23, hl]
        exact ⟨Below.refl _ _, rfl⟩
      refine gSt (gStep_run rfl (gRun_move 24 25 (.inl rfl) rfl (by decide +kernel) (fun v w h => h))) ?_
      refine gSt (gStep_on 5 25 true rfl rfl (by decide +kernel) (fun v w h => h) ?_) ?_
      · intro ρ W hC hc hf hL
        have e3 : ρ (.tmp 3) = .pointer (some ⟨w.heap.size + 1, 0, none⟩) := hL 3 (by decide +kernel)
        simp [go_sem, hc, hf, e3]
        exact ⟨Below.refl _ _, rfl⟩
      refine gSt (gStep_on 5 25 true rfl rfl (by decide +kernel) (fun v w h => h) ?_) ?_
      · intro ρ W hC hc hf hL
        have e26 : ρ (.tmp 26) = .pointer (some ⟨w.heap.size + 1, 2, none⟩) := hL 26 (by decide +kernel)
        have q0 := hC.p2 0 (by decide)
        have q1 := hC.p2 1 (by decide)
        have q2 := hC.p2 2 (by decide)
        have q3 := hC.p2 3 (by decide)
        have q4 := hC.p2 4 (by decide)
        have q5 := hC.p2 5 (by decide)
        have q6 := hC.p2 6 (by decide)
        have q7 := hC.p2 7 (by decide)
        simp only [Nat.reduceAdd] at q0 q1 q2 q3 q4 q5 q6 q7
        simp [go_sem, hc, hf, e26, q0, q1, q2, q3, q4, q5, q6, q7]
        exact ⟨Below.refl _ _, rfl⟩
      refine gSt (gStep_on 5 25 true rfl rfl (by decide +kernel) (fun v w h => h) ?_) ?_
      · intro ρ W hC hc hf hL
        have e2 : ρ (.tmp 2) = .pointer (some ⟨w.heap.size, 0, none⟩) := hL 2 (by decide +kernel)
        simp [go_sem, hc, hf, e2]
        exact ⟨Below.refl _ _, rfl⟩
      refine gSt (gStep_on 5 25 true rfl rfl (by decide +kernel) (fun v w h => h) ?_) ?_
      · intro ρ W hC hc hf hL
        have e28 : ρ (.tmp 28) = .pointer (some ⟨w.heap.size, 1, none⟩) := hL 28 (by decide +kernel)
        have hl := hC.rk 1 (by decide)
        simp [go_sem, hc, hf, e28, hl]
        exact ⟨Below.refl _ _, rfl⟩
      refine gSt (gStep_on 5 25 true rfl rfl (by decide +kernel) (fun v w h => h) ?_) ?_
      · intro ρ W hC hc hf hL
        have e29 : ρ (.tmp 29) = .int .i64 (k 1) := hL 29 (by decide +kernel)
        simp [go_sem, hc, hf, e29, hw1]
        exact ⟨Below.refl _ _, rfl⟩
      refine gSt (gStep_on 5 25 true rfl rfl (by decide +kernel) (fun v w h => h) ?_) ?_
      · intro ρ W hC hc hf hL
        have e27 : ρ (.tmp 27) = .agg #[.int .u64 (dgl (r) 0 : Nat), .int .u64 (dgl (r) 1 : Nat), .int .u64 (dgl (r) 2 : Nat), .int .u64 (dgl (r) 3 : Nat), .int .u64 (dgl (r) 4 : Nat), .int .u64 (dgl (r) 5 : Nat), .int .u64 (dgl (r) 6 : Nat), .int .u64 (dgl (r) 7 : Nat)] := hL 27 (by decide +kernel)
        have e30 : ρ (.tmp 30) = .int .i64 (k 1 - 2) := hL 30 (by decide +kernel)
        simp [go_sem, hc, hf, e27, e30]
        refine (HBI.out W).mono ?_
        rintro e w' ⟨rfl, hb⟩
        exact ⟨_, rfl, by first | exact hb | (subst hb; exact Below.refl _ _), rfl⟩
      refine gSt (gStep_run rfl (gRun_pickT 25 31 32 _ rfl rfl (by decide +kernel) (by decide +kernel) (fun v w h => h) (fun v w h => h))) ?_
      exact gSt0
    · intro W hC
      refine gFi 20 rfl ?_
      rintro _ rfl
      refine gFi 21 rfl ?_
      rintro _ rfl
      refine gFi 22 rfl ?_
      rintro _ rfl
      refine gFi 23 rfl ?_
      rintro _ rfl
      refine gFi 24 rfl ?_
      rintro _ rfl
      refine gFi 25 rfl ?_
      rintro _ rfl
      refine gFi 26 rfl ?_
      rintro _ rfl
      refine gFi 27 rfl ?_
      rintro _ rfl
      refine gFi 28 rfl ?_
      rintro _ rfl
      refine gFi 29 rfl ?_
      rintro _ rfl
      refine gFi 30 rfl ?_
      rintro _ rfl
      refine gFi 31 rfl ?_
      rintro _ rfl
      refine gFi 32 rfl ?_
      rintro _ rfl
      refine gFi0 ?_
      simp only [List.drop_succ_cons, List.drop_zero, Act.put, List.setIfInBounds_toArray, List.set_cons_succ, List.set_cons_zero]
      have HC := hide hC
      clear hC h1
      go_upto_region 6 with fail
      refine wp_gen (fun W => OcSt w k ng fd r W) HC.out ?_
      clear HC
      rintro W1 h1
      refine wp_region_grow 5 [(34, .val (.pointer (some ⟨w.heap.size + 1, 1, none⟩))), (35, .val (.int .i64 (fd : Nat))), (36, .val (.agg #[.int .i64 (k 0), .int .i64 (k 1), .int .i64 (k 2), .int .i64 (k 3), .int .i64 (k 4)])), (37, .val (.int .i64 ((m : Nat) : Int))), (38, .val (.bool true))]
        (fun W => OcSt w k ng fd r W) mixedOk (by kernel_rfl) (by kernel_rfl) (h1.below (Below.refl _ _).drew) (fun W W' h hb => h.below hb) ?_ ?_
      · refine gSt (gStep_run rfl ?_) ?_
        · intro ρ W hC hc hf hL
          have e3 : ρ (.tmp 3) = .pointer (some ⟨w.heap.size + 1, 0, none⟩) := hL 3 (by decide +kernel)
          simp [go_sem, hc, hf, e3]
          exact ⟨Below.refl _ _, rfl⟩
        refine gSt (gStep_run rfl ?_) ?_
        · intro ρ W hC hc hf hL
          have e34 : ρ (.tmp 34) = .pointer (some ⟨w.heap.size + 1, 1, none⟩) := hL 34 (by decide +kernel)
          have hl := hC.p1
          simp [go_sem, hc, hf, e34, hl]
          exact ⟨Below.refl _ _, rfl⟩
        refine gSt (gStep_run rfl ?_) ?_
        · intro ρ W hC hc hf hL
          have e2 : ρ (.tmp 2) = .pointer (some ⟨w.heap.size, 0, none⟩) := hL 2 (by decide +kernel)
          have g0 := hC.rk 0 (by decide)
          have g1 := hC.rk 1 (by decide)
          have g2 := hC.rk 2 (by decide)
          have g3 := hC.rk 3 (by decide)
          have g4 := hC.rk 4 (by decide)
          simp [go_sem, hc, hf, e2, g0, g1, g2, g3, g4]
          exact ⟨Below.refl _ _, rfl⟩
        refine gSt (gStep_run rfl ?_) ?_
        · intro ρ W hC hc hf hL
          have e36 : ρ (.tmp 36) = .agg #[.int .i64 (k 0), .int .i64 (k 1), .int .i64 (k 2), .int .i64 (k 3), .int .i64 (k 4)] := hL 36 (by decide +kernel)
          simp [go_sem, hc, hf, e36]
          refine (HON.out W).mono ?_
          rintro e w' ⟨rfl, hb⟩
          exact ⟨_, rfl, by first | exact hb | (subst hb; exact Below.refl _ _), rfl⟩
        refine gSt (gStep_run rfl ?_) ?_
        · intro ρ W hC hc hf hL
          have e35 : ρ (.tmp 35) = .int .i64 (fd : Nat) := hL 35 (by decide +kernel)
          have e37 : ρ (.tmp 37) = .int .i64 ((m : Nat) : Int) := hL 37 (by decide +kernel)
          have hl := HEQ.out
          simp [go_sem, hc, hf, e35, e37, hl]
          exact ⟨Below.refl _ _, rfl⟩
        exact gSt0
      · intro W hC
        refine gFi 34 rfl ?_
        rintro _ rfl
        refine gFi 35 rfl ?_
        rintro _ rfl
        refine gFi 36 rfl ?_
        rintro _ rfl
        refine gFi 37 rfl ?_
        rintro _ rfl
        refine gFi 38 rfl ?_
        rintro _ rfl
        refine gFi0 ?_
        simp only [List.drop_succ_cons, List.drop_zero, Act.put, List.setIfInBounds_toArray, List.set_cons_succ, List.set_cons_zero]
        have HB := hide hC.bel
        clear hC h1
        go_wp2
        go_ret
        exact ⟨rfl, HB.out⟩

set_option maxHeartbeats 2000000 in
theorem of1_norm (k : Nat → Int) (ng : Bool) (fd r m : Nat) (hr : r < QQ) (h0 : ¬ r = 0) (HF : Hid (((fd : Int) != 0) = true)) (HEQ : Hid (((fd : Int) == (m : Int)) = false))
    (HON : Hid (∀ w, Calls Tryd.prog 52 #[.agg #[.int .i64 (k 0), .int .i64 (k 1), .int .i64 (k 2), .int .i64 (k 3), .int .i64 (k 4)]] w fun e w' => e = .returned (.int .i64 ((m : Nat) : Int)) ∧ Below w.heap.size w w')) (w : World) :
    Calls Tryd.prog 51 #[.agg #[.int .i64 (k 0), .int .i64 (k 1), .int .i64 (k 2), .int .i64 (k 3), .int .i64 (k 4)], .agg #[.bool ng, .int .i64 ((fd : Nat)), .int .u64 (dgl r 0 : Nat), .int .u64 (dgl r 1 : Nat), .int .u64 (dgl r 2 : Nat), .int .u64 (dgl r 3 : Nat), .int .u64 (dgl r 4 : Nat), .int .u64 (dgl r 5 : Nat), .int .u64 (dgl r 6 : Nat), .int .u64 (dgl r 7 : Nat)]] w fun e w' => e = .returned (.int .i64 4) ∧ Below w.heap.size w w' := by
  have HST := hide (ocSt_start w k ng fd r)
  have hz := fun w => wide_eqz hr w
  rw [decide_eq_false h0] at hz
  clear hr h0
  go_enter Tryd.func51, Tryd.ntmps51
  go_upto_region 2 with fail
  refine wp_gen (fun W => OcSt w k ng fd r W) HST.out ?_
  clear HST hz
  rintro W1 h1
  refine wp_region_grow 8 [(11, .val (.pointer (some ⟨w.heap.size + 1, 1, none⟩))), (12, .val (.int .i64 (fd : Nat))), (13, .val (.agg #[.int .i64 (k 0), .int .i64 (k 1), .int .i64 (k 2), .int .i64 (k 3), .int .i64 (k 4)])), (14, .val (.int .i64 ((m : Nat) : Int))), (15, .val (.bool false)), (16, .val (.bool false)), (17, .val (undef)), (18, .val (.bool false))]
    (fun W => OcSt w k ng fd r W) mixedOk (by kernel_rfl) (by kernel_rfl) (h1.below (Below.refl _ _).drew) (fun W W' h hb => h.below hb) ?_ ?_
  · refine gSt (gStep_run rfl ?_) ?_
    · intro ρ W hC hc hf hL
      have e3 : ρ (.tmp 3) = .pointer (some ⟨w.heap.size + 1, 0, none⟩) := hL 3 (by decide +kernel)
      simp [go_sem, hc, hf, e3]
      exact ⟨Below.refl _ _, rfl⟩
    refine gSt (gStep_run rfl ?_) ?_
    · intro ρ W hC hc hf hL
      have e11 : ρ (.tmp 11) = .pointer (some ⟨w.heap.size + 1, 1, none⟩) := hL 11 (by decide +kernel)
      have hl := hC.p1
      simp [go_sem, hc, hf, e11, hl]
      exact ⟨Below.refl _ _, rfl⟩
    refine gSt (gStep_run rfl ?_) ?_
    · intro ρ W hC hc hf hL
      have e2 : ρ (.tmp 2) = .pointer (some ⟨w.heap.size, 0, none⟩) := hL 2 (by decide +kernel)
      have g0 := hC.rk 0 (by decide)
      have g1 := hC.rk 1 (by decide)
      have g2 := hC.rk 2 (by decide)
      have g3 := hC.rk 3 (by decide)
      have g4 := hC.rk 4 (by decide)
      simp [go_sem, hc, hf, e2, g0, g1, g2, g3, g4]
      exact ⟨Below.refl _ _, rfl⟩
    refine gSt (gStep_run rfl ?_) ?_
    · intro ρ W hC hc hf hL
      have e13 : ρ (.tmp 13) = .agg #[.int .i64 (k 0), .int .i64 (k 1), .int .i64 (k 2), .int .i64 (k 3), .int .i64 (k 4)] := hL 13 (by decide +kernel)
      simp [go_sem, hc, hf, e13]
      refine (HON.out W).mono ?_
      rintro e w' ⟨rfl, hb⟩
      exact ⟨_, rfl, by first | exact hb | (subst hb; exact Below.refl _ _), rfl⟩
    refine gSt (gStep_run rfl ?_) ?_
    · intro ρ W hC hc hf hL
      have e12 : ρ (.tmp 12) = .int .i64 (fd : Nat) := hL 12 (by decide +kernel)
      have e14 : ρ (.tmp 14) = .int .i64 ((m : Nat) : Int) := hL 14 (by decide +kernel)
      have hl := HEQ.out
      simp [go_sem, hc, hf, e12, e14, hl]
      exact ⟨Below.refl _ _, rfl⟩
    refine gSt (gStep_run rfl (gRun_move 15 16 (.inl rfl) rfl (by decide +kernel) (fun v w h => h))) ?_
    refine gSt (gStep_off 5 16 true rfl rfl (by decide +kernel) (fun v w h => h) (fun w => rfl)) ?_
    refine gSt (gStep_run rfl (gRun_pickF 16 18 _ _ rfl rfl (by decide +kernel) (fun v w h => h) (fun w => rfl))) ?_
    exact gSt0
  · intro W hC
    refine gFi 11 rfl ?_
    rintro _ rfl
    refine gFi 12 rfl ?_
    rintro _ rfl
    refine gFi 13 rfl ?_
    rintro _ rfl
    refine gFi 14 rfl ?_
    rintro _ rfl
    refine gFi 15 rfl ?_
    rintro _ rfl
    refine gFi 16 rfl ?_
    rintro _ rfl
    refine gFi 17 rfl ?_
    rintro _ rfl
    refine gFi 18 rfl ?_
    rintro _ rfl
    refine gFi0 ?_
    simp only [List.drop_succ_cons, List.drop_zero, Act.put, List.setIfInBounds_toArray, List.set_cons_succ, List.set_cons_zero]
    have HC := hide hC
    clear hC h1
    go_upto_region 4 with fail
    refine wp_gen (fun W => OcSt w k ng fd r W) HC.out ?_
    clear HC
    rintro W1 h1
    refine wp_region_grow 13 [(20, .val (.pointer (some ⟨w.heap.size + 1, 1, none⟩))), (21, .val (.int .i64 (fd : Nat))), (22, .val (.agg #[.int .i64 (k 0), .int .i64 (k 1), .int .i64 (k 2), .int .i64 (k 3), .int .i64 (k 4)])), (23, .val (.int .i64 ((m : Nat) : Int))), (24, .val (.bool false)), (25, .val (.bool false)), (26, .val (undef)), (27, .val (undef)), (28, .val (undef)), (29, .val (undef)), (30, .val (undef)), (31, .val (undef)), (32, .val (.bool false))]
      (fun W => OcSt w k ng fd r W) mixedOk (by kernel_rfl) (by kernel_rfl) (h1.below (Below.refl _ _).drew) (fun W W' h hb => h.below hb) ?_ ?_
    · refine gSt (gStep_run rfl ?_) ?_
      · intro ρ W hC hc hf hL
        have e3 : ρ (.tmp 3) = .pointer (some ⟨w.heap.size + 1, 0, none⟩) := hL 3 (by decide +kernel)
        simp [go_sem, hc, hf, e3]
        exact ⟨Below.refl _ _, rfl⟩
      refine gSt (gStep_run rfl ?_) ?_
      · intro ρ W hC hc hf hL
        have e20 : ρ (.tmp 20) = .pointer (some ⟨w.heap.size + 1, 1, none⟩) := hL 20 (by decide +kernel)
        have hl := hC.p1
        simp [go_sem, hc, hf, e20, hl]
        exact ⟨Below.refl _ _, rfl⟩
      refine gSt (gStep_run rfl ?_) ?_
      · intro ρ W hC hc hf hL
        have e2 : ρ (.tmp 2) = .pointer (some ⟨w.heap.size, 0, none⟩) := hL 2 (by decide +kernel)
        have g0 := hC.rk 0 (by decide)
        have g1 := hC.rk 1 (by decide)
        have g2 := hC.rk 2 (by decide)
        have g3 := hC.rk 3 (by decide)
        have g4 := hC.rk 4 (by decide)
        simp [go_sem, hc, hf, e2, g0, g1, g2, g3, g4]
        exact ⟨Below.refl _ _, rfl⟩
      refine gSt (gStep_run rfl ?_) ?_
      · intro ρ W hC hc hf hL
        have e22 : ρ (.tmp 22) = .agg #[.int .i64 (k 0), .int .i64 (k 1), .int .i64 (k 2), .int .i64 (k 3), .int .i64 (k 4)] := hL 22 (by decide +kernel)
        simp [go_sem, hc, hf, e22]
        refine (HON.out W).mono ?_
        rintro e w' ⟨rfl, hb⟩
        exact ⟨_, rfl, by first | exact hb | (subst hb; exact Below.refl _ _), rfl⟩
      refine gSt (gStep_run rfl ?_) ?_
      · intro ρ W hC hc hf hL
        have e21 : ρ (.tmp 21) = .int .i64 (fd : Nat) := hL 21 (by decide +kernel)
        have e23 : ρ (.tmp 23) = .int .i64 ((m : Nat) : Int) := hL 23 (by decide +kernel)
        have hl := HEQ.out
        simp [go_sem, hc, hf, e21, e23, hl]
        exact ⟨Below.refl _ _, rfl⟩
      refine gSt (gStep_run rfl (gRun_move 24 25 (.inl rfl) rfl (by decide +kernel) (fun v w h => h))) ?_
      refine gSt (gStep_off 5 25 true rfl rfl (by decide +kernel) (fun v w h => h) (fun w => rfl)) ?_
      refine gSt (gStep_off 5 25 true rfl rfl (by decide +kernel) (fun v w h => h) (fun w => rfl)) ?_
      refine gSt (gStep_off 5 25 true rfl rfl (by decide +kernel) (fun v w h => h) (fun w => rfl)) ?_
      refine gSt (gStep_off 5 25 true rfl rfl (by decide +kernel) (fun v w h => h) (fun w => rfl)) ?_
      refine gSt (gStep_off 5 25 true rfl rfl (by decide +kernel) (fun v w h => h) (fun w => rfl)) ?_
      refine gSt (gStep_off 5 25 true rfl rfl (by decide +kernel) (fun v w h => h) (fun w => rfl)) ?_
      refine gSt (gStep_run rfl (gRun_pickF 25 32 _ _ rfl rfl (by decide +kernel) (fun v w h => h) (fun w => rfl))) ?_
      exact gSt0
    · intro W hC
      refine gFi 20 rfl ?_
      rintro _ rfl
      refine gFi 21 rfl ?_
      rintro _ rfl
      refine gFi 22 rfl ?_
      rintro _ rfl
      refine gFi 23 rfl ?_
      rintro _ rfl
      refine gFi 24 rfl ?_
      rintro _ rfl
      refine gFi 25 rfl ?_
      rintro _ rfl
      refine gFi 26 rfl ?_
      rintro _ rfl
      refine gFi 27 rfl ?_
      rintro _ rfl
      refine gFi 28 rfl ?_
      rintro _ rfl
      refine gFi 29 rfl ?_
      rintro _ rfl
      refine gFi 30 rfl ?_
      rintro _ rfl
      refine gFi 31 rfl ?_
      rintro _ rfl
      refine gFi 32 rfl ?_
      rintro _ rfl
      refine gFi0 ?_
      simp only [List.drop_succ_cons, List.drop_zero, Act.put, List.setIfInBounds_toArray, List.set_cons_succ, List.set_cons_zero]
      have HC := hide hC
      clear hC h1
      go_upto_region 6 with fail
      refine wp_gen (fun W => OcSt w k ng fd r W) HC.out ?_
      clear HC
      rintro W1 h1
      refine wp_region_grow 5 [(34, .val (.pointer (some ⟨w.heap.size + 1, 1, none⟩))), (35, .val (.int .i64 (fd : Nat))), (36, .val (.agg #[.int .i64 (k 0), .int .i64 (k 1), .int .i64 (k 2), .int .i64 (k 3), .int .i64 (k 4)])), (37, .val (.int .i64 ((m : Nat) : Int))), (38, .val (.bool false))]
        (fun W => OcSt w k ng fd r W) mixedOk (by kernel_rfl) (by kernel_rfl) (h1.below (Below.refl _ _).drew) (fun W W' h hb => h.below hb) ?_ ?_
      · refine gSt (gStep_run rfl ?_) ?_
        · intro ρ W hC hc hf hL
          have e3 : ρ (.tmp 3) = .pointer (some ⟨w.heap.size + 1, 0, none⟩) := hL 3 (by decide +kernel)
          simp [go_sem, hc, hf, e3]
          exact ⟨Below.refl _ _, rfl⟩
        refine gSt (gStep_run rfl ?_) ?_
        · intro ρ W hC hc hf hL
          have e34 : ρ (.tmp 34) = .pointer (some ⟨w.heap.size + 1, 1, none⟩) := hL 34 (by decide +kernel)
          have hl := hC.p1
          simp [go_sem, hc, hf, e34, hl]
          exact ⟨Below.refl _ _, rfl⟩
        refine gSt (gStep_run rfl ?_) ?_
        · intro ρ W hC hc hf hL
          have e2 : ρ (.tmp 2) = .pointer (some ⟨w.heap.size, 0, none⟩) := hL 2 (by decide +kernel)
          have g0 := hC.rk 0 (by decide)
          have g1 := hC.rk 1 (by decide)
          have g2 := hC.rk 2 (by decide)
          have g3 := hC.rk 3 (by decide)
          have g4 := hC.rk 4 (by decide)
          simp [go_sem, hc, hf, e2, g0, g1, g2, g3, g4]
          exact ⟨Below.refl _ _, rfl⟩
        refine gSt (gStep_run rfl ?_) ?_
        · intro ρ W hC hc hf hL
          have e36 : ρ (.tmp 36) = .agg #[.int .i64 (k 0), .int .i64 (k 1), .int .i64 (k 2), .int .i64 (k 3), .int .i64 (k 4)] := hL 36 (by decide +kernel)
          simp [go_sem, hc, hf, e36]
          refine (HON.out W).mono ?_
          rintro e w' ⟨rfl, hb⟩
          exact ⟨_, rfl, by first | exact hb | (subst hb; exact Below.refl _ _), rfl⟩
        refine gSt (gStep_run rfl ?_) ?_
        · intro ρ W hC hc hf hL
          have e35 : ρ (.tmp 35) = .int .i64 (fd : Nat) := hL 35 (by decide +kernel)
          have e37 : ρ (.tmp 37) = .int .i64 ((m : Nat) : Int) := hL 37 (by decide +kernel)
          have hl := HEQ.out
          simp [go_sem, hc, hf, e35, e37, hl]
          exact ⟨Below.refl _ _, rfl⟩
        exact gSt0
      · intro W hC
        refine gFi 34 rfl ?_
        rintro _ rfl
        refine gFi 35 rfl ?_
        rintro _ rfl
        refine gFi 36 rfl ?_
        rintro _ rfl
        refine gFi 37 rfl ?_
        rintro _ rfl
        refine gFi 38 rfl ?_
        rintro _ rfl
        refine gFi0 ?_
        simp only [List.drop_succ_cons, List.drop_zero, Act.put, List.setIfInBounds_toArray, List.set_cons_succ, List.set_cons_zero]
        have HB := hide hC.bel
        have hl := hC.p1
        have hf := HF.out
        clear hC h1
        go_wp2
        go_ret
        exact ⟨rfl, HB.out⟩

set_option maxHeartbeats 2000000 in
theorem of1_norm0 (k : Nat → Int) (ng : Bool) (fd r m : Nat) (hr : r < QQ) (h0 : r = 0) (HF : Hid (((fd : Int) != 0) = true)) (HEQ : Hid (((fd : Int) == (m : Int)) = false))
    (HON : Hid (∀ w, Calls Tryd.prog 52 #[.agg #[.int .i64 (k 0), .int .i64 (k 1), .int .i64 (k 2), .int .i64 (k 3), .int .i64 (k 4)]] w fun e w' => e = .returned (.int .i64 ((m : Nat) : Int)) ∧ Below w.heap.size w w')) (w : World) :
    Calls Tryd.prog 51 #[.agg #[.int .i64 (k 0), .int .i64 (k 1), .int .i64 (k 2), .int .i64 (k 3), .int .i64 (k 4)], .agg #[.bool ng, .int .i64 ((fd : Nat)), .int .u64 (dgl r 0 : Nat), .int .u64 (dgl r 1 : Nat), .int .u64 (dgl r 2 : Nat), .int .u64 (dgl r 3 : Nat), .int .u64 (dgl r 4 : Nat), .int .u64 (dgl r 5 : Nat), .int .u64 (dgl r 6 : Nat), .int .u64 (dgl r 7 : Nat)]] w fun e w' => e = .returned (.int .i64 4) ∧ Below w.heap.size w w' := by
  have HST := hide (ocSt_start w k ng fd r)
  have hz := fun w => wide_eqz hr w
  rw [decide_eq_true h0] at hz
  clear hr h0
  go_enter Tryd.func51, Tryd.ntmps51
  go_upto_region 2 with fail
  refine wp_gen (fun W => OcSt w k ng fd r W) HST.out ?_
  clear HST hz
  rintro W1 h1
  refine wp_region_grow 8 [(11, .val (.pointer (some ⟨w.heap.size + 1, 1, none⟩))), (12, .val (.int .i64 (fd : Nat))), (13, .val (.agg #[.int .i64 (k 0), .int .i64 (k 1), .int .i64 (k 2), .int .i64 (k 3), .int .i64 (k 4)])), (14, .val (.int .i64 ((m : Nat) : Int))), (15, .val (.bool false)), (16, .val (.bool false)), (17, .val (undef)), (18, .val (.bool false))]
    (fun W => OcSt w k ng fd r W) mixedOk (by kernel_rfl) (by kernel_rfl) (h1.below (Below.refl _ _).drew) (fun W W' h hb => h.below hb) ?_ ?_
  · refine gSt (gStep_run rfl ?_) ?_
    · intro ρ W hC hc hf hL
      have e3 : ρ (.tmp 3) = .pointer (some ⟨w.heap.size + 1, 0, none⟩) := hL 3 (by decide +kernel)
      simp [go_sem, hc, hf, e3]
      exact ⟨Below.refl _ _, rfl⟩
    refine gSt (gStep_run rfl ?_) ?_
    · intro ρ W hC hc hf hL
      have e11 : ρ (.tmp 11) = .pointer (some ⟨w.heap.size + 1, 1, none⟩) := hL 11 (by decide +kernel)
      have hl := hC.p1
      simp [go_sem, hc, hf, e11, hl]
      exact ⟨Below.refl _ _, rfl⟩
    refine gSt (gStep_run rfl ?_) ?_
    · intro ρ W hC hc hf hL
      have e2 : ρ (.tmp 2) = .pointer (some ⟨w.heap.size, 0, none⟩) := hL 2 (by decide +kernel)
      have g0 := hC.rk 0 (by decide)
      have g1 := hC.rk 1 (by decide)
      have g2 := hC.rk 2 (by decide)
      have g3 := hC.rk 3 (by decide)
      have g4 := hC.rk 4 (by decide)
      simp [go_sem, hc, hf, e2, g0, g1, g2, g3, g4]
      exact ⟨Below.refl _ _, rfl⟩
    refine gSt (gStep_run rfl ?_) ?_
    · intro ρ W hC hc hf hL
      have e13 : ρ (.tmp 13) = .agg #[.int .i64 (k 0), .int .i64 (k 1), .int .i64 (k 2), .int .i64 (k 3), .int .i64 (k 4)] := hL 13 (by decide +kernel)
      simp [go_sem, hc, hf, e13]
      refine (HON.out W).mono ?_
      rintro e w' ⟨rfl, hb⟩
      exact ⟨_, rfl, by first | exact hb | (subst hb; exact Below.refl _ _), rfl⟩
    refine gSt (gStep_run rfl ?_) ?_
    · intro ρ W hC hc hf hL
      have e12 : ρ (.tmp 12) = .int .i64 (fd : Nat) := hL 12 (by decide +kernel)
      have e14 : ρ (.tmp 14) = .int .i64 ((m : Nat) : Int) := hL 14 (by decide +kernel)
      have hl := HEQ.out
      simp [go_sem, hc, hf, e12, e14, hl]
      exact ⟨Below.refl _ _, rfl⟩
    refine gSt (gStep_run rfl (gRun_move 15 16 (.inl rfl) rfl (by decide +kernel) (fun v w h => h))) ?_
    refine gSt (gStep_off 5 16 true rfl rfl (by decide +kernel) (fun v w h => h) (fun w => rfl)) ?_
    refine gSt (gStep_run rfl (gRun_pickF 16 18 _ _ rfl rfl (by decide +kernel) (fun v w h => h) (fun w => rfl))) ?_
    exact gSt0
  · intro W hC
    refine gFi 11 rfl ?_
    rintro _ rfl
    refine gFi 12 rfl ?_
    rintro _ rfl
    refine gFi 13 rfl ?_
    rintro _ rfl
    refine gFi 14 rfl ?_
    rintro _ rfl
    refine gFi 15 rfl ?_
    rintro _ rfl
    refine gFi 16 rfl ?_
    rintro _ rfl
    refine gFi 17 rfl ?_
    rintro _ rfl
    refine gFi 18 rfl ?_
    rintro _ rfl
    refine gFi0 ?_
    simp only [List.drop_succ_cons, List.drop_zero, Act.put, List.setIfInBounds_toArray, List.set_cons_succ, List.set_cons_zero]
    have HC := hide hC
    clear hC h1
    go_upto_region 4 with fail
    refine wp_gen (fun W => OcSt w k ng fd r W) HC.out ?_
    clear HC
    rintro W1 h1
    refine wp_region_grow 13 [(20, .val (.pointer (some ⟨w.heap.size + 1, 1, none⟩))), (21, .val (.int .i64 (fd : Nat))), (22, .val (.agg #[.int .i64 (k 0), .int .i64 (k 1), .int .i64 (k 2), .int .i64 (k 3), .int .i64 (k 4)])), (23, .val (.int .i64 ((m : Nat) : Int))), (24, .val (.bool false)), (25, .val (.bool false)), (26, .val (undef)), (27, .val (undef)), (28, .val (undef)), (29, .val (undef)), (30, .val (undef)), (31, .val (undef)), (32, .val (.bool false))]
      (fun W => OcSt w k ng fd r W) mixedOk (by kernel_rfl) (by kernel_rfl) (h1.below (Below.refl _ _).drew) (fun W W' h hb => h.below hb) ?_ ?_
    · refine gSt (gStep_run rfl ?_) ?_
      · intro ρ W hC hc hf hL
        have e3 : ρ (.tmp 3) = .pointer (some ⟨w.heap.size + 1, 0, none⟩) := hL 3 (by decide +kernel)
        simp [go_sem, hc, hf, e3]
        exact ⟨Below.refl _ _, rfl⟩
      refine gSt (gStep_run rfl ?_) ?_
      · intro ρ W hC hc hf hL
        have e20 : ρ (.tmp 20) = .pointer (some ⟨w.heap.size + 1, 1, none⟩) := hL 20 (by decide +kernel)
        have hl := hC.p1
        simp [go_sem, hc, hf, e20, hl]
        exact ⟨Below.refl _ _, rfl⟩
      refine gSt (gStep_run rfl ?_) ?_
      · intro ρ W hC hc hf hL
        have e2 : ρ (.tmp 2) = .pointer (some ⟨w.heap.size, 0, none⟩) := hL 2 (by decide +kernel)
        have g0 := hC.rk 0 (by decide)
        have g1 := hC.rk 1 (by decide)
        have g2 := hC.rk 2 (by decide)
        have g3 := hC.rk 3 (by decide)
        have g4 := hC.rk 4 (by decide)
        simp [go_sem, hc, hf, e2, g0, g1, g2, g3, g4]
        exact ⟨Below.refl _ _, rfl⟩
      refine gSt (gStep_run rfl ?_) ?_
      · intro ρ W hC hc hf hL
        have e22 : ρ (.tmp 22) = .agg #[.int .i64 (k 0), .int .i64 (k 1), .int .i64 (k 2), .int .i64 (k 3), .int .i64 (k 4)] := hL 22 (by decide +kernel)
        simp [go_sem, hc, hf, e22]
        refine (HON.out W).mono ?_
        rintro e w' ⟨rfl, hb⟩
        exact ⟨_, rfl, by first | exact hb | (subst hb; exact Below.refl _ _), rfl⟩
      refine gSt (gStep_run rfl ?_) ?_
      · intro ρ W hC hc hf hL
        have e21 : ρ (.tmp 21) = .int .i64 (fd : Nat) := hL 21 (by decide +kernel)
        have e23 : ρ (.tmp 23) = .int .i64 ((m : Nat) : Int) := hL 23 (by decide +kernel)
        have hl := HEQ.out
        simp [go_sem, hc, hf, e21, e23, hl]
        exact ⟨Below.refl _ _, rfl⟩
      refine gSt (gStep_run rfl (gRun_move 24 25 (.inl rfl) rfl (by decide +kernel) (fun v w h => h))) ?_
      refine gSt (gStep_off 5 25 true rfl rfl (by decide +kernel) (fun v w h => h) (fun w => rfl)) ?_
      refine gSt (gStep_off 5 25 true rfl rfl (by decide +kernel) (fun v w h => h) (fun w => rfl)) ?_
      refine gSt (gStep_off 5 25 true rfl rfl (by decide +kernel) (fun v w h => h) (fun w => rfl)) ?_
      refine gSt (gStep_off 5 25 true rfl rfl (by decide +kernel) (fun v w h => h) (fun w => rfl)) ?_
      refine gSt (gStep_off 5 25 true rfl rfl (by decide +kernel) (fun v w h => h) (fun w => rfl)) ?_
      refine gSt (gStep_off 5 25 true rfl rfl (by decide +kernel) (fun v w h => h) (fun w => rfl)) ?_
      refine gSt (gStep_run rfl (gRun_pickF 25 32 _ _ rfl rfl (by decide +kernel) (fun v w h => h) (fun w => rfl))) ?_
      exact gSt0
    · intro W hC
      refine gFi 20 rfl ?_
      rintro _ rfl
      refine gFi 21 rfl ?_
      rintro _ rfl
      refine gFi 22 rfl ?_
      rintro _ rfl
      refine gFi 23 rfl ?_
      rintro _ rfl
      refine gFi 24 rfl ?_
      rintro _ rfl
      refine gFi 25 rfl ?_
      rintro _ rfl
      refine gFi 26 rfl ?_
      rintro _ rfl
      refine gFi 27 rfl ?_
      rintro _ rfl
      refine gFi 28 rfl ?_
      rintro _ rfl
      refine gFi 29 rfl ?_
      rintro _ rfl
      refine gFi 30 rfl ?_
      rintro _ rfl
      refine gFi 31 rfl ?_
      rintro _ rfl
      refine gFi 32 rfl ?_
      rintro _ rfl
      refine gFi0 ?_
      simp only [List.drop_succ_cons, List.drop_zero, Act.put, List.setIfInBounds_toArray, List.set_cons_succ, List.set_cons_zero]
      have HC := hide hC
      clear hC h1
      go_upto_region 6 with fail
      refine wp_gen (fun W => OcSt w k ng fd r W) HC.out ?_
      clear HC
      rintro W1 h1
      refine wp_region_grow 5 [(34, .val (.pointer (some ⟨w.heap.size + 1, 1, none⟩))), (35, .val (.int .i64 (fd : Nat))), (36, .val (.agg #[.int .i64 (k 0), .int .i64 (k 1), .int .i64 (k 2), .int .i64 (k 3), .int .i64 (k 4)])), (37, .val (.int .i64 ((m : Nat) : Int))), (38, .val (.bool false))]
        (fun W => OcSt w k ng fd r W) mixedOk (by kernel_rfl) (by kernel_rfl) (h1.below (Below.refl _ _).drew) (fun W W' h hb => h.below hb) ?_ ?_
      · refine gSt (gStep_run rfl ?_) ?_
        · intro ρ W hC hc hf hL
          have e3 : ρ (.tmp 3) = .pointer (some ⟨w.heap.size + 1, 0, none⟩) := hL 3 (by decide +kernel)
          simp [go_sem, hc, hf, e3]
          exact ⟨Below.refl _ _, rfl⟩
        refine gSt (gStep_run rfl ?_) ?_
        · intro ρ W hC hc hf hL
          have e34 : ρ (.tmp 34) = .pointer (some ⟨w.heap.size + 1, 1, none⟩) := hL 34 (by decide +kernel)
          have hl := hC.p1
          simp [go_sem, hc, hf, e34, hl]
          exact ⟨Below.refl _ _, rfl⟩
        refine gSt (gStep_run rfl ?_) ?_
        · intro ρ W hC hc hf hL
          have e2 : ρ (.tmp 2) = .pointer (some ⟨w.heap.size, 0, none⟩) := hL 2 (by decide +kernel)
          have g0 := hC.rk 0 (by decide)
          have g1 := hC.rk 1 (by decide)
          have g2 := hC.rk 2 (by decide)
          have g3 := hC.rk 3 (by decide)
          have g4 := hC.rk 4 (by decide)
          simp [go_sem, hc, hf, e2, g0, g1, g2, g3, g4]
          exact ⟨Below.refl _ _, rfl⟩
        refine gSt (gStep_run rfl ?_) ?_
        · intro ρ W hC hc hf hL
          have e36 : ρ (.tmp 36) = .agg #[.int .i64 (k 0), .int .i64 (k 1), .int .i64 (k 2), .int .i64 (k 3), .int .i64 (k 4)] := hL 36 (by decide +kernel)
          simp [go_sem, hc, hf, e36]
          refine (HON.out W).mono ?_
          rintro e w' ⟨rfl, hb⟩
          exact ⟨_, rfl, by first | exact hb | (subst hb; exact Below.refl _ _), rfl⟩
        refine gSt (gStep_run rfl ?_) ?_
        · intro ρ W hC hc hf hL
          have e35 : ρ (.tmp 35) = .int .i64 (fd : Nat) := hL 35 (by decide +kernel)
          have e37 : ρ (.tmp 37) = .int .i64 ((m : Nat) : Int) := hL 37 (by decide +kernel)
          have hl := HEQ.out
          simp [go_sem, hc, hf, e35, e37, hl]
          exact ⟨Below.refl _ _, rfl⟩
        exact gSt0
      · intro W hC
        refine gFi 34 rfl ?_
        rintro _ rfl
        refine gFi 35 rfl ?_
        rintro _ rfl
        refine gFi 36 rfl ?_
        rintro _ rfl
        refine gFi 37 rfl ?_
        rintro _ rfl
        refine gFi 38 rfl ?_
        rintro _ rfl
        refine gFi0 ?_
        simp only [List.drop_succ_cons, List.drop_zero, Act.put, List.setIfInBounds_toArray, List.set_cons_succ, List.set_cons_zero]
        have HB := hide hC.bel
        have hl := hC.p1
        have hf := HF.out
        clear hC h1
        go_wp2
        go_ret
        exact ⟨rfl, HB.out⟩

set_option maxHeartbeats 2000000 in
theorem of1_sub (k : Nat → Int) (ng : Bool) (fd r m : Nat) (hr : r < QQ) (h0 : ¬ r = 0) (HF : Hid (((fd : Int) != 0) = false)) (HEQ : Hid (((fd : Int) == (m : Int)) = false))
    (HON : Hid (∀ w, Calls Tryd.prog 52 #[.agg #[.int .i64 (k 0), .int .i64 (k 1), .int .i64 (k 2), .int .i64 (k 3), .int .i64 (k 4)]] w fun e w' => e = .returned (.int .i64 ((m : Nat) : Int)) ∧ Below w.heap.size w w')) (w : World) :
    Calls Tryd.prog 51 #[.agg #[.int .i64 (k 0), .int .i64 (k 1), .int .i64 (k 2), .int .i64 (k 3), .int .i64 (k 4)], .agg #[.bool ng, .int .i64 ((fd : Nat)), .int .u64 (dgl r 0 : Nat), .int .u64 (dgl r 1 : Nat), .int .u64 (dgl r 2 : Nat), .int .u64 (dgl r 3 : Nat), .int .u64 (dgl r 4 : Nat), .int .u64 (dgl r 5 : Nat), .int .u64 (dgl r 6 : Nat), .int .u64 (dgl r 7 : Nat)]] w fun e w' => e = .returned (.int .i64 5) ∧ Below w.heap.size w w' := by
  have HST := hide (ocSt_start w k ng fd r)
  have hz := fun w => wide_eqz hr w
  rw [decide_eq_false h0] at hz
  clear hr h0
  go_enter Tryd.func51, Tryd.ntmps51
  go_upto_region 2 with fail
  refine wp_gen (fun W => OcSt w k ng fd r W) HST.out ?_
  clear HST hz
  rintro W1 h1
  refine wp_region_grow 8 [(11, .val (.pointer (some ⟨w.heap.size + 1, 1, none⟩))), (12, .val (.int .i64 (fd : Nat))), (13, .val (.agg #[.int .i64 (k 0), .int .i64 (k 1), .int .i64 (k 2), .int .i64 (k 3), .int .i64 (k 4)])), (14, .val (.int .i64 ((m : Nat) : Int))), (15, .val (.bool false)), (16, .val (.bool false)), (17, .val (undef)), (18, .val (.bool false))]
    (fun W => OcSt w k ng fd r W) mixedOk (by kernel_rfl) (by kernel_rfl) (h1.below (Below.refl _ _).drew) (fun W W' h hb => h.below hb) ?_ ?_
  · refine gSt (gStep_run rfl ?_) ?_
    · intro ρ W hC hc hf hL
      have e3 : ρ (.tmp 3) = .pointer (some ⟨w.heap.size + 1, 0, none⟩) := hL 3 (by decide +kernel)
      simp [go_sem, hc, hf, e3]
      exact ⟨Below.refl _ _, rfl⟩
    refine gSt (gStep_run rfl ?_) ?_
    · intro ρ W hC hc hf hL
      have e11 : ρ (.tmp 11) = .pointer (some ⟨w.heap.size + 1, 1, none⟩) := hL 11 (by decide +kernel)
      have hl := hC.p1
      simp [go_sem, hc, hf, e11, hl]
      exact ⟨Below.refl _ _, rfl⟩
    refine gSt (gStep_run rfl ?_) ?_
    · intro ρ W hC hc hf hL
      have e2 : ρ (.tmp 2) = .pointer (some ⟨w.heap.size, 0, none⟩) := hL 2 (by decide +kernel)
      have g0 := hC.rk 0 (by decide)
      have g1 := hC.rk 1 (by decide)
      have g2 := hC.rk 2 (by decide)
      have g3 := hC.rk 3 (by decide)
      have g4 := hC.rk 4 (by decide)
      simp [go_sem, hc, hf, e2, g0, g1, g2, g3, g4]
      exact ⟨Below.refl _ _, rfl⟩
    refine gSt (gStep_run rfl ?_) ?_
    · intro ρ W hC hc hf hL
      have e13 : ρ (.tmp 13) = .agg #[.int .i64 (k 0), .int .i64 (k 1), .int .i64 (k 2), .int .i64 (k 3), .int .i64 (k 4)] := hL 13 (by decide +kernel)
      simp [go_sem, hc, hf, e13]
      refine (HON.out W).mono ?_
      rintro e w' ⟨rfl, hb⟩
      exact ⟨_, rfl, by first | exact hb | (subst hb; exact Below.refl _ _), rfl⟩
    refine gSt (gStep_run rfl ?_) ?_
    · intro ρ W hC hc hf hL
      have e12 : ρ (.tmp 12) = .int .i64 (fd : Nat) := hL 12 (by decide +kernel)
      have e14 : ρ (.tmp 14) = .int .i64 ((m : Nat) : Int) := hL 14 (by decide +kernel)
      have hl := HEQ.out
      simp [go_sem, hc, hf, e12, e14, hl]
      exact ⟨Below.refl _ _, rfl⟩
    refine gSt (gStep_run rfl (gRun_move 15 16 (.inl rfl) rfl (by decide +kernel) (fun v w h => h))) ?_
    refine gSt (gStep_off 5 16 true rfl rfl (by decide +kernel) (fun v w h => h) (fun w => rfl)) ?_
    refine gSt (gStep_run rfl (gRun_pickF 16 18 _ _ rfl rfl (by decide +kernel) (fun v w h => h) (fun w => rfl))) ?_
    exact gSt0
  · intro W hC
    refine gFi 11 rfl ?_
    rintro _ rfl
    refine gFi 12 rfl ?_
    rintro _ rfl
    refine gFi 13 rfl ?_
    rintro _ rfl
    refine gFi 14 rfl ?_
    rintro _ rfl
    refine gFi 15 rfl ?_
    rintro _ rfl
    refine gFi 16 rfl ?_
    rintro _ rfl
    refine gFi 17 rfl ?_
    rintro _ rfl
    refine gFi 18 rfl ?_
    rintro _ rfl
    refine gFi0 ?_
    simp only [List.drop_succ_cons, List.drop_zero, Act.put, List.setIfInBounds_toArray, List.set_cons_succ, List.set_cons_zero]
    have HC := hide hC
    clear hC h1
    go_upto_region 4 with fail
    refine wp_gen (fun W => OcSt w k ng fd r W) HC.out ?_
    clear HC
    rintro W1 h1
    refine wp_region_grow 13 [(20, .val (.pointer (some ⟨w.heap.size + 1, 1, none⟩))), (21, .val (.int .i64 (fd : Nat))), (22, .val (.agg #[.int .i64 (k 0), .int .i64 (k 1), .int .i64 (k 2), .int .i64 (k 3), .int .i64 (k 4)])), (23, .val (.int .i64 ((m : Nat) : Int))), (24, .val (.bool false)), (25, .val (.bool false)), (26, .val (undef)), (27, .val (undef)), (28, .val (undef)), (29, .val (undef)), (30, .val (undef)), (31, .val (undef)), (32, .val (.bool false))]
      (fun W => OcSt w k ng fd r W) mixedOk (by kernel_rfl) (by kernel_rfl) (h1.below (Below.refl _ _).drew) (fun W W' h hb => h.below hb) ?_ ?_
    · refine gSt (gStep_run rfl ?_) ?_
      · intro ρ W hC hc hf hL
        have e3 : ρ (.tmp 3) = .pointer (some ⟨w.heap.size + 1, 0, none⟩) := hL 3 (by decide +kernel)
        simp [go_sem, hc, hf, e3]
        exact ⟨Below.refl _ _, rfl⟩
      refine gSt (gStep_run rfl ?_) ?_
      · intro ρ W hC hc hf hL
        have e20 : ρ (.tmp 20) = .pointer (some ⟨w.heap.size + 1, 1, none⟩) := hL 20 (by decide +kernel)
        have hl := hC.p1
        simp [go_sem, hc, hf, e20, hl]
        exact ⟨Below.refl _ _, rfl⟩
      refine gSt (gStep_run rfl ?_) ?_
      · intro ρ W hC hc hf hL
        have e2 : ρ (.tmp 2) = .pointer (some ⟨w.heap.size, 0, none⟩) := hL 2 (by decide +kernel)
        have g0 := hC.rk 0 (by decide)
        have g1 := hC.rk 1 (by decide)
        have g2 := hC.rk 2 (by decide)
        have g3 := hC.rk 3 (by decide)
        have g4 := hC.rk 4 (by decide)
        simp [go_sem, hc, hf, e2, g0, g1, g2, g3, g4]
        exact ⟨Below.refl _ _, rfl⟩
      refine gSt (gStep_run rfl ?_) ?_
      · intro ρ W hC hc hf hL
        have e22 : ρ (.tmp 22) = .agg #[.int .i64 (k 0), .int .i64 (k 1), .int .i64 (k 2), .int .i64 (k 3), .int .i64 (k 4)] := hL 22 (by decide +kernel)
        simp [go_sem, hc, hf, e22]
        refine (HON.out W).mono ?_
        rintro e w' ⟨rfl, hb⟩
        exact ⟨_, rfl, by first | exact hb | (subst hb; exact Below.refl _ _), rfl⟩
      refine gSt (gStep_run rfl ?_) ?_
      · intro ρ W hC hc hf hL
        have e21 : ρ (.tmp 21) = .int .i64 (fd : Nat) := hL 21 (by decide +kernel)
        have e23 : ρ (.tmp 23) = .int .i64 ((m : Nat) : Int) := hL 23 (by decide +kernel)
        have hl := HEQ.out
        simp [go_sem, hc, hf, e21, e23, hl]
        exact ⟨Below.refl _ _, rfl⟩
      refine gSt (gStep_run rfl (gRun_move 24 25 (.inl rfl) rfl (by decide +kernel) (fun v w h => h))) ?_
      refine gSt (gStep_off 5 25 true rfl rfl (by decide +kernel) (fun v w h => h) (fun w => rfl)) ?_
      refine gSt (gStep_off 5 25 true rfl rfl (by decide +kernel) (fun v w h => h) (fun w => rfl)) ?_
      refine gSt (gStep_off 5 25 true rfl rfl (by decide +kernel) (fun v w h => h) (fun w => rfl)) ?_
      refine gSt (gStep_off 5 25 true rfl rfl (by decide +kernel) (fun v w h => h) (fun w => rfl)) ?_
      refine gSt (gStep_off 5 25 true rfl rfl (by decide +kernel) (fun v w h => h) (fun w => rfl)) ?_
      refine gSt (gStep_off 5 25 true rfl rfl (by decide +kernel) (fun v w h => h) (fun w => rfl)) ?_
      refine gSt (gStep_run rfl (gRun_pickF 25 32 _ _ rfl rfl (by decide +kernel) (fun v w h => h) (fun w => rfl))) ?_
      exact gSt0
    · intro W hC
      refine gFi 20 rfl ?_
      rintro _ rfl
      refine gFi 21 rfl ?_
      rintro _ rfl
      refine gFi 22 rfl ?_
      rintro _ rfl
      refine gFi 23 rfl ?_
      rintro _ rfl
      refine gFi 24 rfl ?_
      rintro _ rfl
      refine gFi 25 rfl ?_
      rintro _ rfl
      refine gFi 26 rfl ?_
      rintro _ rfl
      refine gFi 27 rfl ?_
      rintro _ rfl
      refine gFi 28 rfl ?_
      rintro _ rfl
      refine gFi 29 rfl ?_
      rintro _ rfl
      refine gFi 30 rfl ?_
      rintro _ rfl
      refine gFi 31 rfl ?_
      rintro _ rfl
      refine gFi 32 rfl ?_
      rintro _ rfl
      refine gFi0 ?_
      simp only [List.drop_succ_cons, List.drop_zero, Act.put, List.setIfInBounds_toArray, List.set_cons_succ, List.set_cons_zero]
      have HC := hide hC
      clear hC h1
      go_upto_region 6 with fail
      refine wp_gen (fun W => OcSt w k ng fd r W) HC.out ?_
      clear HC
      rintro W1 h1
      refine wp_region_grow 5 [(34, .val (.pointer (some ⟨w.heap.size + 1, 1, none⟩))), (35, .val (.int .i64 (fd : Nat))), (36, .val (.agg #[.int .i64 (k 0), .int .i64 (k 1), .int .i64 (k 2), .int .i64 (k 3), .int .i64 (k 4)])), (37, .val (.int .i64 ((m : Nat) : Int))), (38, .val (.bool false))]
        (fun W => OcSt w k ng fd r W) mixedOk (by kernel_rfl) (by kernel_rfl) (h1.below (Below.refl _ _).drew) (fun W W' h hb => h.below hb) ?_ ?_
      · refine gSt (gStep_run rfl ?_) ?_
        · intro ρ W hC hc hf hL
          have e3 : ρ (.tmp 3) = .pointer (some ⟨w.heap.size + 1, 0, none⟩) := hL 3 (by decide +kernel)
          simp [go_sem, hc, hf, e3]
          exact ⟨Below.refl _ _, rfl⟩
        refine gSt (gStep_run rfl ?_) ?_
        · intro ρ W hC hc hf hL
          have e34 : ρ (.tmp 34) = .pointer (some ⟨w.heap.size + 1, 1, none⟩) := hL 34 (by decide +kernel)
          have hl := hC.p1
          simp [go_sem, hc, hf, e34, hl]
          exact ⟨Below.refl _ _, rfl⟩
        refine gSt (gStep_run rfl ?_) ?_
        · intro ρ W hC hc hf hL
          have e2 : ρ (.tmp 2) = .pointer (some ⟨w.heap.size, 0, none⟩) := hL 2 (by decide +kernel)
          have g0 := hC.rk 0 (by decide)
          have g1 := hC.rk 1 (by decide)
          have g2 := hC.rk 2 (by decide)
          have g3 := hC.rk 3 (by decide)
          have g4 := hC.rk 4 (by decide)
          simp [go_sem, hc, hf, e2, g0, g1, g2, g3, g4]
          exact ⟨Below.refl _ _, rfl⟩
        refine gSt (gStep_run rfl ?_) ?_
        · intro ρ W hC hc hf hL
          have e36 : ρ (.tmp 36) = .agg #[.int .i64 (k 0), .int .i64 (k 1), .int .i64 (k 2), .int .i64 (k 3), .int .i64 (k 4)] := hL 36 (by decide +kernel)
          simp [go_sem, hc, hf, e36]
          refine (HON.out W).mono ?_
          rintro e w' ⟨rfl, hb⟩
          exact ⟨_, rfl, by first | exact hb | (subst hb; exact Below.refl _ _), rfl⟩
        refine gSt (gStep_run rfl ?_) ?_
        · intro ρ W hC hc hf hL
          have e35 : ρ (.tmp 35) = .int .i64 (fd : Nat) := hL 35 (by decide +kernel)
          have e37 : ρ (.tmp 37) = .int .i64 ((m : Nat) : Int) := hL 37 (by decide +kernel)
          have hl := HEQ.out
          simp [go_sem, hc, hf, e35, e37, hl]
          exact ⟨Below.refl _ _, rfl⟩
        exact gSt0
      · intro W hC
        refine gFi 34 rfl ?_
        rintro _ rfl
        refine gFi 35 rfl ?_
        rintro _ rfl
        refine gFi 36 rfl ?_
        rintro _ rfl
        refine gFi 37 rfl ?_
        rintro _ rfl
        refine gFi 38 rfl ?_
        rintro _ rfl
        refine gFi0 ?_
        simp only [List.drop_succ_cons, List.drop_zero, Act.put, List.setIfInBounds_toArray, List.set_cons_succ, List.set_cons_zero]
        have HB := hide hC.bel
        have hl := hC.p1
        have hf := HF.out
        clear hC h1
        go_wp2
        go_ret
        exact ⟨rfl, HB.out⟩

set_option maxHeartbeats 2000000 in
theorem of1_zero (k : Nat → Int) (ng : Bool) (fd r m : Nat) (hr : r < QQ) (h0 : r = 0) (HF : Hid (((fd : Int) != 0) = false)) (HEQ : Hid (((fd : Int) == (m : Int)) = false))
    (HON : Hid (∀ w, Calls Tryd.prog 52 #[.agg #[.int .i64 (k 0), .int .i64 (k 1), .int .i64 (k 2), .int .i64 (k 3), .int .i64 (k 4)]] w fun e w' => e = .returned (.int .i64 ((m : Nat) : Int)) ∧ Below w.heap.size w w')) (w : World) :
    Calls Tryd.prog 51 #[.agg #[.int .i64 (k 0), .int .i64 (k 1), .int .i64 (k 2), .int .i64 (k 3), .int .i64 (k 4)], .agg #[.bool ng, .int .i64 ((fd : Nat)), .int .u64 (dgl r 0 : Nat), .int .u64 (dgl r 1 : Nat), .int .u64 (dgl r 2 : Nat), .int .u64 (dgl r 3 : Nat), .int .u64 (dgl r 4 : Nat), .int .u64 (dgl r 5 : Nat), .int .u64 (dgl r 6 : Nat), .int .u64 (dgl r 7 : Nat)]] w fun e w' => e = .returned (.int .i64 6) ∧ Below w.heap.size w w' := by
  have HST := hide (ocSt_start w k ng fd r)
  have hz := fun w => wide_eqz hr w
  rw [decide_eq_true h0] at hz
  clear hr h0
  go_enter Tryd.func51, Tryd.ntmps51
  go_upto_region 2 with fail
  refine wp_gen (fun W => OcSt w k ng fd r W) HST.out ?_
  clear HST hz
  rintro W1 h1
  refine wp_region_grow 8 [(11, .val (.pointer (some ⟨w.heap.size + 1, 1, none⟩))), (12, .val (.int .i64 (fd : Nat))), (13, .val (.agg #[.int .i64 (k 0), .int .i64 (k 1), .int .i64 (k 2), .int .i64 (k 3), .int .i64 (k 4)])), (14, .val (.int .i64 ((m : Nat) : Int))), (15, .val (.bool false)), (16, .val (.bool false)), (17, .val (undef)), (18, .val (.bool false))]
    (fun W => OcSt w k ng fd r W) mixedOk (by kernel_rfl) (by kernel_rfl) (h1.below (Below.refl _ _).drew) (fun W W' h hb => h.below hb) ?_ ?_
  · refine gSt (gStep_run rfl ?_) ?_
    · intro ρ W hC hc hf hL
      have e3 : ρ (.tmp 3) = .pointer (some ⟨w.heap.size + 1, 0, none⟩) := hL 3 (by decide +kernel)
      simp [go_sem, hc, hf, e3]
      exact ⟨Below.refl _ _, rfl⟩
    refine gSt (gStep_run rfl ?_) ?_
    · intro ρ W hC hc hf hL
      have e11 : ρ (.tmp 11) = .pointer (some ⟨w.heap.size + 1, 1, none⟩) := hL 11 (by decide +kernel)
      have hl := hC.p1
      simp [go_sem, hc, hf, e11, hl]
      exact ⟨Below.refl _ _, rfl⟩
    refine gSt (gStep_run rfl ?_) ?_
    · intro ρ W hC hc hf hL
      have e2 : ρ (.tmp 2) = .pointer (some ⟨w.heap.size, 0, none⟩) := hL 2 (by decide +kernel)
      have g0 := hC.rk 0 (by decide)
      have g1 := hC.rk 1 (by decide)
      have g2 := hC.rk 2 (by decide)
      have g3 := hC.rk 3 (by decide)
      have g4 := hC.rk 4 (by decide)
      simp [go_sem, hc, hf, e2, g0, g1, g2, g3, g4]
      exact ⟨Below.refl _ _, rfl⟩
    refine gSt (gStep_run rfl ?_) ?_
    · intro ρ W hC hc hf hL
      have e13 : ρ (.tmp 13) = .agg #[.int .i64 (k 0), .int .i64 (k 1), .int .i64 (k 2), .int .i64 (k 3), .int .i64 (k 4)] := hL 13 (by decide +kernel)
      simp [go_sem, hc, hf, e13]
      refine (HON.out W).mono ?_
      rintro e w' ⟨rfl, hb⟩
      exact ⟨_, rfl, by first | exact hb | (subst hb; exact Below.refl _ _), rfl⟩
    refine gSt (gStep_run rfl ?_) ?_
    · intro ρ W hC hc hf hL
      have e12 : ρ (.tmp 12) = .int .i64 (fd : Nat) := hL 12 (by decide +kernel)
      have e14 : ρ (.tmp 14) = .int .i64 ((m : Nat) : Int) := hL 14 (by decide +kernel)
      have hl := HEQ.out
      simp [go_sem, hc, hf, e12, e14, hl]
      exact ⟨Below.refl _ _, rfl⟩
    refine gSt (gStep_run rfl (gRun_move 15 16 (.inl rfl) rfl (by decide +kernel) (fun v w h => h))) ?_
    refine gSt (gStep_off 5 16 true rfl rfl (by decide +kernel) (fun v w h => h) (fun w => rfl)) ?_
    refine gSt (gStep_run rfl (gRun_pickF 16 18 _ _ rfl rfl (by decide +kernel) (fun v w h => h) (fun w => rfl))) ?_
    exact gSt0
  · intro W hC
    refine gFi 11 rfl ?_
    rintro _ rfl
    refine gFi 12 rfl ?_
    rintro _ rfl
    refine gFi 13 rfl ?_
    rintro _ rfl
    refine gFi 14 rfl ?_
    rintro _ rfl
    refine gFi 15 rfl ?_
    rintro _ rfl
    refine gFi 16 rfl ?_
    rintro _ rfl
    refine gFi 17 rfl ?_
    rintro _ rfl
    refine gFi 18 rfl ?_
    rintro _ rfl
    refine gFi0 ?_
    simp only [List.drop_succ_cons, List.drop_zero, Act.put, List.setIfInBounds_toArray, List.set_cons_succ, List.set_cons_zero]
    have HC := hide hC
    clear hC h1
    go_upto_region 4 with fail
    refine wp_gen (fun W => OcSt w k ng fd r W) HC.out ?_
    clear HC
    rintro W1 h1
    refine wp_region_grow 13 [(20, .val (.pointer (some ⟨w.heap.size + 1, 1, none⟩))), (21, .val (.int .i64 (fd : Nat))), (22, .val (.agg #[.int .i64 (k 0), .int .i64 (k 1), .int .i64 (k 2), .int .i64 (k 3), .int .i64 (k 4)])), (23, .val (.int .i64 ((m : Nat) : Int))), (24, .val (.bool false)), (25, .val (.bool false)), (26, .val (undef)), (27, .val (undef)), (28, .val (undef)), (29, .val (undef)), (30, .val (undef)), (31, .val (undef)), (32, .val (.bool false))]
      (fun W => OcSt w k ng fd r W) mixedOk (by kernel_rfl) (by kernel_rfl) (h1.below (Below.refl _ _).drew) (fun W W' h hb => h.below hb) ?_ ?_
    · refine gSt (gStep_run rfl ?_) ?_
      · intro ρ W hC hc hf hL
        have e3 : ρ (.tmp 3) = .pointer (some ⟨w.heap.size + 1, 0, none⟩) := hL 3 (by decide +kernel)
        simp [go_sem, hc, hf, e3]
        exact ⟨Below.refl _ _, rfl⟩
      refine gSt (gStep_run rfl ?_) ?_
      · intro ρ W hC hc hf hL
        have e20 : ρ (.tmp 20) = .pointer (some ⟨w.heap.size + 1, 1, none⟩) := hL 20 (by decide +kernel)
        have hl := hC.p1
        simp [go_sem, hc, hf, e20, hl]
        exact ⟨Below.refl _ _, rfl⟩
      refine gSt (gStep_run rfl ?_) ?_
      · intro ρ W hC hc hf hL
        have e2 : ρ (.tmp 2) = .pointer (some ⟨w.heap.size, 0, none⟩) := hL 2 (by decide +kernel)
        have g0 := hC.rk 0 (by decide)
        have g1 := hC.rk 1 (by decide)
        have g2 := hC.rk 2 (by decide)
        have g3 := hC.rk 3 (by decide)
        have g4 := hC.rk 4 (by decide)
        simp [go_sem, hc, hf, e2, g0, g1, g2, g3, g4]
        exact ⟨Below.refl _ _, rfl⟩
      refine gSt (gStep_run rfl ?_) ?_
      · intro ρ W hC hc hf hL
        have e22 : ρ (.tmp 22) = .agg #[.int .i64 (k 0), .int .i64 (k 1), .int .i64 (k 2), .int .i64 (k 3), .int .i64 (k 4)] := hL 22 (by decide +kernel)
        simp [go_sem, hc, hf, e22]
        refine (HON.out W).mono ?_
        rintro e w' ⟨rfl, hb⟩
        exact ⟨_, rfl, by first | exact hb | (subst hb; exact Below.refl _ _), rfl⟩
      refine gSt (gStep_run rfl ?_) ?_
      · intro ρ W hC hc hf hL
        have e21 : ρ (.tmp 21) = .int .i64 (fd : Nat) := hL 21 (by decide +kernel)
        have e23 : ρ (.tmp 23) = .int .i64 ((m : Nat) : Int) := hL 23 (by decide +kernel)
        have hl := HEQ.out
        simp [go_sem, hc, hf, e21, e23, hl]
        exact ⟨Below.refl _ _, rfl⟩
      refine gSt (gStep_run rfl (gRun_move 24 25 (.inl rfl) rfl (by decide +kernel) (fun v w h => h))) ?_
      refine gSt (gStep_off 5 25 true rfl rfl (by decide +kernel) (fun v w h => h) (fun w => rfl)) ?_
      refine gSt (gStep_off 5 25 true rfl rfl (by decide +kernel) (fun v w h => h) (fun w => rfl)) ?_
      refine gSt (gStep_off 5 25 true rfl rfl (by decide +kernel) (fun v w h => h) (fun w => rfl)) ?_
      refine gSt (gStep_off 5 25 true rfl rfl (by decide +kernel) (fun v w h => h) (fun w => rfl)) ?_
      refine gSt (gStep_off 5 25 true rfl rfl (by decide +kernel) (fun v w h => h) (fun w => rfl)) ?_
      refine gSt (gStep_off 5 25 true rfl rfl (by decide +kernel) (fun v w h => h) (fun w => rfl)) ?_
      refine gSt (gStep_run rfl (gRun_pickF 25 32 _ _ rfl rfl (by decide +kernel) (fun v w h => h) (fun w => rfl))) ?_
      exact gSt0
    · intro W hC
      refine gFi 20 rfl ?_
      rintro _ rfl
      refine gFi 21 rfl ?_
      rintro _ rfl
      refine gFi 22 rfl ?_
      rintro _ rfl
      refine gFi 23 rfl ?_
      rintro _ rfl
      refine gFi 24 rfl ?_
      rintro _ rfl
      refine gFi 25 rfl ?_
      rintro _ rfl
      refine gFi 26 rfl ?_
      rintro _ rfl
      refine gFi 27 rfl ?_
      rintro _ rfl
      refine gFi 28 rfl ?_
      rintro _ rfl
      refine gFi 29 rfl ?_
      rintro _ rfl
      refine gFi 30 rfl ?_
      rintro _ rfl
      refine gFi 31 rfl ?_
      rintro _ rfl
      refine gFi 32 rfl ?_
      rintro _ rfl
      refine gFi0 ?_
      simp only [List.drop_succ_cons, List.drop_zero, Act.put, List.setIfInBounds_toArray, List.set_cons_succ, List.set_cons_zero]
      have HC := hide hC
      clear hC h1
      go_upto_region 6 with fail
      refine wp_gen (fun W => OcSt w k ng fd r W) HC.out ?_
      clear HC
      rintro W1 h1
      refine wp_region_grow 5 [(34, .val (.pointer (some ⟨w.heap.size + 1, 1, none⟩))), (35, .val (.int .i64 (fd : Nat))), (36, .val (.agg #[.int .i64 (k 0), .int .i64 (k 1), .int .i64 (k 2), .int .i64 (k 3), .int .i64 (k 4)])), (37, .val (.int .i64 ((m : Nat) : Int))), (38, .val (.bool false))]
        (fun W => OcSt w k ng fd r W) mixedOk (by kernel_rfl) (by kernel_rfl) (h1.below (Below.refl _ _).drew) (fun W W' h hb => h.below hb) ?_ ?_
      · refine gSt (gStep_run rfl ?_) ?_
        · intro ρ W hC hc hf hL
          have e3 : ρ (.tmp 3) = .pointer (some ⟨w.heap.size + 1, 0, none⟩) := hL 3 (by decide +kernel)
          simp [go_sem, hc, hf, e3]
          exact ⟨Below.refl _ _, rfl⟩
        refine gSt (gStep_run rfl ?_) ?_
        · intro ρ W hC hc hf hL
          have e34 : ρ (.tmp 34) = .pointer (some ⟨w.heap.size + 1, 1, none⟩) := hL 34 (by decide +kernel)
          have hl := hC.p1
          simp [go_sem, hc, hf, e34, hl]
          exact ⟨Below.refl _ _, rfl⟩
        refine gSt (gStep_run rfl ?_) ?_
        · intro ρ W hC hc hf hL
          have e2 : ρ (.tmp 2) = .pointer (some ⟨w.heap.size, 0, none⟩) := hL 2 (by decide +kernel)
          have g0 := hC.rk 0 (by decide)
          have g1 := hC.rk 1 (by decide)
          have g2 := hC.rk 2 (by decide)
          have g3 := hC.rk 3 (by decide)
          have g4 := hC.rk 4 (by decide)
          simp [go_sem, hc, hf, e2, g0, g1, g2, g3, g4]
          exact ⟨Below.refl _ _, rfl⟩
        refine gSt (gStep_run rfl ?_) ?_
        · intro ρ W hC hc hf hL
          have e36 : ρ (.tmp 36) = .agg #[.int .i64 (k 0), .int .i64 (k 1), .int .i64 (k 2), .int .i64 (k 3), .int .i64 (k 4)] := hL 36 (by decide +kernel)
          simp [go_sem, hc, hf, e36]
          refine (HON.out W).mono ?_
          rintro e w' ⟨rfl, hb⟩
          exact ⟨_, rfl, by first | exact hb | (subst hb; exact Below.refl _ _), rfl⟩
        refine gSt (gStep_run rfl ?_) ?_
        · intro ρ W hC hc hf hL
          have e35 : ρ (.tmp 35) = .int .i64 (fd : Nat) := hL 35 (by decide +kernel)
          have e37 : ρ (.tmp 37) = .int .i64 ((m : Nat) : Int) := hL 37 (by decide +kernel)
          have hl := HEQ.out
          simp [go_sem, hc, hf, e35, e37, hl]
          exact ⟨Below.refl _ _, rfl⟩
        exact gSt0
      · intro W hC
        refine gFi 34 rfl ?_
        rintro _ rfl
        refine gFi 35 rfl ?_
        rintro _ rfl
        refine gFi 36 rfl ?_
        rintro _ rfl
        refine gFi 37 rfl ?_
        rintro _ rfl
        refine gFi 38 rfl ?_
        rintro _ rfl
        refine gFi0 ?_
        simp only [List.drop_succ_cons, List.drop_zero, Act.put, List.setIfInBounds_toArray, List.set_cons_succ, List.set_cons_zero]
        have HB := hide hC.bel
        have hl := hC.p1
        have hf := HF.out
        clear hC h1
        go_wp2
        go_ret
        exact ⟨rfl, HB.out⟩

end Go.Proofs.YtidfegilddlglaaDoor

