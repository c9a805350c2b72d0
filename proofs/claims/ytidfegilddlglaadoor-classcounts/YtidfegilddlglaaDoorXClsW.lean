/- Contracts and laws: ClassOfWalk. -/
import Derived.Test.YtidfegilddlglaaDoorXClsO
/- The walk of ClassOf. -/
set_option linter.unusedVariables false
set_option linter.unusedSimpArgs false
set_option maxRecDepth 8000
namespace Go.Proofs.YtidfegilddlglaaDoor
open Go.RowKit Plain

/-- A word that lies where the call has laid it, and the table of formats. -/
structure OwSt (a : Nat) (w W : World) : Prop where
  g : FmtG W
  h : W.cell? ⟨w.heap.size, 0, none⟩ = some (.int .u64 (dgl a 1 : Nat))
  l : W.cell? ⟨w.heap.size, 1, none⟩ = some (.int .u64 (dgl a 0 : Nat))
  lt : w.heap.size < W.heap.size
  bel : Below w.heap.size w W
theorem OwSt.below {a : Nat} {w W W' : World} (h : OwSt a w W) (hb : Below W.heap.size W W') : OwSt a w W' :=
  ⟨h.g.below hb, (hb.cell (p := ⟨w.heap.size, 0, none⟩) h.lt).trans h.h, (hb.cell (p := ⟨w.heap.size, 1, none⟩) h.lt).trans h.l, Nat.lt_of_lt_of_le h.lt hb.size, below_trans h.bel hb⟩
theorem owSt_start (a : Nat) (w : World) (hg : FmtG w) : OwSt a w (w.alloc (.cells #[.int .u64 (dgl (a) 1 : Nat), .int .u64 (dgl (a) 0 : Nat)] 24)) :=
  ⟨hg.below (below_allocs _ _), by simp [go_sem], by simp [go_sem], by simp, below_allocs _ _⟩

set_option maxHeartbeats 2000000 in
theorem classOf_zero (f : Int) (a : Nat) (ng : Bool)
    (HK : Hid (∀ w, Calls Tryd.prog 12 #[.int .i64 f, .agg #[.int .u64 (dgl (a) 1 : Nat), .int .u64 (dgl (a) 0 : Nat)]] w fun e w' => e = .returned (.int .i64 0) ∧ Below w.heap.size w w'))
    (HO : Hid (∀ w, FmtG w → Calls Tryd.prog 13 #[.int .i64 f, .agg #[.int .u64 (dgl (a) 1 : Nat), .int .u64 (dgl (a) 0 : Nat)]] w fun e w' => e = .returned (.int .i64 0) ∧ Below w.heap.size w w'))
    (HFN : Hid (∀ w, FmtG w → Calls Tryd.prog 14 #[.int .i64 f, .agg #[.int .u64 (dgl (a) 1 : Nat), .int .u64 (dgl (a) 0 : Nat)]] w fun e w' => e = .returned (.bool false) ∧ Below w.heap.size w w'))
    (HNA : Hid (∀ w, FmtG w → Calls Tryd.prog 15 #[.int .i64 f, .agg #[.int .u64 (dgl (a) 1 : Nat), .int .u64 (dgl (a) 0 : Nat)]] w fun e w' => e = .returned (.bool false) ∧ Below w.heap.size w w'))
    (HNG : Hid (∀ w, FmtG w → Calls Tryd.prog 16 #[.int .i64 f, .agg #[.int .u64 (dgl (a) 1 : Nat), .int .u64 (dgl (a) 0 : Nat)]] w fun e w' => e = .returned (.bool ng) ∧ Below w.heap.size w w'))
    (HRN : Hid (∀ w, Calls Tryd.prog 17 #[.int .i64 f, .agg #[.int .u64 (dgl (a) 1 : Nat), .int .u64 (dgl (a) 0 : Nat)]] w fun e w' => e = .returned (.bool ng) ∧ Below w.heap.size w w'))
    (HFD : Hid (∀ w, FmtG w → Calls Tryd.prog 18 #[.int .i64 f, .agg #[.int .u64 (dgl (a) 1 : Nat), .int .u64 (dgl (a) 0 : Nat)]] w fun e w' => e = .returned (.int .i64 0) ∧ Below w.heap.size w w'))
    (HFR : Hid (∀ w, FmtG w → Calls Tryd.prog 19 #[.int .i64 f, .agg #[.int .u64 (dgl (a) 1 : Nat), .int .u64 (dgl (a) 0 : Nat)]] w fun e w' => e = .returned (.agg #[.int .u64 0, .int .u64 0, .int .u64 0, .int .u64 0, .int .u64 0, .int .u64 0, .int .u64 0, .int .u64 0]) ∧ Below w.heap.size w w'))
    (HAB : Hid (∀ w, FmtG w → Calls Tryd.prog 20 #[.int .i64 f, .agg #[.int .u64 (dgl (a) 1 : Nat), .int .u64 (dgl (a) 0 : Nat)]] w fun e w' => e = .returned (.agg #[.int .u64 0, .int .u64 0]) ∧ Below w.heap.size w w'))
    (HFL : Hid (∀ w, FmtG w → Calls Tryd.prog 21 #[.int .i64 f, .agg #[.int .u64 (dgl (a) 1 : Nat), .int .u64 (dgl (a) 0 : Nat)]] w fun e w' => e = .returned (.agg #[.int .u64 0, .int .u64 0]) ∧ Below w.heap.size w w')) (w : World) (hg : FmtG w) :
    Calls Tryd.prog 3 #[.int .i64 f, .agg #[.int .u64 (dgl (a) 1 : Nat), .int .u64 (dgl (a) 0 : Nat)]] w fun e w' => e = .returned (.bool true) ∧ Below w.heap.size w w' := by
  have HS := hide (owSt_start a w hg)
  clear hg
  go_enter Tryd.func3, Tryd.ntmps3
  have l0 := HS.out.h
  have l1 := HS.out.l
  go_wp2_with fail
  refine (HK.out _).mono ?_
  rintro e w1 ⟨rfl, hb1⟩
  replace HS := hide (HS.out.below hb1)
  clear hb1 l0 l1 HK
  go_upto_region 2 with fail
  refine wp_gen (fun W => OwSt a w W) HS.out ?_
  clear HS
  rintro W1 h1
  refine wp_region_grow 34 [(9, .val (.int .i64 f)), (10, .val (.agg #[.int .u64 (dgl (a) 1 : Nat), .int .u64 (dgl (a) 0 : Nat)])), (11, .val (.int .i64 0)), (12, .val (.int .i64 0)), (13, .val (.bool false)), (14, .val (.bool false)), (15, .val (.int .i64 f)), (16, .val (.agg #[.int .u64 (dgl (a) 1 : Nat), .int .u64 (dgl (a) 0 : Nat)])), (17, .val (.bool false)), (18, .val (.int .i64 0)), (19, .val (.bool false)), (20, .val (.bool false)), (21, .val (.bool false)), (22, .val (.bool false)), (23, .val (.int .i64 f)), (24, .val (.agg #[.int .u64 (dgl (a) 1 : Nat), .int .u64 (dgl (a) 0 : Nat)])), (25, .val (.bool false)), (26, .val (.int .i64 0)), (27, .val (.bool false)), (28, .val (.bool false)), (29, .val (.int .i64 0)), (30, .val (.bool false)), (31, .val (.bool false)), (32, .val (.bool false)), (33, .val (.bool false)), (34, .val (.bool false)), (35, .val (.int .i64 f)), (36, .val (.agg #[.int .u64 (dgl (a) 1 : Nat), .int .u64 (dgl (a) 0 : Nat)])), (37, .val (.bool ng)), (38, .val (.int .i64 f)), (39, .val (.agg #[.int .u64 (dgl (a) 1 : Nat), .int .u64 (dgl (a) 0 : Nat)])), (40, .val (.bool ng)), (41, .val (.bool false)), (42, .val (.bool false))]
    (fun W => OwSt a w W) mixedOk (by kernel_rfl) (by kernel_rfl) (h1.below (Below.refl _ _).drew) (fun W W' h hb => h.below hb) ?_ ?_
  · refine gSt (gStep_run rfl (gRun_move 0 9 (.inl rfl) rfl (by decide +kernel) (fun v w h => h))) ?_
    refine gSt (gStep_run rfl ?_) ?_
    · intro ρ W hC hc hf hL
      have e3 : ρ (.tmp 3) = .pointer (some ⟨w.heap.size, 0, none⟩) := hL 3 (by decide +kernel)
      have l0 := hC.h
      have l1 := hC.l
      simp [go_sem, hc, hf, e3, l0, l1]
      exact ⟨Below.refl _ _, rfl⟩
    refine gSt (gStep_run rfl ?_) ?_
    · intro ρ W hC hc hf hL
      have e9 : ρ (.tmp 9) = .int .i64 f := hL 9 (by decide +kernel)
      have e10 : ρ (.tmp 10) = .agg #[.int .u64 (dgl (a) 1 : Nat), .int .u64 (dgl (a) 0 : Nat)] := hL 10 (by decide +kernel)
      simp [go_sem, hc, hf, e9, e10]
      refine (HO.out W hC.g).mono ?_
      rintro e w' ⟨rfl, hb⟩
      exact ⟨_, rfl, by first | exact hb | (subst hb; exact Below.refl _ _), rfl⟩
    refine gSt (gStep_run rfl (gRun_move 5 12 (.inl rfl) rfl (by decide +kernel) (fun v w h => h))) ?_
    refine gSt (gStep_run rfl ?_) ?_
    · intro ρ W hC hc hf hL
      have e11 : ρ (.tmp 11) = .int .i64 0 := hL 11 (by decide +kernel)
      have e12 : ρ (.tmp 12) = .int .i64 0 := hL 12 (by decide +kernel)
      simp [go_sem, hc, hf, e11, e12]
      exact ⟨Below.refl _ _, rfl⟩
    refine gSt (gStep_run rfl (gRun_move 13 14 (.inl rfl) rfl (by decide +kernel) (fun v w h => h))) ?_
    refine gSt (gStep_on 5 14 false rfl rfl (by decide +kernel) (fun v w h => h) (gRun_move 0 15 (.inl rfl) rfl (by decide +kernel) (fun v w h => h))) ?_
    refine gSt (gStep_on 5 14 false rfl rfl (by decide +kernel) (fun v w h => h) ?_) ?_
    · intro ρ W hC hc hf hL
      have e3 : ρ (.tmp 3) = .pointer (some ⟨w.heap.size, 0, none⟩) := hL 3 (by decide +kernel)
      have l0 := hC.h
      have l1 := hC.l
      simp [go_sem, hc, hf, e3, l0, l1]
      exact ⟨Below.refl _ _, rfl⟩
    refine gSt (gStep_on 5 14 false rfl rfl (by decide +kernel) (fun v w h => h) ?_) ?_
    · intro ρ W hC hc hf hL
      have e15 : ρ (.tmp 15) = .int .i64 f := hL 15 (by decide +kernel)
      have e16 : ρ (.tmp 16) = .agg #[.int .u64 (dgl (a) 1 : Nat), .int .u64 (dgl (a) 0 : Nat)] := hL 16 (by decide +kernel)
      simp [go_sem, hc, hf, e15, e16]
      refine (HFN.out W hC.g).mono ?_
      rintro e w' ⟨rfl, hb⟩
      exact ⟨_, rfl, by first | exact hb | (subst hb; exact Below.refl _ _), rfl⟩
    refine gSt (gStep_on 5 14 false rfl rfl (by decide +kernel) (fun v w h => h) (gRun_move 5 18 (.inl rfl) rfl (by decide +kernel) (fun v w h => h))) ?_
    refine gSt (gStep_on 5 14 false rfl rfl (by decide +kernel) (fun v w h => h) ?_) ?_
    · intro ρ W hC hc hf hL
      have e18 : ρ (.tmp 18) = .int .i64 0 := hL 18 (by decide +kernel)
      simp [go_sem, hc, hf, e18]
      exact ⟨Below.refl _ _, rfl⟩
    refine gSt (gStep_on 5 14 false rfl rfl (by decide +kernel) (fun v w h => h) ?_) ?_
    · intro ρ W hC hc hf hL
      have e17 : ρ (.tmp 17) = .bool false := hL 17 (by decide +kernel)
      have e19 : ρ (.tmp 19) = .bool false := hL 19 (by decide +kernel)
      simp [go_sem, hc, hf, e17, e19]
      exact ⟨Below.refl _ _, rfl⟩
    refine gSt (gStep_run rfl (gRun_pickCF 14 20 21 _ rfl rfl (by decide +kernel) (by decide +kernel) (fun v w h => h) (fun v w h => h))) ?_
    refine gSt (gStep_run rfl (gRun_move 21 22 (.inl rfl) rfl (by decide +kernel) (fun v w h => h))) ?_
    refine gSt (gStep_on 13 22 false rfl rfl (by decide +kernel) (fun v w h => h) (gRun_move 0 23 (.inl rfl) rfl (by decide +kernel) (fun v w h => h))) ?_
    refine gSt (gStep_on 13 22 false rfl rfl (by decide +kernel) (fun v w h => h) ?_) ?_
    · intro ρ W hC hc hf hL
      have e3 : ρ (.tmp 3) = .pointer (some ⟨w.heap.size, 0, none⟩) := hL 3 (by decide +kernel)
      have l0 := hC.h
      have l1 := hC.l
      simp [go_sem, hc, hf, e3, l0, l1]
      exact ⟨Below.refl _ _, rfl⟩
    refine gSt (gStep_on 13 22 false rfl rfl (by decide +kernel) (fun v w h => h) ?_) ?_
    · intro ρ W hC hc hf hL
      have e23 : ρ (.tmp 23) = .int .i64 f := hL 23 (by decide +kernel)
      have e24 : ρ (.tmp 24) = .agg #[.int .u64 (dgl (a) 1 : Nat), .int .u64 (dgl (a) 0 : Nat)] := hL 24 (by decide +kernel)
      simp [go_sem, hc, hf, e23, e24]
      refine (HNA.out W hC.g).mono ?_
      rintro e w' ⟨rfl, hb⟩
      exact ⟨_, rfl, by first | exact hb | (subst hb; exact Below.refl _ _), rfl⟩
    refine gSt (gStep_on 13 22 false rfl rfl (by decide +kernel) (fun v w h => h) (gRun_move 5 26 (.inl rfl) rfl (by decide +kernel) (fun v w h => h))) ?_
    refine gSt (gStep_on 13 22 false rfl rfl (by decide +kernel) (fun v w h => h) ?_) ?_
    · intro ρ W hC hc hf hL
      have e26 : ρ (.tmp 26) = .int .i64 0 := hL 26 (by decide +kernel)
      simp [go_sem, hc, hf, e26]
      exact ⟨Below.refl _ _, rfl⟩
    refine gSt (gStep_on 13 22 false rfl rfl (by decide +kernel) (fun v w h => h) (gRun_move 27 28 (.inl rfl) rfl (by decide +kernel) (fun v w h => h))) ?_
    refine gSt (gStep_on 19 28 false rfl rfl (by decide +kernel) (fun v w h => h) (gRun_move 5 29 (.inl rfl) rfl (by decide +kernel) (fun v w h => h))) ?_
    refine gSt (gStep_on 19 28 false rfl rfl (by decide +kernel) (fun v w h => h) ?_) ?_
    · intro ρ W hC hc hf hL
      have e29 : ρ (.tmp 29) = .int .i64 0 := hL 29 (by decide +kernel)
      simp [go_sem, hc, hf, e29]
      exact ⟨Below.refl _ _, rfl⟩
    refine gSt (gStep_on 13 22 false rfl rfl (by decide +kernel) (fun v w h => h) (gRun_pickCF 28 30 31 _ rfl rfl (by decide +kernel) (by decide +kernel) (fun v w h => h) (fun v w h => h))) ?_
    refine gSt (gStep_on 13 22 false rfl rfl (by decide +kernel) (fun v w h => h) ?_) ?_
    · intro ρ W hC hc hf hL
      have e25 : ρ (.tmp 25) = .bool false := hL 25 (by decide +kernel)
      have e31 : ρ (.tmp 31) = .bool false := hL 31 (by decide +kernel)
      simp [go_sem, hc, hf, e25, e31]
      exact ⟨Below.refl _ _, rfl⟩
    refine gSt (gStep_run rfl (gRun_pickCF 22 32 33 _ rfl rfl (by decide +kernel) (by decide +kernel) (fun v w h => h) (fun v w h => h))) ?_
    refine gSt (gStep_run rfl (gRun_move 33 34 (.inl rfl) rfl (by decide +kernel) (fun v w h => h))) ?_
    refine gSt (gStep_on 25 34 false rfl rfl (by decide +kernel) (fun v w h => h) (gRun_move 0 35 (.inl rfl) rfl (by decide +kernel) (fun v w h => h))) ?_
    refine gSt (gStep_on 25 34 false rfl rfl (by decide +kernel) (fun v w h => h) ?_) ?_
    · intro ρ W hC hc hf hL
      have e3 : ρ (.tmp 3) = .pointer (some ⟨w.heap.size, 0, none⟩) := hL 3 (by decide +kernel)
      have l0 := hC.h
      have l1 := hC.l
      simp [go_sem, hc, hf, e3, l0, l1]
      exact ⟨Below.refl _ _, rfl⟩
    refine gSt (gStep_on 25 34 false rfl rfl (by decide +kernel) (fun v w h => h) ?_) ?_
    · intro ρ W hC hc hf hL
      have e35 : ρ (.tmp 35) = .int .i64 f := hL 35 (by decide +kernel)
      have e36 : ρ (.tmp 36) = .agg #[.int .u64 (dgl (a) 1 : Nat), .int .u64 (dgl (a) 0 : Nat)] := hL 36 (by decide +kernel)
      simp [go_sem, hc, hf, e35, e36]
      refine (HNG.out W hC.g).mono ?_
      rintro e w' ⟨rfl, hb⟩
      exact ⟨_, rfl, by first | exact hb | (subst hb; exact Below.refl _ _), rfl⟩
    refine gSt (gStep_on 25 34 false rfl rfl (by decide +kernel) (fun v w h => h) (gRun_move 0 38 (.inl rfl) rfl (by decide +kernel) (fun v w h => h))) ?_
    refine gSt (gStep_on 25 34 false rfl rfl (by decide +kernel) (fun v w h => h) ?_) ?_
    · intro ρ W hC hc hf hL
      have e3 : ρ (.tmp 3) = .pointer (some ⟨w.heap.size, 0, none⟩) := hL 3 (by decide +kernel)
      have l0 := hC.h
      have l1 := hC.l
      simp [go_sem, hc, hf, e3, l0, l1]
      exact ⟨Below.refl _ _, rfl⟩
    refine gSt (gStep_on 25 34 false rfl rfl (by decide +kernel) (fun v w h => h) ?_) ?_
    · intro ρ W hC hc hf hL
      have e38 : ρ (.tmp 38) = .int .i64 f := hL 38 (by decide +kernel)
      have e39 : ρ (.tmp 39) = .agg #[.int .u64 (dgl (a) 1 : Nat), .int .u64 (dgl (a) 0 : Nat)] := hL 39 (by decide +kernel)
      simp [go_sem, hc, hf, e38, e39]
      refine (HRN.out W).mono ?_
      rintro e w' ⟨rfl, hb⟩
      exact ⟨_, rfl, by first | exact hb | (subst hb; exact Below.refl _ _), rfl⟩
    refine gSt (gStep_on 25 34 false rfl rfl (by decide +kernel) (fun v w h => h) ?_) ?_
    · intro ρ W hC hc hf hL
      have e37 : ρ (.tmp 37) = .bool ng := hL 37 (by decide +kernel)
      have e40 : ρ (.tmp 40) = .bool ng := hL 40 (by decide +kernel)
      simp [go_sem, hc, hf, e37, e40]
      exact ⟨Below.refl _ _, rfl⟩
    refine gSt (gStep_run rfl (gRun_pickCF 34 41 42 _ rfl rfl (by decide +kernel) (by decide +kernel) (fun v w h => h) (fun v w h => h))) ?_
    exact gSt0
  · intro W hC
    refine gFi 9 rfl ?_
    rintro _ rfl
    refine gFi 10 rfl ?_
    rintro _ rfl
    refine gFi 11 rfl ?_
    rintro _ rfl
    refine gFi 12 rfl ?_
    rintro _ rfl
    refine gFi 13 rfl ?_
    rintro _ rfl
    refine gFi 14 rfl ?_
    rintro _ rfl
    refine gFi 15 rfl ?_
    rintro _ rfl
    refine gFi 16 rfl ?_
    rintro _ rfl
    refine gFi 17 rfl ?_
    rintro _ rfl
    refine gFi 18 rfl ?_
    rintro _ rfl
    refine gFi 19 rfl ?_
    rintro _ rfl
    refine gFi 20 rfl ?_
    rintro _ rfl
    refine gFi 21 rfl ?_
    rintro _ rfl
    refine gFi 22 rfl ?_
    rintro _ rfl
    refine gFi 23 rfl ?_
    rintro _ rfl
    refine gFi 24 rfl ?_
    rintro _ rfl
    refine gFi 25 rfl ?_
    rintro _ rfl
    refine gFi 26 rfl ?_
    rintro _ rfl
    refine gFi 27 rfl ?_
    rintro _ rfl
    refine gFi 28 rfl ?_
    rintro _ rfl
    refine gFi 29 rfl ?_
    rintro _ rfl
    refine gFi 30 rfl ?_
    rintro _ rfl
    refine gFi 31 rfl ?_
    rintro _ rfl
    refine gFi 32 rfl ?_
    rintro _ rfl
    refine gFi 33 rfl ?_
    rintro _ rfl
    refine gFi 34 rfl ?_
    rintro _ rfl
    refine gFi 35 rfl ?_
    rintro _ rfl
    refine gFi 36 rfl ?_
    rintro _ rfl
    refine gFi 37 rfl ?_
    rintro _ rfl
    refine gFi 38 rfl ?_
    rintro _ rfl
    refine gFi 39 rfl ?_
    rintro _ rfl
    refine gFi 40 rfl ?_
    rintro _ rfl
    refine gFi 41 rfl ?_
    rintro _ rfl
    refine gFi 42 rfl ?_
    rintro _ rfl
    refine gFi0 ?_
    simp only [List.drop_succ_cons, List.drop_zero, Act.put, List.setIfInBounds_toArray, List.set_cons_succ, List.set_cons_zero]
    have HC := hide hC
    clear hC h1
    have hz8 : ∀ w, (Op.equalIn 10000 28 (.agg #[.int .u64 0, .int .u64 0, .int .u64 0, .int .u64 0, .int .u64 0, .int .u64 0, .int .u64 0, .int .u64 0]) (.agg #[.int .u64 0, .int .u64 0, .int .u64 0, .int .u64 0, .int .u64 0, .int .u64 0, .int .u64 0, .int .u64 0])).run Tryd.prog w = .ok true w := fun w => by simpa using wide_sameF (fun _ => 0) w
    have hz2 : ∀ w, (Op.equalIn 10000 24 (.agg #[.int .u64 0, .int .u64 0]) (.agg #[.int .u64 0, .int .u64 0])).run Tryd.prog w = .ok true w := fun w => by simpa using word_same 0 0 w
    have l0 := HC.out.h
    have l1 := HC.out.l
    go_wp2_with fail
    refine (HFD.out _ HC.out.g).mono ?_
    rintro e v0 ⟨rfl, hb⟩
    replace HC := hide (HC.out.below hb)
    clear hb l0 l1
    have l0 := HC.out.h
    have l1 := HC.out.l
    go_wp2_with fail
    refine (HFR.out _ HC.out.g).mono ?_
    rintro e v1 ⟨rfl, hb⟩
    replace HC := hide (HC.out.below hb)
    clear hb l0 l1
    have l0 := HC.out.h
    have l1 := HC.out.l
    go_wp2_with fail
    refine (HAB.out _ HC.out.g).mono ?_
    rintro e v2 ⟨rfl, hb⟩
    replace HC := hide (HC.out.below hb)
    clear hb l0 l1
    have l0 := HC.out.h
    have l1 := HC.out.l
    go_wp2_with fail
    refine (HFL.out _ HC.out.g).mono ?_
    rintro e v3 ⟨rfl, hb⟩
    replace HC := hide (HC.out.below hb)
    clear hb l0 l1
    go_wp2_with fail
    refine (awake6_any _ HC.out.g).mono ?_
    rintro e v4 ⟨rfl, hb⟩
    replace HC := hide (HC.out.below hb)
    clear hb
    have HB := hide HC.out.bel
    clear HC
    go_wp2
    go_ret
    exact ⟨rfl, HB.out⟩

set_option maxHeartbeats 2000000 in
theorem classOf_one (f : Int) (a fd fr ab fl : Nat) (ng : Bool)
    (HK : Hid (∀ w, Calls Tryd.prog 12 #[.int .i64 f, .agg #[.int .u64 (dgl (a) 1 : Nat), .int .u64 (dgl (a) 0 : Nat)]] w fun e w' => e = .returned (.int .i64 1) ∧ Below w.heap.size w w'))
    (HO : Hid (∀ w, FmtG w → Calls Tryd.prog 13 #[.int .i64 f, .agg #[.int .u64 (dgl (a) 1 : Nat), .int .u64 (dgl (a) 0 : Nat)]] w fun e w' => e = .returned (.int .i64 1) ∧ Below w.heap.size w w'))
    (HFN : Hid (∀ w, FmtG w → Calls Tryd.prog 14 #[.int .i64 f, .agg #[.int .u64 (dgl (a) 1 : Nat), .int .u64 (dgl (a) 0 : Nat)]] w fun e w' => e = .returned (.bool false) ∧ Below w.heap.size w w'))
    (HNA : Hid (∀ w, FmtG w → Calls Tryd.prog 15 #[.int .i64 f, .agg #[.int .u64 (dgl (a) 1 : Nat), .int .u64 (dgl (a) 0 : Nat)]] w fun e w' => e = .returned (.bool true) ∧ Below w.heap.size w w'))
    (HNG : Hid (∀ w, FmtG w → Calls Tryd.prog 16 #[.int .i64 f, .agg #[.int .u64 (dgl (a) 1 : Nat), .int .u64 (dgl (a) 0 : Nat)]] w fun e w' => e = .returned (.bool ng) ∧ Below w.heap.size w w'))
    (HRN : Hid (∀ w, Calls Tryd.prog 17 #[.int .i64 f, .agg #[.int .u64 (dgl (a) 1 : Nat), .int .u64 (dgl (a) 0 : Nat)]] w fun e w' => e = .returned (.bool ng) ∧ Below w.heap.size w w'))
    (HFD : Hid (∀ w, FmtG w → Calls Tryd.prog 18 #[.int .i64 f, .agg #[.int .u64 (dgl (a) 1 : Nat), .int .u64 (dgl (a) 0 : Nat)]] w fun e w' => e = .returned (.int .i64 (fd : Nat)) ∧ Below w.heap.size w w'))
    (HRD : Hid (∀ w, Calls Tryd.prog 23 #[.int .i64 f, .agg #[.int .u64 (dgl (a) 1 : Nat), .int .u64 (dgl (a) 0 : Nat)]] w fun e w' => e = .returned (.int .i64 (fd : Nat)) ∧ Below w.heap.size w w'))
    (HFR : Hid (∀ w, FmtG w → Calls Tryd.prog 19 #[.int .i64 f, .agg #[.int .u64 (dgl (a) 1 : Nat), .int .u64 (dgl (a) 0 : Nat)]] w fun e w' => e = .returned (.agg #[.int .u64 (dgl (fr) 0 : Nat), .int .u64 (dgl (fr) 1 : Nat), .int .u64 (dgl (fr) 2 : Nat), .int .u64 (dgl (fr) 3 : Nat), .int .u64 (dgl (fr) 4 : Nat), .int .u64 (dgl (fr) 5 : Nat), .int .u64 (dgl (fr) 6 : Nat), .int .u64 (dgl (fr) 7 : Nat)]) ∧ Below w.heap.size w w'))
    (HRR : Hid (∀ w, Calls Tryd.prog 24 #[.int .i64 f, .agg #[.int .u64 (dgl (a) 1 : Nat), .int .u64 (dgl (a) 0 : Nat)]] w fun e w' => e = .returned (.agg #[.int .u64 (dgl (fr) 0 : Nat), .int .u64 (dgl (fr) 1 : Nat), .int .u64 (dgl (fr) 2 : Nat), .int .u64 (dgl (fr) 3 : Nat), .int .u64 (dgl (fr) 4 : Nat), .int .u64 (dgl (fr) 5 : Nat), .int .u64 (dgl (fr) 6 : Nat), .int .u64 (dgl (fr) 7 : Nat)]) ∧ Below w.heap.size w w'))
    (HAB : Hid (∀ w, FmtG w → Calls Tryd.prog 20 #[.int .i64 f, .agg #[.int .u64 (dgl (a) 1 : Nat), .int .u64 (dgl (a) 0 : Nat)]] w fun e w' => e = .returned (.agg #[.int .u64 (dgl (ab) 1 : Nat), .int .u64 (dgl (ab) 0 : Nat)]) ∧ Below w.heap.size w w'))
    (HSA : Hid (∀ w, Calls Tryd.prog 25 #[.int .i64 f, .agg #[.int .u64 (dgl (a) 1 : Nat), .int .u64 (dgl (a) 0 : Nat)], .bool false] w fun e w' => e = .returned (.agg #[.int .u64 (dgl (ab) 1 : Nat), .int .u64 (dgl (ab) 0 : Nat)]) ∧ Below w.heap.size w w'))
    (HFL : Hid (∀ w, FmtG w → Calls Tryd.prog 21 #[.int .i64 f, .agg #[.int .u64 (dgl (a) 1 : Nat), .int .u64 (dgl (a) 0 : Nat)]] w fun e w' => e = .returned (.agg #[.int .u64 (dgl (fl) 1 : Nat), .int .u64 (dgl (fl) 0 : Nat)]) ∧ Below w.heap.size w w'))
    (HSF : Hid (∀ w, Calls Tryd.prog 25 #[.int .i64 f, .agg #[.int .u64 (dgl (a) 1 : Nat), .int .u64 (dgl (a) 0 : Nat)], .bool (!ng)] w fun e w' => e = .returned (.agg #[.int .u64 (dgl (fl) 1 : Nat), .int .u64 (dgl (fl) 0 : Nat)]) ∧ Below w.heap.size w w')) (w : World) (hg : FmtG w) :
    Calls Tryd.prog 3 #[.int .i64 f, .agg #[.int .u64 (dgl (a) 1 : Nat), .int .u64 (dgl (a) 0 : Nat)]] w fun e w' => e = .returned (.bool true) ∧ Below w.heap.size w w' := by
  have HS := hide (owSt_start a w hg)
  clear hg
  go_enter Tryd.func3, Tryd.ntmps3
  have l0 := HS.out.h
  have l1 := HS.out.l
  go_wp2_with fail
  refine (HK.out _).mono ?_
  rintro e w1 ⟨rfl, hb1⟩
  replace HS := hide (HS.out.below hb1)
  clear hb1 l0 l1 HK
  go_upto_region 2 with fail
  refine wp_gen (fun W => OwSt a w W) HS.out ?_
  clear HS
  rintro W1 h1
  refine wp_region_grow 34 [(9, .val (.int .i64 f)), (10, .val (.agg #[.int .u64 (dgl (a) 1 : Nat), .int .u64 (dgl (a) 0 : Nat)])), (11, .val (.int .i64 1)), (12, .val (.int .i64 1)), (13, .val (.bool false)), (14, .val (.bool false)), (15, .val (.int .i64 f)), (16, .val (.agg #[.int .u64 (dgl (a) 1 : Nat), .int .u64 (dgl (a) 0 : Nat)])), (17, .val (.bool false)), (18, .val (.int .i64 1)), (19, .val (.bool false)), (20, .val (.bool false)), (21, .val (.bool false)), (22, .val (.bool false)), (23, .val (.int .i64 f)), (24, .val (.agg #[.int .u64 (dgl (a) 1 : Nat), .int .u64 (dgl (a) 0 : Nat)])), (25, .val (.bool true)), (26, .val (.int .i64 1)), (27, .val (.bool true)), (28, .val (.bool true)), (29, .val (undef)), (30, .val (undef)), (31, .val (.bool true)), (32, .val (.bool false)), (33, .val (.bool false)), (34, .val (.bool false)), (35, .val (.int .i64 f)), (36, .val (.agg #[.int .u64 (dgl (a) 1 : Nat), .int .u64 (dgl (a) 0 : Nat)])), (37, .val (.bool ng)), (38, .val (.int .i64 f)), (39, .val (.agg #[.int .u64 (dgl (a) 1 : Nat), .int .u64 (dgl (a) 0 : Nat)])), (40, .val (.bool ng)), (41, .val (.bool false)), (42, .val (.bool false))]
    (fun W => OwSt a w W) mixedOk (by kernel_rfl) (by kernel_rfl) (h1.below (Below.refl _ _).drew) (fun W W' h hb => h.below hb) ?_ ?_
  · refine gSt (gStep_run rfl (gRun_move 0 9 (.inl rfl) rfl (by decide +kernel) (fun v w h => h))) ?_
    refine gSt (gStep_run rfl ?_) ?_
    · intro ρ W hC hc hf hL
      have e3 : ρ (.tmp 3) = .pointer (some ⟨w.heap.size, 0, none⟩) := hL 3 (by decide +kernel)
      have l0 := hC.h
      have l1 := hC.l
      simp [go_sem, hc, hf, e3, l0, l1]
      exact ⟨Below.refl _ _, rfl⟩
    refine gSt (gStep_run rfl ?_) ?_
    · intro ρ W hC hc hf hL
      have e9 : ρ (.tmp 9) = .int .i64 f := hL 9 (by decide +kernel)
      have e10 : ρ (.tmp 10) = .agg #[.int .u64 (dgl (a) 1 : Nat), .int .u64 (dgl (a) 0 : Nat)] := hL 10 (by decide +kernel)
      simp [go_sem, hc, hf, e9, e10]
      refine (HO.out W hC.g).mono ?_
      rintro e w' ⟨rfl, hb⟩
      exact ⟨_, rfl, by first | exact hb | (subst hb; exact Below.refl _ _), rfl⟩
    refine gSt (gStep_run rfl (gRun_move 5 12 (.inl rfl) rfl (by decide +kernel) (fun v w h => h))) ?_
    refine gSt (gStep_run rfl ?_) ?_
    · intro ρ W hC hc hf hL
      have e11 : ρ (.tmp 11) = .int .i64 1 := hL 11 (by decide +kernel)
      have e12 : ρ (.tmp 12) = .int .i64 1 := hL 12 (by decide +kernel)
      simp [go_sem, hc, hf, e11, e12]
      exact ⟨Below.refl _ _, rfl⟩
    refine gSt (gStep_run rfl (gRun_move 13 14 (.inl rfl) rfl (by decide +kernel) (fun v w h => h))) ?_
    refine gSt (gStep_on 5 14 false rfl rfl (by decide +kernel) (fun v w h => h) (gRun_move 0 15 (.inl rfl) rfl (by decide +kernel) (fun v w h => h))) ?_
    refine gSt (gStep_on 5 14 false rfl rfl (by decide +kernel) (fun v w h => h) ?_) ?_
    · intro ρ W hC hc hf hL
      have e3 : ρ (.tmp 3) = .pointer (some ⟨w.heap.size, 0, none⟩) := hL 3 (by decide +kernel)
      have l0 := hC.h
      have l1 := hC.l
      simp [go_sem, hc, hf, e3, l0, l1]
      exact ⟨Below.refl _ _, rfl⟩
    refine gSt (gStep_on 5 14 false rfl rfl (by decide +kernel) (fun v w h => h) ?_) ?_
    · intro ρ W hC hc hf hL
      have e15 : ρ (.tmp 15) = .int .i64 f := hL 15 (by decide +kernel)
      have e16 : ρ (.tmp 16) = .agg #[.int .u64 (dgl (a) 1 : Nat), .int .u64 (dgl (a) 0 : Nat)] := hL 16 (by decide +kernel)
      simp [go_sem, hc, hf, e15, e16]
      refine (HFN.out W hC.g).mono ?_
      rintro e w' ⟨rfl, hb⟩
      exact ⟨_, rfl, by first | exact hb | (subst hb; exact Below.refl _ _), rfl⟩
    refine gSt (gStep_on 5 14 false rfl rfl (by decide +kernel) (fun v w h => h) (gRun_move 5 18 (.inl rfl) rfl (by decide +kernel) (fun v w h => h))) ?_
    refine gSt (gStep_on 5 14 false rfl rfl (by decide +kernel) (fun v w h => h) ?_) ?_
    · intro ρ W hC hc hf hL
      have e18 : ρ (.tmp 18) = .int .i64 1 := hL 18 (by decide +kernel)
      simp [go_sem, hc, hf, e18]
      exact ⟨Below.refl _ _, rfl⟩
    refine gSt (gStep_on 5 14 false rfl rfl (by decide +kernel) (fun v w h => h) ?_) ?_
    · intro ρ W hC hc hf hL
      have e17 : ρ (.tmp 17) = .bool false := hL 17 (by decide +kernel)
      have e19 : ρ (.tmp 19) = .bool false := hL 19 (by decide +kernel)
      simp [go_sem, hc, hf, e17, e19]
      exact ⟨Below.refl _ _, rfl⟩
    refine gSt (gStep_run rfl (gRun_pickCF 14 20 21 _ rfl rfl (by decide +kernel) (by decide +kernel) (fun v w h => h) (fun v w h => h))) ?_
    refine gSt (gStep_run rfl (gRun_move 21 22 (.inl rfl) rfl (by decide +kernel) (fun v w h => h))) ?_
    refine gSt (gStep_on 13 22 false rfl rfl (by decide +kernel) (fun v w h => h) (gRun_move 0 23 (.inl rfl) rfl (by decide +kernel) (fun v w h => h))) ?_
    refine gSt (gStep_on 13 22 false rfl rfl (by decide +kernel) (fun v w h => h) ?_) ?_
    · intro ρ W hC hc hf hL
      have e3 : ρ (.tmp 3) = .pointer (some ⟨w.heap.size, 0, none⟩) := hL 3 (by decide +kernel)
      have l0 := hC.h
      have l1 := hC.l
      simp [go_sem, hc, hf, e3, l0, l1]
      exact ⟨Below.refl _ _, rfl⟩
    refine gSt (gStep_on 13 22 false rfl rfl (by decide +kernel) (fun v w h => h) ?_) ?_
    · intro ρ W hC hc hf hL
      have e23 : ρ (.tmp 23) = .int .i64 f := hL 23 (by decide +kernel)
      have e24 : ρ (.tmp 24) = .agg #[.int .u64 (dgl (a) 1 : Nat), .int .u64 (dgl (a) 0 : Nat)] := hL 24 (by decide +kernel)
      simp [go_sem, hc, hf, e23, e24]
      refine (HNA.out W hC.g).mono ?_
      rintro e w' ⟨rfl, hb⟩
      exact ⟨_, rfl, by first | exact hb | (subst hb; exact Below.refl _ _), rfl⟩
    refine gSt (gStep_on 13 22 false rfl rfl (by decide +kernel) (fun v w h => h) (gRun_move 5 26 (.inl rfl) rfl (by decide +kernel) (fun v w h => h))) ?_
    refine gSt (gStep_on 13 22 false rfl rfl (by decide +kernel) (fun v w h => h) ?_) ?_
    · intro ρ W hC hc hf hL
      have e26 : ρ (.tmp 26) = .int .i64 1 := hL 26 (by decide +kernel)
      simp [go_sem, hc, hf, e26]
      exact ⟨Below.refl _ _, rfl⟩
    refine gSt (gStep_on 13 22 false rfl rfl (by decide +kernel) (fun v w h => h) (gRun_move 27 28 (.inl rfl) rfl (by decide +kernel) (fun v w h => h))) ?_
    refine gSt (gStep_off 19 28 false rfl rfl (by decide +kernel) (fun v w h => h) (fun w => rfl)) ?_
    refine gSt (gStep_off 19 28 false rfl rfl (by decide +kernel) (fun v w h => h) (fun w => rfl)) ?_
    refine gSt (gStep_on 13 22 false rfl rfl (by decide +kernel) (fun v w h => h) (gRun_pickCT 28 31 _ _ rfl rfl (by decide +kernel) (fun v w h => h) (fun w => rfl))) ?_
    refine gSt (gStep_on 13 22 false rfl rfl (by decide +kernel) (fun v w h => h) ?_) ?_
    · intro ρ W hC hc hf hL
      have e25 : ρ (.tmp 25) = .bool true := hL 25 (by decide +kernel)
      have e31 : ρ (.tmp 31) = .bool true := hL 31 (by decide +kernel)
      simp [go_sem, hc, hf, e25, e31]
      exact ⟨Below.refl _ _, rfl⟩
    refine gSt (gStep_run rfl (gRun_pickCF 22 32 33 _ rfl rfl (by decide +kernel) (by decide +kernel) (fun v w h => h) (fun v w h => h))) ?_
    refine gSt (gStep_run rfl (gRun_move 33 34 (.inl rfl) rfl (by decide +kernel) (fun v w h => h))) ?_
    refine gSt (gStep_on 25 34 false rfl rfl (by decide +kernel) (fun v w h => h) (gRun_move 0 35 (.inl rfl) rfl (by decide +kernel) (fun v w h => h))) ?_
    refine gSt (gStep_on 25 34 false rfl rfl (by decide +kernel) (fun v w h => h) ?_) ?_
    · intro ρ W hC hc hf hL
      have e3 : ρ (.tmp 3) = .pointer (some ⟨w.heap.size, 0, none⟩) := hL 3 (by decide +kernel)
      have l0 := hC.h
      have l1 := hC.l
      simp [go_sem, hc, hf, e3, l0, l1]
      exact ⟨Below.refl _ _, rfl⟩
    refine gSt (gStep_on 25 34 false rfl rfl (by decide +kernel) (fun v w h => h) ?_) ?_
    · intro ρ W hC hc hf hL
      have e35 : ρ (.tmp 35) = .int .i64 f := hL 35 (by decide +kernel)
      have e36 : ρ (.tmp 36) = .agg #[.int .u64 (dgl (a) 1 : Nat), .int .u64 (dgl (a) 0 : Nat)] := hL 36 (by decide +kernel)
      simp [go_sem, hc, hf, e35, e36]
      refine (HNG.out W hC.g).mono ?_
      rintro e w' ⟨rfl, hb⟩
      exact ⟨_, rfl, by first | exact hb | (subst hb; exact Below.refl _ _), rfl⟩
    refine gSt (gStep_on 25 34 false rfl rfl (by decide +kernel) (fun v w h => h) (gRun_move 0 38 (.inl rfl) rfl (by decide +kernel) (fun v w h => h))) ?_
    refine gSt (gStep_on 25 34 false rfl rfl (by decide +kernel) (fun v w h => h) ?_) ?_
    · intro ρ W hC hc hf hL
      have e3 : ρ (.tmp 3) = .pointer (some ⟨w.heap.size, 0, none⟩) := hL 3 (by decide +kernel)
      have l0 := hC.h
      have l1 := hC.l
      simp [go_sem, hc, hf, e3, l0, l1]
      exact ⟨Below.refl _ _, rfl⟩
    refine gSt (gStep_on 25 34 false rfl rfl (by decide +kernel) (fun v w h => h) ?_) ?_
    · intro ρ W hC hc hf hL
      have e38 : ρ (.tmp 38) = .int .i64 f := hL 38 (by decide +kernel)
      have e39 : ρ (.tmp 39) = .agg #[.int .u64 (dgl (a) 1 : Nat), .int .u64 (dgl (a) 0 : Nat)] := hL 39 (by decide +kernel)
      simp [go_sem, hc, hf, e38, e39]
      refine (HRN.out W).mono ?_
      rintro e w' ⟨rfl, hb⟩
      exact ⟨_, rfl, by first | exact hb | (subst hb; exact Below.refl _ _), rfl⟩
    refine gSt (gStep_on 25 34 false rfl rfl (by decide +kernel) (fun v w h => h) ?_) ?_
    · intro ρ W hC hc hf hL
      have e37 : ρ (.tmp 37) = .bool ng := hL 37 (by decide +kernel)
      have e40 : ρ (.tmp 40) = .bool ng := hL 40 (by decide +kernel)
      simp [go_sem, hc, hf, e37, e40]
      exact ⟨Below.refl _ _, rfl⟩
    refine gSt (gStep_run rfl (gRun_pickCF 34 41 42 _ rfl rfl (by decide +kernel) (by decide +kernel) (fun v w h => h) (fun v w h => h))) ?_
    exact gSt0
  · intro W hC
    refine gFi 9 rfl ?_
    rintro _ rfl
    refine gFi 10 rfl ?_
    rintro _ rfl
    refine gFi 11 rfl ?_
    rintro _ rfl
    refine gFi 12 rfl ?_
    rintro _ rfl
    refine gFi 13 rfl ?_
    rintro _ rfl
    refine gFi 14 rfl ?_
    rintro _ rfl
    refine gFi 15 rfl ?_
    rintro _ rfl
    refine gFi 16 rfl ?_
    rintro _ rfl
    refine gFi 17 rfl ?_
    rintro _ rfl
    refine gFi 18 rfl ?_
    rintro _ rfl
    refine gFi 19 rfl ?_
    rintro _ rfl
    refine gFi 20 rfl ?_
    rintro _ rfl
    refine gFi 21 rfl ?_
    rintro _ rfl
    refine gFi 22 rfl ?_
    rintro _ rfl
    refine gFi 23 rfl ?_
    rintro _ rfl
    refine gFi 24 rfl ?_
    rintro _ rfl
    refine gFi 25 rfl ?_
    rintro _ rfl
    refine gFi 26 rfl ?_
    rintro _ rfl
    refine gFi 27 rfl ?_
    rintro _ rfl
    refine gFi 28 rfl ?_
    rintro _ rfl
    refine gFi 29 rfl ?_
    rintro _ rfl
    refine gFi 30 rfl ?_
    rintro _ rfl
    refine gFi 31 rfl ?_
    rintro _ rfl
    refine gFi 32 rfl ?_
    rintro _ rfl
    refine gFi 33 rfl ?_
    rintro _ rfl
    refine gFi 34 rfl ?_
    rintro _ rfl
    refine gFi 35 rfl ?_
    rintro _ rfl
    refine gFi 36 rfl ?_
    rintro _ rfl
    refine gFi 37 rfl ?_
    rintro _ rfl
    refine gFi 38 rfl ?_
    rintro _ rfl
    refine gFi 39 rfl ?_
    rintro _ rfl
    refine gFi 40 rfl ?_
    rintro _ rfl
    refine gFi 41 rfl ?_
    rintro _ rfl
    refine gFi 42 rfl ?_
    rintro _ rfl
    refine gFi0 ?_
    simp only [List.drop_succ_cons, List.drop_zero, Act.put, List.setIfInBounds_toArray, List.set_cons_succ, List.set_cons_zero]
    have HC := hide hC
    clear hC h1
    go_upto_region 6 with fail
    refine wp_gen (fun W => OwSt a w W) HC.out ?_
    clear HC
    rintro W2 h1
    refine wp_region_grow 41 [(73, .val (.int .i64 f)), (74, .val (.agg #[.int .u64 (dgl (a) 1 : Nat), .int .u64 (dgl (a) 0 : Nat)])), (75, .val (.int .i64 (fd : Nat))), (76, .val (.int .i64 f)), (77, .val (.agg #[.int .u64 (dgl (a) 1 : Nat), .int .u64 (dgl (a) 0 : Nat)])), (78, .val (.int .i64 (fd : Nat))), (79, .val (.bool true)), (80, .val (.bool true)), (81, .val (.int .i64 f)), (82, .val (.agg #[.int .u64 (dgl (a) 1 : Nat), .int .u64 (dgl (a) 0 : Nat)])), (83, .val (.agg #[.int .u64 (dgl (fr) 0 : Nat), .int .u64 (dgl (fr) 1 : Nat), .int .u64 (dgl (fr) 2 : Nat), .int .u64 (dgl (fr) 3 : Nat), .int .u64 (dgl (fr) 4 : Nat), .int .u64 (dgl (fr) 5 : Nat), .int .u64 (dgl (fr) 6 : Nat), .int .u64 (dgl (fr) 7 : Nat)])), (84, .val (.int .i64 f)), (85, .val (.agg #[.int .u64 (dgl (a) 1 : Nat), .int .u64 (dgl (a) 0 : Nat)])), (86, .val (.agg #[.int .u64 (dgl (fr) 0 : Nat), .int .u64 (dgl (fr) 1 : Nat), .int .u64 (dgl (fr) 2 : Nat), .int .u64 (dgl (fr) 3 : Nat), .int .u64 (dgl (fr) 4 : Nat), .int .u64 (dgl (fr) 5 : Nat), .int .u64 (dgl (fr) 6 : Nat), .int .u64 (dgl (fr) 7 : Nat)])), (87, .val (.bool true)), (88, .val (.bool true)), (89, .val (.bool true)), (90, .val (.int .i64 f)), (91, .val (.agg #[.int .u64 (dgl (a) 1 : Nat), .int .u64 (dgl (a) 0 : Nat)])), (92, .val (.agg #[.int .u64 (dgl (ab) 1 : Nat), .int .u64 (dgl (ab) 0 : Nat)])), (93, .val (.int .i64 f)), (94, .val (.agg #[.int .u64 (dgl (a) 1 : Nat), .int .u64 (dgl (a) 0 : Nat)])), (95, .val (.agg #[.int .u64 (dgl (ab) 1 : Nat), .int .u64 (dgl (ab) 0 : Nat)])), (96, .val (.bool true)), (97, .val (.bool true)), (98, .val (.bool true)), (99, .val (.int .i64 f)), (100, .val (.agg #[.int .u64 (dgl (a) 1 : Nat), .int .u64 (dgl (a) 0 : Nat)])), (101, .val (.agg #[.int .u64 (dgl (fl) 1 : Nat), .int .u64 (dgl (fl) 0 : Nat)])), (102, .val (.int .i64 f)), (103, .val (.agg #[.int .u64 (dgl (a) 1 : Nat), .int .u64 (dgl (a) 0 : Nat)])), (104, .val (.int .i64 f)), (105, .val (.agg #[.int .u64 (dgl (a) 1 : Nat), .int .u64 (dgl (a) 0 : Nat)])), (106, .val (.bool ng)), (107, .val (.bool (!ng))), (108, .val (.agg #[.int .u64 (dgl (fl) 1 : Nat), .int .u64 (dgl (fl) 0 : Nat)])), (109, .val (.bool true)), (110, .val (.bool true)), (111, .val (.bool true)), (112, .val (.bool true)), (113, .val (.bool true))]
      (fun W => OwSt a w W) mixedOk (by kernel_rfl) (by kernel_rfl) (h1.below (Below.refl _ _).drew) (fun W W' h hb => h.below hb) ?_ ?_
    · refine gSt (gStep_run rfl (gRun_move 0 73 (.inl rfl) rfl (by decide +kernel) (fun v w h => h))) ?_
      refine gSt (gStep_run rfl ?_) ?_
      · intro ρ W hC hc hf hL
        have e3 : ρ (.tmp 3) = .pointer (some ⟨w.heap.size, 0, none⟩) := hL 3 (by decide +kernel)
        have l0 := hC.h
        have l1 := hC.l
        simp [go_sem, hc, hf, e3, l0, l1]
        exact ⟨Below.refl _ _, rfl⟩
      refine gSt (gStep_run rfl ?_) ?_
      · intro ρ W hC hc hf hL
        have e73 : ρ (.tmp 73) = .int .i64 f := hL 73 (by decide +kernel)
        have e74 : ρ (.tmp 74) = .agg #[.int .u64 (dgl (a) 1 : Nat), .int .u64 (dgl (a) 0 : Nat)] := hL 74 (by decide +kernel)
        simp [go_sem, hc, hf, e73, e74]
        refine (HFD.out W hC.g).mono ?_
        rintro e w' ⟨rfl, hb⟩
        exact ⟨_, rfl, by first | exact hb | (subst hb; exact Below.refl _ _), rfl⟩
      refine gSt (gStep_run rfl (gRun_move 0 76 (.inl rfl) rfl (by decide +kernel) (fun v w h => h))) ?_
      refine gSt (gStep_run rfl ?_) ?_
      · intro ρ W hC hc hf hL
        have e3 : ρ (.tmp 3) = .pointer (some ⟨w.heap.size, 0, none⟩) := hL 3 (by decide +kernel)
        have l0 := hC.h
        have l1 := hC.l
        simp [go_sem, hc, hf, e3, l0, l1]
        exact ⟨Below.refl _ _, rfl⟩
      refine gSt (gStep_run rfl ?_) ?_
      · intro ρ W hC hc hf hL
        have e76 : ρ (.tmp 76) = .int .i64 f := hL 76 (by decide +kernel)
        have e77 : ρ (.tmp 77) = .agg #[.int .u64 (dgl (a) 1 : Nat), .int .u64 (dgl (a) 0 : Nat)] := hL 77 (by decide +kernel)
        simp [go_sem, hc, hf, e76, e77]
        refine (HRD.out W).mono ?_
        rintro e w' ⟨rfl, hb⟩
        exact ⟨_, rfl, by first | exact hb | (subst hb; exact Below.refl _ _), rfl⟩
      refine gSt (gStep_run rfl ?_) ?_
      · intro ρ W hC hc hf hL
        have e75 : ρ (.tmp 75) = .int .i64 (fd : Nat) := hL 75 (by decide +kernel)
        have e78 : ρ (.tmp 78) = .int .i64 (fd : Nat) := hL 78 (by decide +kernel)
        simp [go_sem, hc, hf, e75, e78]
        exact ⟨Below.refl _ _, rfl⟩
      refine gSt (gStep_run rfl (gRun_move 79 80 (.inl rfl) rfl (by decide +kernel) (fun v w h => h))) ?_
      refine gSt (gStep_on 7 80 true rfl rfl (by decide +kernel) (fun v w h => h) (gRun_move 0 81 (.inl rfl) rfl (by decide +kernel) (fun v w h => h))) ?_
      refine gSt (gStep_on 7 80 true rfl rfl (by decide +kernel) (fun v w h => h) ?_) ?_
      · intro ρ W hC hc hf hL
        have e3 : ρ (.tmp 3) = .pointer (some ⟨w.heap.size, 0, none⟩) := hL 3 (by decide +kernel)
        have l0 := hC.h
        have l1 := hC.l
        simp [go_sem, hc, hf, e3, l0, l1]
        exact ⟨Below.refl _ _, rfl⟩
      refine gSt (gStep_on 7 80 true rfl rfl (by decide +kernel) (fun v w h => h) ?_) ?_
      · intro ρ W hC hc hf hL
        have e81 : ρ (.tmp 81) = .int .i64 f := hL 81 (by decide +kernel)
        have e82 : ρ (.tmp 82) = .agg #[.int .u64 (dgl (a) 1 : Nat), .int .u64 (dgl (a) 0 : Nat)] := hL 82 (by decide +kernel)
        simp [go_sem, hc, hf, e81, e82]
        refine (HFR.out W hC.g).mono ?_
        rintro e w' ⟨rfl, hb⟩
        exact ⟨_, rfl, by first | exact hb | (subst hb; exact Below.refl _ _), rfl⟩
      refine gSt (gStep_on 7 80 true rfl rfl (by decide +kernel) (fun v w h => h) (gRun_move 0 84 (.inl rfl) rfl (by decide +kernel) (fun v w h => h))) ?_
      refine gSt (gStep_on 7 80 true rfl rfl (by decide +kernel) (fun v w h => h) ?_) ?_
      · intro ρ W hC hc hf hL
        have e3 : ρ (.tmp 3) = .pointer (some ⟨w.heap.size, 0, none⟩) := hL 3 (by decide +kernel)
        have l0 := hC.h
        have l1 := hC.l
        simp [go_sem, hc, hf, e3, l0, l1]
        exact ⟨Below.refl _ _, rfl⟩
      refine gSt (gStep_on 7 80 true rfl rfl (by decide +kernel) (fun v w h => h) ?_) ?_
      · intro ρ W hC hc hf hL
        have e84 : ρ (.tmp 84) = .int .i64 f := hL 84 (by decide +kernel)
        have e85 : ρ (.tmp 85) = .agg #[.int .u64 (dgl (a) 1 : Nat), .int .u64 (dgl (a) 0 : Nat)] := hL 85 (by decide +kernel)
        simp [go_sem, hc, hf, e84, e85]
        refine (HRR.out W).mono ?_
        rintro e w' ⟨rfl, hb⟩
        exact ⟨_, rfl, by first | exact hb | (subst hb; exact Below.refl _ _), rfl⟩
      refine gSt (gStep_on 7 80 true rfl rfl (by decide +kernel) (fun v w h => h) ?_) ?_
      · intro ρ W hC hc hf hL
        have e83 : ρ (.tmp 83) = .agg #[.int .u64 (dgl (fr) 0 : Nat), .int .u64 (dgl (fr) 1 : Nat), .int .u64 (dgl (fr) 2 : Nat), .int .u64 (dgl (fr) 3 : Nat), .int .u64 (dgl (fr) 4 : Nat), .int .u64 (dgl (fr) 5 : Nat), .int .u64 (dgl (fr) 6 : Nat), .int .u64 (dgl (fr) 7 : Nat)] := hL 83 (by decide +kernel)
        have e86 : ρ (.tmp 86) = .agg #[.int .u64 (dgl (fr) 0 : Nat), .int .u64 (dgl (fr) 1 : Nat), .int .u64 (dgl (fr) 2 : Nat), .int .u64 (dgl (fr) 3 : Nat), .int .u64 (dgl (fr) 4 : Nat), .int .u64 (dgl (fr) 5 : Nat), .int .u64 (dgl (fr) 6 : Nat), .int .u64 (dgl (fr) 7 : Nat)] := hL 86 (by decide +kernel)
        simp [go_sem, hc, hf, e83, e86]
        exact ⟨Below.refl _ _, rfl⟩
      refine gSt (gStep_run rfl (gRun_pickT 80 87 88 _ rfl rfl (by decide +kernel) (by decide +kernel) (fun v w h => h) (fun v w h => h))) ?_
      refine gSt (gStep_run rfl (gRun_move 88 89 (.inl rfl) rfl (by decide +kernel) (fun v w h => h))) ?_
      refine gSt (gStep_on 16 89 true rfl rfl (by decide +kernel) (fun v w h => h) (gRun_move 0 90 (.inl rfl) rfl (by decide +kernel) (fun v w h => h))) ?_
      refine gSt (gStep_on 16 89 true rfl rfl (by decide +kernel) (fun v w h => h) ?_) ?_
      · intro ρ W hC hc hf hL
        have e3 : ρ (.tmp 3) = .pointer (some ⟨w.heap.size, 0, none⟩) := hL 3 (by decide +kernel)
        have l0 := hC.h
        have l1 := hC.l
        simp [go_sem, hc, hf, e3, l0, l1]
        exact ⟨Below.refl _ _, rfl⟩
      refine gSt (gStep_on 16 89 true rfl rfl (by decide +kernel) (fun v w h => h) ?_) ?_
      · intro ρ W hC hc hf hL
        have e90 : ρ (.tmp 90) = .int .i64 f := hL 90 (by decide +kernel)
        have e91 : ρ (.tmp 91) = .agg #[.int .u64 (dgl (a) 1 : Nat), .int .u64 (dgl (a) 0 : Nat)] := hL 91 (by decide +kernel)
        simp [go_sem, hc, hf, e90, e91]
        refine (HAB.out W hC.g).mono ?_
        rintro e w' ⟨rfl, hb⟩
        exact ⟨_, rfl, by first | exact hb | (subst hb; exact Below.refl _ _), rfl⟩
      refine gSt (gStep_on 16 89 true rfl rfl (by decide +kernel) (fun v w h => h) (gRun_move 0 93 (.inl rfl) rfl (by decide +kernel) (fun v w h => h))) ?_
      refine gSt (gStep_on 16 89 true rfl rfl (by decide +kernel) (fun v w h => h) ?_) ?_
      · intro ρ W hC hc hf hL
        have e3 : ρ (.tmp 3) = .pointer (some ⟨w.heap.size, 0, none⟩) := hL 3 (by decide +kernel)
        have l0 := hC.h
        have l1 := hC.l
        simp [go_sem, hc, hf, e3, l0, l1]
        exact ⟨Below.refl _ _, rfl⟩
      refine gSt (gStep_on 16 89 true rfl rfl (by decide +kernel) (fun v w h => h) ?_) ?_
      · intro ρ W hC hc hf hL
        have e93 : ρ (.tmp 93) = .int .i64 f := hL 93 (by decide +kernel)
        have e94 : ρ (.tmp 94) = .agg #[.int .u64 (dgl (a) 1 : Nat), .int .u64 (dgl (a) 0 : Nat)] := hL 94 (by decide +kernel)
        simp [go_sem, hc, hf, e93, e94]
        refine (HSA.out W).mono ?_
        rintro e w' ⟨rfl, hb⟩
        exact ⟨_, rfl, by first | exact hb | (subst hb; exact Below.refl _ _), rfl⟩
      refine gSt (gStep_on 16 89 true rfl rfl (by decide +kernel) (fun v w h => h) ?_) ?_
      · intro ρ W hC hc hf hL
        have e92 : ρ (.tmp 92) = .agg #[.int .u64 (dgl (ab) 1 : Nat), .int .u64 (dgl (ab) 0 : Nat)] := hL 92 (by decide +kernel)
        have e95 : ρ (.tmp 95) = .agg #[.int .u64 (dgl (ab) 1 : Nat), .int .u64 (dgl (ab) 0 : Nat)] := hL 95 (by decide +kernel)
        have hl := fun w => word_same (dgl (ab) 1) (dgl (ab) 0) w
        simp [go_sem, hc, hf, e92, e95, hl]
        exact ⟨Below.refl _ _, rfl⟩
      refine gSt (gStep_run rfl (gRun_pickT 89 96 97 _ rfl rfl (by decide +kernel) (by decide +kernel) (fun v w h => h) (fun v w h => h))) ?_
      refine gSt (gStep_run rfl (gRun_move 97 98 (.inl rfl) rfl (by decide +kernel) (fun v w h => h))) ?_
      refine gSt (gStep_on 25 98 true rfl rfl (by decide +kernel) (fun v w h => h) (gRun_move 0 99 (.inl rfl) rfl (by decide +kernel) (fun v w h => h))) ?_
      refine gSt (gStep_on 25 98 true rfl rfl (by decide +kernel) (fun v w h => h) ?_) ?_
      · intro ρ W hC hc hf hL
        have e3 : ρ (.tmp 3) = .pointer (some ⟨w.heap.size, 0, none⟩) := hL 3 (by decide +kernel)
        have l0 := hC.h
        have l1 := hC.l
        simp [go_sem, hc, hf, e3, l0, l1]
        exact ⟨Below.refl _ _, rfl⟩
      refine gSt (gStep_on 25 98 true rfl rfl (by decide +kernel) (fun v w h => h) ?_) ?_
      · intro ρ W hC hc hf hL
        have e99 : ρ (.tmp 99) = .int .i64 f := hL 99 (by decide +kernel)
        have e100 : ρ (.tmp 100) = .agg #[.int .u64 (dgl (a) 1 : Nat), .int .u64 (dgl (a) 0 : Nat)] := hL 100 (by decide +kernel)
        simp [go_sem, hc, hf, e99, e100]
        refine (HFL.out W hC.g).mono ?_
        rintro e w' ⟨rfl, hb⟩
        exact ⟨_, rfl, by first | exact hb | (subst hb; exact Below.refl _ _), rfl⟩
      refine gSt (gStep_on 25 98 true rfl rfl (by decide +kernel) (fun v w h => h) (gRun_move 0 102 (.inl rfl) rfl (by decide +kernel) (fun v w h => h))) ?_
      refine gSt (gStep_on 25 98 true rfl rfl (by decide +kernel) (fun v w h => h) ?_) ?_
      · intro ρ W hC hc hf hL
        have e3 : ρ (.tmp 3) = .pointer (some ⟨w.heap.size, 0, none⟩) := hL 3 (by decide +kernel)
        have l0 := hC.h
        have l1 := hC.l
        simp [go_sem, hc, hf, e3, l0, l1]
        exact ⟨Below.refl _ _, rfl⟩
      refine gSt (gStep_on 25 98 true rfl rfl (by decide +kernel) (fun v w h => h) (gRun_move 0 104 (.inl rfl) rfl (by decide +kernel) (fun v w h => h))) ?_
      refine gSt (gStep_on 25 98 true rfl rfl (by decide +kernel) (fun v w h => h) ?_) ?_
      · intro ρ W hC hc hf hL
        have e3 : ρ (.tmp 3) = .pointer (some ⟨w.heap.size, 0, none⟩) := hL 3 (by decide +kernel)
        have l0 := hC.h
        have l1 := hC.l
        simp [go_sem, hc, hf, e3, l0, l1]
        exact ⟨Below.refl _ _, rfl⟩
      refine gSt (gStep_on 25 98 true rfl rfl (by decide +kernel) (fun v w h => h) ?_) ?_
      · intro ρ W hC hc hf hL
        have e104 : ρ (.tmp 104) = .int .i64 f := hL 104 (by decide +kernel)
        have e105 : ρ (.tmp 105) = .agg #[.int .u64 (dgl (a) 1 : Nat), .int .u64 (dgl (a) 0 : Nat)] := hL 105 (by decide +kernel)
        simp [go_sem, hc, hf, e104, e105]
        refine (HRN.out W).mono ?_
        rintro e w' ⟨rfl, hb⟩
        exact ⟨_, rfl, by first | exact hb | (subst hb; exact Below.refl _ _), rfl⟩
      refine gSt (gStep_on 25 98 true rfl rfl (by decide +kernel) (fun v w h => h) ?_) ?_
      · intro ρ W hC hc hf hL
        have e106 : ρ (.tmp 106) = .bool ng := hL 106 (by decide +kernel)
        simp [go_sem, hc, hf, e106]
        exact ⟨Below.refl _ _, rfl⟩
      refine gSt (gStep_on 25 98 true rfl rfl (by decide +kernel) (fun v w h => h) ?_) ?_
      · intro ρ W hC hc hf hL
        have e102 : ρ (.tmp 102) = .int .i64 f := hL 102 (by decide +kernel)
        have e103 : ρ (.tmp 103) = .agg #[.int .u64 (dgl (a) 1 : Nat), .int .u64 (dgl (a) 0 : Nat)] := hL 103 (by decide +kernel)
        have e107 : ρ (.tmp 107) = .bool (!ng) := hL 107 (by decide +kernel)
        simp [go_sem, hc, hf, e102, e103, e107]
        refine (HSF.out W).mono ?_
        rintro e w' ⟨rfl, hb⟩
        exact ⟨_, rfl, by first | exact hb | (subst hb; exact Below.refl _ _), rfl⟩
      refine gSt (gStep_on 25 98 true rfl rfl (by decide +kernel) (fun v w h => h) ?_) ?_
      · intro ρ W hC hc hf hL
        have e101 : ρ (.tmp 101) = .agg #[.int .u64 (dgl (fl) 1 : Nat), .int .u64 (dgl (fl) 0 : Nat)] := hL 101 (by decide +kernel)
        have e108 : ρ (.tmp 108) = .agg #[.int .u64 (dgl (fl) 1 : Nat), .int .u64 (dgl (fl) 0 : Nat)] := hL 108 (by decide +kernel)
        have hl := fun w => word_same (dgl (fl) 1) (dgl (fl) 0) w
        simp [go_sem, hc, hf, e101, e108, hl]
        exact ⟨Below.refl _ _, rfl⟩
      refine gSt (gStep_run rfl (gRun_pickT 98 109 110 _ rfl rfl (by decide +kernel) (by decide +kernel) (fun v w h => h) (fun v w h => h))) ?_
      refine gSt (gStep_run rfl (gRun_move 110 111 (.inl rfl) rfl (by decide +kernel) (fun v w h => h))) ?_
      refine gSt (gStep_on 38 111 true rfl rfl (by decide +kernel) (fun v w h => h) ?_) ?_
      · intro ρ W hC hc hf hL
        simp [go_sem, hc, hf]
        refine (awake6_any W hC.g).mono ?_
        rintro e w' ⟨rfl, hb⟩
        exact ⟨_, rfl, by first | exact hb | (subst hb; exact Below.refl _ _), rfl⟩
      refine gSt (gStep_run rfl (gRun_pickT 111 112 113 _ rfl rfl (by decide +kernel) (by decide +kernel) (fun v w h => h) (fun v w h => h))) ?_
      exact gSt0
    · intro W hC
      refine gFi 73 rfl ?_
      rintro _ rfl
      refine gFi 74 rfl ?_
      rintro _ rfl
      refine gFi 75 rfl ?_
      rintro _ rfl
      refine gFi 76 rfl ?_
      rintro _ rfl
      refine gFi 77 rfl ?_
      rintro _ rfl
      refine gFi 78 rfl ?_
      rintro _ rfl
      refine gFi 79 rfl ?_
      rintro _ rfl
      refine gFi 80 rfl ?_
      rintro _ rfl
      refine gFi 81 rfl ?_
      rintro _ rfl
      refine gFi 82 rfl ?_
      rintro _ rfl
      refine gFi 83 rfl ?_
      rintro _ rfl
      refine gFi 84 rfl ?_
      rintro _ rfl
      refine gFi 85 rfl ?_
      rintro _ rfl
      refine gFi 86 rfl ?_
      rintro _ rfl
      refine gFi 87 rfl ?_
      rintro _ rfl
      refine gFi 88 rfl ?_
      rintro _ rfl
      refine gFi 89 rfl ?_
      rintro _ rfl
      refine gFi 90 rfl ?_
      rintro _ rfl
      refine gFi 91 rfl ?_
      rintro _ rfl
      refine gFi 92 rfl ?_
      rintro _ rfl
      refine gFi 93 rfl ?_
      rintro _ rfl
      refine gFi 94 rfl ?_
      rintro _ rfl
      refine gFi 95 rfl ?_
      rintro _ rfl
      refine gFi 96 rfl ?_
      rintro _ rfl
      refine gFi 97 rfl ?_
      rintro _ rfl
      refine gFi 98 rfl ?_
      rintro _ rfl
      refine gFi 99 rfl ?_
      rintro _ rfl
      refine gFi 100 rfl ?_
      rintro _ rfl
      refine gFi 101 rfl ?_
      rintro _ rfl
      refine gFi 102 rfl ?_
      rintro _ rfl
      refine gFi 103 rfl ?_
      rintro _ rfl
      refine gFi 104 rfl ?_
      rintro _ rfl
      refine gFi 105 rfl ?_
      rintro _ rfl
      refine gFi 106 rfl ?_
      rintro _ rfl
      refine gFi 107 rfl ?_
      rintro _ rfl
      refine gFi 108 rfl ?_
      rintro _ rfl
      refine gFi 109 rfl ?_
      rintro _ rfl
      refine gFi 110 rfl ?_
      rintro _ rfl
      refine gFi 111 rfl ?_
      rintro _ rfl
      refine gFi 112 rfl ?_
      rintro _ rfl
      refine gFi 113 rfl ?_
      rintro _ rfl
      refine gFi0 ?_
      simp only [List.drop_succ_cons, List.drop_zero, Act.put, List.setIfInBounds_toArray, List.set_cons_succ, List.set_cons_zero]
      have HB := hide hC.bel
      clear hC h1
      go_wp2
      go_ret
      exact ⟨rfl, HB.out⟩

set_option maxHeartbeats 2000000 in
theorem classOf_more (f : Int) (a fd fr ab fl : Nat) (ng fin nn : Bool) (k : Nat) (hk0 : ¬ (k : Int) = 0) (hfin : decide ((4 : Int) ≤ (k : Int)) = fin) (he1 : ((k : Int) == 1) = false) (he2 : ((k : Int) == 2) = nn)
    (HK : Hid (∀ w, Calls Tryd.prog 12 #[.int .i64 f, .agg #[.int .u64 (dgl (a) 1 : Nat), .int .u64 (dgl (a) 0 : Nat)]] w fun e w' => e = .returned (.int .i64 (k : Nat)) ∧ Below w.heap.size w w'))
    (HO : Hid (∀ w, FmtG w → Calls Tryd.prog 13 #[.int .i64 f, .agg #[.int .u64 (dgl (a) 1 : Nat), .int .u64 (dgl (a) 0 : Nat)]] w fun e w' => e = .returned (.int .i64 (k : Nat)) ∧ Below w.heap.size w w'))
    (HFN : Hid (∀ w, FmtG w → Calls Tryd.prog 14 #[.int .i64 f, .agg #[.int .u64 (dgl (a) 1 : Nat), .int .u64 (dgl (a) 0 : Nat)]] w fun e w' => e = .returned (.bool fin) ∧ Below w.heap.size w w'))
    (HNA : Hid (∀ w, FmtG w → Calls Tryd.prog 15 #[.int .i64 f, .agg #[.int .u64 (dgl (a) 1 : Nat), .int .u64 (dgl (a) 0 : Nat)]] w fun e w' => e = .returned (.bool nn) ∧ Below w.heap.size w w'))
    (HNG : Hid (∀ w, FmtG w → Calls Tryd.prog 16 #[.int .i64 f, .agg #[.int .u64 (dgl (a) 1 : Nat), .int .u64 (dgl (a) 0 : Nat)]] w fun e w' => e = .returned (.bool ng) ∧ Below w.heap.size w w'))
    (HRN : Hid (∀ w, Calls Tryd.prog 17 #[.int .i64 f, .agg #[.int .u64 (dgl (a) 1 : Nat), .int .u64 (dgl (a) 0 : Nat)]] w fun e w' => e = .returned (.bool ng) ∧ Below w.heap.size w w'))
    (HFD : Hid (∀ w, FmtG w → Calls Tryd.prog 18 #[.int .i64 f, .agg #[.int .u64 (dgl (a) 1 : Nat), .int .u64 (dgl (a) 0 : Nat)]] w fun e w' => e = .returned (.int .i64 (fd : Nat)) ∧ Below w.heap.size w w'))
    (HRD : Hid (∀ w, Calls Tryd.prog 23 #[.int .i64 f, .agg #[.int .u64 (dgl (a) 1 : Nat), .int .u64 (dgl (a) 0 : Nat)]] w fun e w' => e = .returned (.int .i64 (fd : Nat)) ∧ Below w.heap.size w w'))
    (HFR : Hid (∀ w, FmtG w → Calls Tryd.prog 19 #[.int .i64 f, .agg #[.int .u64 (dgl (a) 1 : Nat), .int .u64 (dgl (a) 0 : Nat)]] w fun e w' => e = .returned (.agg #[.int .u64 (dgl (fr) 0 : Nat), .int .u64 (dgl (fr) 1 : Nat), .int .u64 (dgl (fr) 2 : Nat), .int .u64 (dgl (fr) 3 : Nat), .int .u64 (dgl (fr) 4 : Nat), .int .u64 (dgl (fr) 5 : Nat), .int .u64 (dgl (fr) 6 : Nat), .int .u64 (dgl (fr) 7 : Nat)]) ∧ Below w.heap.size w w'))
    (HRR : Hid (∀ w, Calls Tryd.prog 24 #[.int .i64 f, .agg #[.int .u64 (dgl (a) 1 : Nat), .int .u64 (dgl (a) 0 : Nat)]] w fun e w' => e = .returned (.agg #[.int .u64 (dgl (fr) 0 : Nat), .int .u64 (dgl (fr) 1 : Nat), .int .u64 (dgl (fr) 2 : Nat), .int .u64 (dgl (fr) 3 : Nat), .int .u64 (dgl (fr) 4 : Nat), .int .u64 (dgl (fr) 5 : Nat), .int .u64 (dgl (fr) 6 : Nat), .int .u64 (dgl (fr) 7 : Nat)]) ∧ Below w.heap.size w w'))
    (HAB : Hid (∀ w, FmtG w → Calls Tryd.prog 20 #[.int .i64 f, .agg #[.int .u64 (dgl (a) 1 : Nat), .int .u64 (dgl (a) 0 : Nat)]] w fun e w' => e = .returned (.agg #[.int .u64 (dgl (ab) 1 : Nat), .int .u64 (dgl (ab) 0 : Nat)]) ∧ Below w.heap.size w w'))
    (HSA : Hid (∀ w, Calls Tryd.prog 25 #[.int .i64 f, .agg #[.int .u64 (dgl (a) 1 : Nat), .int .u64 (dgl (a) 0 : Nat)], .bool false] w fun e w' => e = .returned (.agg #[.int .u64 (dgl (ab) 1 : Nat), .int .u64 (dgl (ab) 0 : Nat)]) ∧ Below w.heap.size w w'))
    (HFL : Hid (∀ w, FmtG w → Calls Tryd.prog 21 #[.int .i64 f, .agg #[.int .u64 (dgl (a) 1 : Nat), .int .u64 (dgl (a) 0 : Nat)]] w fun e w' => e = .returned (.agg #[.int .u64 (dgl (fl) 1 : Nat), .int .u64 (dgl (fl) 0 : Nat)]) ∧ Below w.heap.size w w'))
    (HSF : Hid (∀ w, Calls Tryd.prog 25 #[.int .i64 f, .agg #[.int .u64 (dgl (a) 1 : Nat), .int .u64 (dgl (a) 0 : Nat)], .bool (!ng)] w fun e w' => e = .returned (.agg #[.int .u64 (dgl (fl) 1 : Nat), .int .u64 (dgl (fl) 0 : Nat)]) ∧ Below w.heap.size w w')) (w : World) (hg : FmtG w) :
    Calls Tryd.prog 3 #[.int .i64 f, .agg #[.int .u64 (dgl (a) 1 : Nat), .int .u64 (dgl (a) 0 : Nat)]] w fun e w' => e = .returned (.bool true) ∧ Below w.heap.size w w' := by
  have HS := hide (owSt_start a w hg)
  clear hg
  go_enter Tryd.func3, Tryd.ntmps3
  have l0 := HS.out.h
  have l1 := HS.out.l
  go_wp2_with fail
  refine (HK.out _).mono ?_
  rintro e w1 ⟨rfl, hb1⟩
  replace HS := hide (HS.out.below hb1)
  clear hb1 l0 l1 HK
  go_upto_region 2 with fail
  refine wp_gen (fun W => OwSt a w W) HS.out ?_
  clear HS
  rintro W1 h1
  refine wp_region_grow 34 [(9, .val (.int .i64 f)), (10, .val (.agg #[.int .u64 (dgl (a) 1 : Nat), .int .u64 (dgl (a) 0 : Nat)])), (11, .val (.int .i64 (k : Nat))), (12, .val (.int .i64 (k : Nat))), (13, .val (.bool false)), (14, .val (.bool false)), (15, .val (.int .i64 f)), (16, .val (.agg #[.int .u64 (dgl (a) 1 : Nat), .int .u64 (dgl (a) 0 : Nat)])), (17, .val (.bool fin)), (18, .val (.int .i64 (k : Nat))), (19, .val (.bool fin)), (20, .val (.bool false)), (21, .val (.bool false)), (22, .val (.bool false)), (23, .val (.int .i64 f)), (24, .val (.agg #[.int .u64 (dgl (a) 1 : Nat), .int .u64 (dgl (a) 0 : Nat)])), (25, .val (.bool nn)), (26, .val (.int .i64 (k : Nat))), (27, .val (.bool false)), (28, .val (.bool false)), (29, .val (.int .i64 (k : Nat))), (30, .val (.bool nn)), (31, .val (.bool nn)), (32, .val (.bool false)), (33, .val (.bool false)), (34, .val (.bool false)), (35, .val (.int .i64 f)), (36, .val (.agg #[.int .u64 (dgl (a) 1 : Nat), .int .u64 (dgl (a) 0 : Nat)])), (37, .val (.bool ng)), (38, .val (.int .i64 f)), (39, .val (.agg #[.int .u64 (dgl (a) 1 : Nat), .int .u64 (dgl (a) 0 : Nat)])), (40, .val (.bool ng)), (41, .val (.bool false)), (42, .val (.bool false))]
    (fun W => OwSt a w W) mixedOk (by kernel_rfl) (by kernel_rfl) (h1.below (Below.refl _ _).drew) (fun W W' h hb => h.below hb) ?_ ?_
  · refine gSt (gStep_run rfl (gRun_move 0 9 (.inl rfl) rfl (by decide +kernel) (fun v w h => h))) ?_
    refine gSt (gStep_run rfl ?_) ?_
    · intro ρ W hC hc hf hL
      have e3 : ρ (.tmp 3) = .pointer (some ⟨w.heap.size, 0, none⟩) := hL 3 (by decide +kernel)
      have l0 := hC.h
      have l1 := hC.l
      simp [go_sem, hc, hf, e3, l0, l1]
      exact ⟨Below.refl _ _, rfl⟩
    refine gSt (gStep_run rfl ?_) ?_
    · intro ρ W hC hc hf hL
      have e9 : ρ (.tmp 9) = .int .i64 f := hL 9 (by decide +kernel)
      have e10 : ρ (.tmp 10) = .agg #[.int .u64 (dgl (a) 1 : Nat), .int .u64 (dgl (a) 0 : Nat)] := hL 10 (by decide +kernel)
      simp [go_sem, hc, hf, e9, e10]
      refine (HO.out W hC.g).mono ?_
      rintro e w' ⟨rfl, hb⟩
      exact ⟨_, rfl, by first | exact hb | (subst hb; exact Below.refl _ _), rfl⟩
    refine gSt (gStep_run rfl (gRun_move 5 12 (.inl rfl) rfl (by decide +kernel) (fun v w h => h))) ?_
    refine gSt (gStep_run rfl ?_) ?_
    · intro ρ W hC hc hf hL
      have e11 : ρ (.tmp 11) = .int .i64 (k : Nat) := hL 11 (by decide +kernel)
      have e12 : ρ (.tmp 12) = .int .i64 (k : Nat) := hL 12 (by decide +kernel)
      simp [go_sem, hc, hf, e11, e12]
      exact ⟨Below.refl _ _, rfl⟩
    refine gSt (gStep_run rfl (gRun_move 13 14 (.inl rfl) rfl (by decide +kernel) (fun v w h => h))) ?_
    refine gSt (gStep_on 5 14 false rfl rfl (by decide +kernel) (fun v w h => h) (gRun_move 0 15 (.inl rfl) rfl (by decide +kernel) (fun v w h => h))) ?_
    refine gSt (gStep_on 5 14 false rfl rfl (by decide +kernel) (fun v w h => h) ?_) ?_
    · intro ρ W hC hc hf hL
      have e3 : ρ (.tmp 3) = .pointer (some ⟨w.heap.size, 0, none⟩) := hL 3 (by decide +kernel)
      have l0 := hC.h
      have l1 := hC.l
      simp [go_sem, hc, hf, e3, l0, l1]
      exact ⟨Below.refl _ _, rfl⟩
    refine gSt (gStep_on 5 14 false rfl rfl (by decide +kernel) (fun v w h => h) ?_) ?_
    · intro ρ W hC hc hf hL
      have e15 : ρ (.tmp 15) = .int .i64 f := hL 15 (by decide +kernel)
      have e16 : ρ (.tmp 16) = .agg #[.int .u64 (dgl (a) 1 : Nat), .int .u64 (dgl (a) 0 : Nat)] := hL 16 (by decide +kernel)
      simp [go_sem, hc, hf, e15, e16]
      refine (HFN.out W hC.g).mono ?_
      rintro e w' ⟨rfl, hb⟩
      exact ⟨_, rfl, by first | exact hb | (subst hb; exact Below.refl _ _), rfl⟩
    refine gSt (gStep_on 5 14 false rfl rfl (by decide +kernel) (fun v w h => h) (gRun_move 5 18 (.inl rfl) rfl (by decide +kernel) (fun v w h => h))) ?_
    refine gSt (gStep_on 5 14 false rfl rfl (by decide +kernel) (fun v w h => h) ?_) ?_
    · intro ρ W hC hc hf hL
      have e18 : ρ (.tmp 18) = .int .i64 (k : Nat) := hL 18 (by decide +kernel)
      simp [go_sem, hc, hf, e18, hfin]
      exact ⟨Below.refl _ _, rfl⟩
    refine gSt (gStep_on 5 14 false rfl rfl (by decide +kernel) (fun v w h => h) ?_) ?_
    · intro ρ W hC hc hf hL
      have e17 : ρ (.tmp 17) = .bool fin := hL 17 (by decide +kernel)
      have e19 : ρ (.tmp 19) = .bool fin := hL 19 (by decide +kernel)
      simp [go_sem, hc, hf, e17, e19]
      exact ⟨Below.refl _ _, rfl⟩
    refine gSt (gStep_run rfl (gRun_pickCF 14 20 21 _ rfl rfl (by decide +kernel) (by decide +kernel) (fun v w h => h) (fun v w h => h))) ?_
    refine gSt (gStep_run rfl (gRun_move 21 22 (.inl rfl) rfl (by decide +kernel) (fun v w h => h))) ?_
    refine gSt (gStep_on 13 22 false rfl rfl (by decide +kernel) (fun v w h => h) (gRun_move 0 23 (.inl rfl) rfl (by decide +kernel) (fun v w h => h))) ?_
    refine gSt (gStep_on 13 22 false rfl rfl (by decide +kernel) (fun v w h => h) ?_) ?_
    · intro ρ W hC hc hf hL
      have e3 : ρ (.tmp 3) = .pointer (some ⟨w.heap.size, 0, none⟩) := hL 3 (by decide +kernel)
      have l0 := hC.h
      have l1 := hC.l
      simp [go_sem, hc, hf, e3, l0, l1]
      exact ⟨Below.refl _ _, rfl⟩
    refine gSt (gStep_on 13 22 false rfl rfl (by decide +kernel) (fun v w h => h) ?_) ?_
    · intro ρ W hC hc hf hL
      have e23 : ρ (.tmp 23) = .int .i64 f := hL 23 (by decide +kernel)
      have e24 : ρ (.tmp 24) = .agg #[.int .u64 (dgl (a) 1 : Nat), .int .u64 (dgl (a) 0 : Nat)] := hL 24 (by decide +kernel)
      simp [go_sem, hc, hf, e23, e24]
      refine (HNA.out W hC.g).mono ?_
      rintro e w' ⟨rfl, hb⟩
      exact ⟨_, rfl, by first | exact hb | (subst hb; exact Below.refl _ _), rfl⟩
    refine gSt (gStep_on 13 22 false rfl rfl (by decide +kernel) (fun v w h => h) (gRun_move 5 26 (.inl rfl) rfl (by decide +kernel) (fun v w h => h))) ?_
    refine gSt (gStep_on 13 22 false rfl rfl (by decide +kernel) (fun v w h => h) ?_) ?_
    · intro ρ W hC hc hf hL
      have e26 : ρ (.tmp 26) = .int .i64 (k : Nat) := hL 26 (by decide +kernel)
      simp [go_sem, hc, hf, e26, he1]
      exact ⟨Below.refl _ _, rfl⟩
    refine gSt (gStep_on 13 22 false rfl rfl (by decide +kernel) (fun v w h => h) (gRun_move 27 28 (.inl rfl) rfl (by decide +kernel) (fun v w h => h))) ?_
    refine gSt (gStep_on 19 28 false rfl rfl (by decide +kernel) (fun v w h => h) (gRun_move 5 29 (.inl rfl) rfl (by decide +kernel) (fun v w h => h))) ?_
    refine gSt (gStep_on 19 28 false rfl rfl (by decide +kernel) (fun v w h => h) ?_) ?_
    · intro ρ W hC hc hf hL
      have e29 : ρ (.tmp 29) = .int .i64 (k : Nat) := hL 29 (by decide +kernel)
      simp [go_sem, hc, hf, e29, he2]
      exact ⟨Below.refl _ _, rfl⟩
    refine gSt (gStep_on 13 22 false rfl rfl (by decide +kernel) (fun v w h => h) (gRun_pickCF 28 30 31 _ rfl rfl (by decide +kernel) (by decide +kernel) (fun v w h => h) (fun v w h => h))) ?_
    refine gSt (gStep_on 13 22 false rfl rfl (by decide +kernel) (fun v w h => h) ?_) ?_
    · intro ρ W hC hc hf hL
      have e25 : ρ (.tmp 25) = .bool nn := hL 25 (by decide +kernel)
      have e31 : ρ (.tmp 31) = .bool nn := hL 31 (by decide +kernel)
      simp [go_sem, hc, hf, e25, e31]
      exact ⟨Below.refl _ _, rfl⟩
    refine gSt (gStep_run rfl (gRun_pickCF 22 32 33 _ rfl rfl (by decide +kernel) (by decide +kernel) (fun v w h => h) (fun v w h => h))) ?_
    refine gSt (gStep_run rfl (gRun_move 33 34 (.inl rfl) rfl (by decide +kernel) (fun v w h => h))) ?_
    refine gSt (gStep_on 25 34 false rfl rfl (by decide +kernel) (fun v w h => h) (gRun_move 0 35 (.inl rfl) rfl (by decide +kernel) (fun v w h => h))) ?_
    refine gSt (gStep_on 25 34 false rfl rfl (by decide +kernel) (fun v w h => h) ?_) ?_
    · intro ρ W hC hc hf hL
      have e3 : ρ (.tmp 3) = .pointer (some ⟨w.heap.size, 0, none⟩) := hL 3 (by decide +kernel)
      have l0 := hC.h
      have l1 := hC.l
      simp [go_sem, hc, hf, e3, l0, l1]
      exact ⟨Below.refl _ _, rfl⟩
    refine gSt (gStep_on 25 34 false rfl rfl (by decide +kernel) (fun v w h => h) ?_) ?_
    · intro ρ W hC hc hf hL
      have e35 : ρ (.tmp 35) = .int .i64 f := hL 35 (by decide +kernel)
      have e36 : ρ (.tmp 36) = .agg #[.int .u64 (dgl (a) 1 : Nat), .int .u64 (dgl (a) 0 : Nat)] := hL 36 (by decide +kernel)
      simp [go_sem, hc, hf, e35, e36]
      refine (HNG.out W hC.g).mono ?_
      rintro e w' ⟨rfl, hb⟩
      exact ⟨_, rfl, by first | exact hb | (subst hb; exact Below.refl _ _), rfl⟩
    refine gSt (gStep_on 25 34 false rfl rfl (by decide +kernel) (fun v w h => h) (gRun_move 0 38 (.inl rfl) rfl (by decide +kernel) (fun v w h => h))) ?_
    refine gSt (gStep_on 25 34 false rfl rfl (by decide +kernel) (fun v w h => h) ?_) ?_
    · intro ρ W hC hc hf hL
      have e3 : ρ (.tmp 3) = .pointer (some ⟨w.heap.size, 0, none⟩) := hL 3 (by decide +kernel)
      have l0 := hC.h
      have l1 := hC.l
      simp [go_sem, hc, hf, e3, l0, l1]
      exact ⟨Below.refl _ _, rfl⟩
    refine gSt (gStep_on 25 34 false rfl rfl (by decide +kernel) (fun v w h => h) ?_) ?_
    · intro ρ W hC hc hf hL
      have e38 : ρ (.tmp 38) = .int .i64 f := hL 38 (by decide +kernel)
      have e39 : ρ (.tmp 39) = .agg #[.int .u64 (dgl (a) 1 : Nat), .int .u64 (dgl (a) 0 : Nat)] := hL 39 (by decide +kernel)
      simp [go_sem, hc, hf, e38, e39]
      refine (HRN.out W).mono ?_
      rintro e w' ⟨rfl, hb⟩
      exact ⟨_, rfl, by first | exact hb | (subst hb; exact Below.refl _ _), rfl⟩
    refine gSt (gStep_on 25 34 false rfl rfl (by decide +kernel) (fun v w h => h) ?_) ?_
    · intro ρ W hC hc hf hL
      have e37 : ρ (.tmp 37) = .bool ng := hL 37 (by decide +kernel)
      have e40 : ρ (.tmp 40) = .bool ng := hL 40 (by decide +kernel)
      simp [go_sem, hc, hf, e37, e40]
      exact ⟨Below.refl _ _, rfl⟩
    refine gSt (gStep_run rfl (gRun_pickCF 34 41 42 _ rfl rfl (by decide +kernel) (by decide +kernel) (fun v w h => h) (fun v w h => h))) ?_
    exact gSt0
  · intro W hC
    refine gFi 9 rfl ?_
    rintro _ rfl
    refine gFi 10 rfl ?_
    rintro _ rfl
    refine gFi 11 rfl ?_
    rintro _ rfl
    refine gFi 12 rfl ?_
    rintro _ rfl
    refine gFi 13 rfl ?_
    rintro _ rfl
    refine gFi 14 rfl ?_
    rintro _ rfl
    refine gFi 15 rfl ?_
    rintro _ rfl
    refine gFi 16 rfl ?_
    rintro _ rfl
    refine gFi 17 rfl ?_
    rintro _ rfl
    refine gFi 18 rfl ?_
    rintro _ rfl
    refine gFi 19 rfl ?_
    rintro _ rfl
    refine gFi 20 rfl ?_
    rintro _ rfl
    refine gFi 21 rfl ?_
    rintro _ rfl
    refine gFi 22 rfl ?_
    rintro _ rfl
    refine gFi 23 rfl ?_
    rintro _ rfl
    refine gFi 24 rfl ?_
    rintro _ rfl
    refine gFi 25 rfl ?_
    rintro _ rfl
    refine gFi 26 rfl ?_
    rintro _ rfl
    refine gFi 27 rfl ?_
    rintro _ rfl
    refine gFi 28 rfl ?_
    rintro _ rfl
    refine gFi 29 rfl ?_
    rintro _ rfl
    refine gFi 30 rfl ?_
    rintro _ rfl
    refine gFi 31 rfl ?_
    rintro _ rfl
    refine gFi 32 rfl ?_
    rintro _ rfl
    refine gFi 33 rfl ?_
    rintro _ rfl
    refine gFi 34 rfl ?_
    rintro _ rfl
    refine gFi 35 rfl ?_
    rintro _ rfl
    refine gFi 36 rfl ?_
    rintro _ rfl
    refine gFi 37 rfl ?_
    rintro _ rfl
    refine gFi 38 rfl ?_
    rintro _ rfl
    refine gFi 39 rfl ?_
    rintro _ rfl
    refine gFi 40 rfl ?_
    rintro _ rfl
    refine gFi 41 rfl ?_
    rintro _ rfl
    refine gFi 42 rfl ?_
    rintro _ rfl
    refine gFi0 ?_
    simp only [List.drop_succ_cons, List.drop_zero, Act.put, List.setIfInBounds_toArray, List.set_cons_succ, List.set_cons_zero]
    have HC := hide hC
    clear hC h1
    go_upto_region 6 with fail
    refine wp_gen (fun W => OwSt a w W) HC.out ?_
    clear HC
    rintro W2 h1
    refine wp_region_grow 41 [(73, .val (.int .i64 f)), (74, .val (.agg #[.int .u64 (dgl (a) 1 : Nat), .int .u64 (dgl (a) 0 : Nat)])), (75, .val (.int .i64 (fd : Nat))), (76, .val (.int .i64 f)), (77, .val (.agg #[.int .u64 (dgl (a) 1 : Nat), .int .u64 (dgl (a) 0 : Nat)])), (78, .val (.int .i64 (fd : Nat))), (79, .val (.bool true)), (80, .val (.bool true)), (81, .val (.int .i64 f)), (82, .val (.agg #[.int .u64 (dgl (a) 1 : Nat), .int .u64 (dgl (a) 0 : Nat)])), (83, .val (.agg #[.int .u64 (dgl (fr) 0 : Nat), .int .u64 (dgl (fr) 1 : Nat), .int .u64 (dgl (fr) 2 : Nat), .int .u64 (dgl (fr) 3 : Nat), .int .u64 (dgl (fr) 4 : Nat), .int .u64 (dgl (fr) 5 : Nat), .int .u64 (dgl (fr) 6 : Nat), .int .u64 (dgl (fr) 7 : Nat)])), (84, .val (.int .i64 f)), (85, .val (.agg #[.int .u64 (dgl (a) 1 : Nat), .int .u64 (dgl (a) 0 : Nat)])), (86, .val (.agg #[.int .u64 (dgl (fr) 0 : Nat), .int .u64 (dgl (fr) 1 : Nat), .int .u64 (dgl (fr) 2 : Nat), .int .u64 (dgl (fr) 3 : Nat), .int .u64 (dgl (fr) 4 : Nat), .int .u64 (dgl (fr) 5 : Nat), .int .u64 (dgl (fr) 6 : Nat), .int .u64 (dgl (fr) 7 : Nat)])), (87, .val (.bool true)), (88, .val (.bool true)), (89, .val (.bool true)), (90, .val (.int .i64 f)), (91, .val (.agg #[.int .u64 (dgl (a) 1 : Nat), .int .u64 (dgl (a) 0 : Nat)])), (92, .val (.agg #[.int .u64 (dgl (ab) 1 : Nat), .int .u64 (dgl (ab) 0 : Nat)])), (93, .val (.int .i64 f)), (94, .val (.agg #[.int .u64 (dgl (a) 1 : Nat), .int .u64 (dgl (a) 0 : Nat)])), (95, .val (.agg #[.int .u64 (dgl (ab) 1 : Nat), .int .u64 (dgl (ab) 0 : Nat)])), (96, .val (.bool true)), (97, .val (.bool true)), (98, .val (.bool true)), (99, .val (.int .i64 f)), (100, .val (.agg #[.int .u64 (dgl (a) 1 : Nat), .int .u64 (dgl (a) 0 : Nat)])), (101, .val (.agg #[.int .u64 (dgl (fl) 1 : Nat), .int .u64 (dgl (fl) 0 : Nat)])), (102, .val (.int .i64 f)), (103, .val (.agg #[.int .u64 (dgl (a) 1 : Nat), .int .u64 (dgl (a) 0 : Nat)])), (104, .val (.int .i64 f)), (105, .val (.agg #[.int .u64 (dgl (a) 1 : Nat), .int .u64 (dgl (a) 0 : Nat)])), (106, .val (.bool ng)), (107, .val (.bool (!ng))), (108, .val (.agg #[.int .u64 (dgl (fl) 1 : Nat), .int .u64 (dgl (fl) 0 : Nat)])), (109, .val (.bool true)), (110, .val (.bool true)), (111, .val (.bool true)), (112, .val (.bool true)), (113, .val (.bool true))]
      (fun W => OwSt a w W) mixedOk (by kernel_rfl) (by kernel_rfl) (h1.below (Below.refl _ _).drew) (fun W W' h hb => h.below hb) ?_ ?_
    · refine gSt (gStep_run rfl (gRun_move 0 73 (.inl rfl) rfl (by decide +kernel) (fun v w h => h))) ?_
      refine gSt (gStep_run rfl ?_) ?_
      · intro ρ W hC hc hf hL
        have e3 : ρ (.tmp 3) = .pointer (some ⟨w.heap.size, 0, none⟩) := hL 3 (by decide +kernel)
        have l0 := hC.h
        have l1 := hC.l
        simp [go_sem, hc, hf, e3, l0, l1]
        exact ⟨Below.refl _ _, rfl⟩
      refine gSt (gStep_run rfl ?_) ?_
      · intro ρ W hC hc hf hL
        have e73 : ρ (.tmp 73) = .int .i64 f := hL 73 (by decide +kernel)
        have e74 : ρ (.tmp 74) = .agg #[.int .u64 (dgl (a) 1 : Nat), .int .u64 (dgl (a) 0 : Nat)] := hL 74 (by decide +kernel)
        simp [go_sem, hc, hf, e73, e74]
        refine (HFD.out W hC.g).mono ?_
        rintro e w' ⟨rfl, hb⟩
        exact ⟨_, rfl, by first | exact hb | (subst hb; exact Below.refl _ _), rfl⟩
      refine gSt (gStep_run rfl (gRun_move 0 76 (.inl rfl) rfl (by decide +kernel) (fun v w h => h))) ?_
      refine gSt (gStep_run rfl ?_) ?_
      · intro ρ W hC hc hf hL
        have e3 : ρ (.tmp 3) = .pointer (some ⟨w.heap.size, 0, none⟩) := hL 3 (by decide +kernel)
        have l0 := hC.h
        have l1 := hC.l
        simp [go_sem, hc, hf, e3, l0, l1]
        exact ⟨Below.refl _ _, rfl⟩
      refine gSt (gStep_run rfl ?_) ?_
      · intro ρ W hC hc hf hL
        have e76 : ρ (.tmp 76) = .int .i64 f := hL 76 (by decide +kernel)
        have e77 : ρ (.tmp 77) = .agg #[.int .u64 (dgl (a) 1 : Nat), .int .u64 (dgl (a) 0 : Nat)] := hL 77 (by decide +kernel)
        simp [go_sem, hc, hf, e76, e77]
        refine (HRD.out W).mono ?_
        rintro e w' ⟨rfl, hb⟩
        exact ⟨_, rfl, by first | exact hb | (subst hb; exact Below.refl _ _), rfl⟩
      refine gSt (gStep_run rfl ?_) ?_
      · intro ρ W hC hc hf hL
        have e75 : ρ (.tmp 75) = .int .i64 (fd : Nat) := hL 75 (by decide +kernel)
        have e78 : ρ (.tmp 78) = .int .i64 (fd : Nat) := hL 78 (by decide +kernel)
        simp [go_sem, hc, hf, e75, e78]
        exact ⟨Below.refl _ _, rfl⟩
      refine gSt (gStep_run rfl (gRun_move 79 80 (.inl rfl) rfl (by decide +kernel) (fun v w h => h))) ?_
      refine gSt (gStep_on 7 80 true rfl rfl (by decide +kernel) (fun v w h => h) (gRun_move 0 81 (.inl rfl) rfl (by decide +kernel) (fun v w h => h))) ?_
      refine gSt (gStep_on 7 80 true rfl rfl (by decide +kernel) (fun v w h => h) ?_) ?_
      · intro ρ W hC hc hf hL
        have e3 : ρ (.tmp 3) = .pointer (some ⟨w.heap.size, 0, none⟩) := hL 3 (by decide +kernel)
        have l0 := hC.h
        have l1 := hC.l
        simp [go_sem, hc, hf, e3, l0, l1]
        exact ⟨Below.refl _ _, rfl⟩
      refine gSt (gStep_on 7 80 true rfl rfl (by decide +kernel) (fun v w h => h) ?_) ?_
      · intro ρ W hC hc hf hL
        have e81 : ρ (.tmp 81) = .int .i64 f := hL 81 (by decide +kernel)
        have e82 : ρ (.tmp 82) = .agg #[.int .u64 (dgl (a) 1 : Nat), .int .u64 (dgl (a) 0 : Nat)] := hL 82 (by decide +kernel)
        simp [go_sem, hc, hf, e81, e82]
        refine (HFR.out W hC.g).mono ?_
        rintro e w' ⟨rfl, hb⟩
        exact ⟨_, rfl, by first | exact hb | (subst hb; exact Below.refl _ _), rfl⟩
      refine gSt (gStep_on 7 80 true rfl rfl (by decide +kernel) (fun v w h => h) (gRun_move 0 84 (.inl rfl) rfl (by decide +kernel) (fun v w h => h))) ?_
      refine gSt (gStep_on 7 80 true rfl rfl (by decide +kernel) (fun v w h => h) ?_) ?_
      · intro ρ W hC hc hf hL
        have e3 : ρ (.tmp 3) = .pointer (some ⟨w.heap.size, 0, none⟩) := hL 3 (by decide +kernel)
        have l0 := hC.h
        have l1 := hC.l
        simp [go_sem, hc, hf, e3, l0, l1]
        exact ⟨Below.refl _ _, rfl⟩
      refine gSt (gStep_on 7 80 true rfl rfl (by decide +kernel) (fun v w h => h) ?_) ?_
      · intro ρ W hC hc hf hL
        have e84 : ρ (.tmp 84) = .int .i64 f := hL 84 (by decide +kernel)
        have e85 : ρ (.tmp 85) = .agg #[.int .u64 (dgl (a) 1 : Nat), .int .u64 (dgl (a) 0 : Nat)] := hL 85 (by decide +kernel)
        simp [go_sem, hc, hf, e84, e85]
        refine (HRR.out W).mono ?_
        rintro e w' ⟨rfl, hb⟩
        exact ⟨_, rfl, by first | exact hb | (subst hb; exact Below.refl _ _), rfl⟩
      refine gSt (gStep_on 7 80 true rfl rfl (by decide +kernel) (fun v w h => h) ?_) ?_
      · intro ρ W hC hc hf hL
        have e83 : ρ (.tmp 83) = .agg #[.int .u64 (dgl (fr) 0 : Nat), .int .u64 (dgl (fr) 1 : Nat), .int .u64 (dgl (fr) 2 : Nat), .int .u64 (dgl (fr) 3 : Nat), .int .u64 (dgl (fr) 4 : Nat), .int .u64 (dgl (fr) 5 : Nat), .int .u64 (dgl (fr) 6 : Nat), .int .u64 (dgl (fr) 7 : Nat)] := hL 83 (by decide +kernel)
        have e86 : ρ (.tmp 86) = .agg #[.int .u64 (dgl (fr) 0 : Nat), .int .u64 (dgl (fr) 1 : Nat), .int .u64 (dgl (fr) 2 : Nat), .int .u64 (dgl (fr) 3 : Nat), .int .u64 (dgl (fr) 4 : Nat), .int .u64 (dgl (fr) 5 : Nat), .int .u64 (dgl (fr) 6 : Nat), .int .u64 (dgl (fr) 7 : Nat)] := hL 86 (by decide +kernel)
        simp [go_sem, hc, hf, e83, e86]
        exact ⟨Below.refl _ _, rfl⟩
      refine gSt (gStep_run rfl (gRun_pickT 80 87 88 _ rfl rfl (by decide +kernel) (by decide +kernel) (fun v w h => h) (fun v w h => h))) ?_
      refine gSt (gStep_run rfl (gRun_move 88 89 (.inl rfl) rfl (by decide +kernel) (fun v w h => h))) ?_
      refine gSt (gStep_on 16 89 true rfl rfl (by decide +kernel) (fun v w h => h) (gRun_move 0 90 (.inl rfl) rfl (by decide +kernel) (fun v w h => h))) ?_
      refine gSt (gStep_on 16 89 true rfl rfl (by decide +kernel) (fun v w h => h) ?_) ?_
      · intro ρ W hC hc hf hL
        have e3 : ρ (.tmp 3) = .pointer (some ⟨w.heap.size, 0, none⟩) := hL 3 (by decide +kernel)
        have l0 := hC.h
        have l1 := hC.l
        simp [go_sem, hc, hf, e3, l0, l1]
        exact ⟨Below.refl _ _, rfl⟩
      refine gSt (gStep_on 16 89 true rfl rfl (by decide +kernel) (fun v w h => h) ?_) ?_
      · intro ρ W hC hc hf hL
        have e90 : ρ (.tmp 90) = .int .i64 f := hL 90 (by decide +kernel)
        have e91 : ρ (.tmp 91) = .agg #[.int .u64 (dgl (a) 1 : Nat), .int .u64 (dgl (a) 0 : Nat)] := hL 91 (by decide +kernel)
        simp [go_sem, hc, hf, e90, e91]
        refine (HAB.out W hC.g).mono ?_
        rintro e w' ⟨rfl, hb⟩
        exact ⟨_, rfl, by first | exact hb | (subst hb; exact Below.refl _ _), rfl⟩
      refine gSt (gStep_on 16 89 true rfl rfl (by decide +kernel) (fun v w h => h) (gRun_move 0 93 (.inl rfl) rfl (by decide +kernel) (fun v w h => h))) ?_
      refine gSt (gStep_on 16 89 true rfl rfl (by decide +kernel) (fun v w h => h) ?_) ?_
      · intro ρ W hC hc hf hL
        have e3 : ρ (.tmp 3) = .pointer (some ⟨w.heap.size, 0, none⟩) := hL 3 (by decide +kernel)
        have l0 := hC.h
        have l1 := hC.l
        simp [go_sem, hc, hf, e3, l0, l1]
        exact ⟨Below.refl _ _, rfl⟩
      refine gSt (gStep_on 16 89 true rfl rfl (by decide +kernel) (fun v w h => h) ?_) ?_
      · intro ρ W hC hc hf hL
        have e93 : ρ (.tmp 93) = .int .i64 f := hL 93 (by decide +kernel)
        have e94 : ρ (.tmp 94) = .agg #[.int .u64 (dgl (a) 1 : Nat), .int .u64 (dgl (a) 0 : Nat)] := hL 94 (by decide +kernel)
        simp [go_sem, hc, hf, e93, e94]
        refine (HSA.out W).mono ?_
        rintro e w' ⟨rfl, hb⟩
        exact ⟨_, rfl, by first | exact hb | (subst hb; exact Below.refl _ _), rfl⟩
      refine gSt (gStep_on 16 89 true rfl rfl (by decide +kernel) (fun v w h => h) ?_) ?_
      · intro ρ W hC hc hf hL
        have e92 : ρ (.tmp 92) = .agg #[.int .u64 (dgl (ab) 1 : Nat), .int .u64 (dgl (ab) 0 : Nat)] := hL 92 (by decide +kernel)
        have e95 : ρ (.tmp 95) = .agg #[.int .u64 (dgl (ab) 1 : Nat), .int .u64 (dgl (ab) 0 : Nat)] := hL 95 (by decide +kernel)
        have hl := fun w => word_same (dgl (ab) 1) (dgl (ab) 0) w
        simp [go_sem, hc, hf, e92, e95, hl]
        exact ⟨Below.refl _ _, rfl⟩
      refine gSt (gStep_run rfl (gRun_pickT 89 96 97 _ rfl rfl (by decide +kernel) (by decide +kernel) (fun v w h => h) (fun v w h => h))) ?_
      refine gSt (gStep_run rfl (gRun_move 97 98 (.inl rfl) rfl (by decide +kernel) (fun v w h => h))) ?_
      refine gSt (gStep_on 25 98 true rfl rfl (by decide +kernel) (fun v w h => h) (gRun_move 0 99 (.inl rfl) rfl (by decide +kernel) (fun v w h => h))) ?_
      refine gSt (gStep_on 25 98 true rfl rfl (by decide +kernel) (fun v w h => h) ?_) ?_
      · intro ρ W hC hc hf hL
        have e3 : ρ (.tmp 3) = .pointer (some ⟨w.heap.size, 0, none⟩) := hL 3 (by decide +kernel)
        have l0 := hC.h
        have l1 := hC.l
        simp [go_sem, hc, hf, e3, l0, l1]
        exact ⟨Below.refl _ _, rfl⟩
      refine gSt (gStep_on 25 98 true rfl rfl (by decide +kernel) (fun v w h => h) ?_) ?_
      · intro ρ W hC hc hf hL
        have e99 : ρ (.tmp 99) = .int .i64 f := hL 99 (by decide +kernel)
        have e100 : ρ (.tmp 100) = .agg #[.int .u64 (dgl (a) 1 : Nat), .int .u64 (dgl (a) 0 : Nat)] := hL 100 (by decide +kernel)
        simp [go_sem, hc, hf, e99, e100]
        refine (HFL.out W hC.g).mono ?_
        rintro e w' ⟨rfl, hb⟩
        exact ⟨_, rfl, by first | exact hb | (subst hb; exact Below.refl _ _), rfl⟩
      refine gSt (gStep_on 25 98 true rfl rfl (by decide +kernel) (fun v w h => h) (gRun_move 0 102 (.inl rfl) rfl (by decide +kernel) (fun v w h => h))) ?_
      refine gSt (gStep_on 25 98 true rfl rfl (by decide +kernel) (fun v w h => h) ?_) ?_
      · intro ρ W hC hc hf hL
        have e3 : ρ (.tmp 3) = .pointer (some ⟨w.heap.size, 0, none⟩) := hL 3 (by decide +kernel)
        have l0 := hC.h
        have l1 := hC.l
        simp [go_sem, hc, hf, e3, l0, l1]
        exact ⟨Below.refl _ _, rfl⟩
      refine gSt (gStep_on 25 98 true rfl rfl (by decide +kernel) (fun v w h => h) (gRun_move 0 104 (.inl rfl) rfl (by decide +kernel) (fun v w h => h))) ?_
      refine gSt (gStep_on 25 98 true rfl rfl (by decide +kernel) (fun v w h => h) ?_) ?_
      · intro ρ W hC hc hf hL
        have e3 : ρ (.tmp 3) = .pointer (some ⟨w.heap.size, 0, none⟩) := hL 3 (by decide +kernel)
        have l0 := hC.h
        have l1 := hC.l
        simp [go_sem, hc, hf, e3, l0, l1]
        exact ⟨Below.refl _ _, rfl⟩
      refine gSt (gStep_on 25 98 true rfl rfl (by decide +kernel) (fun v w h => h) ?_) ?_
      · intro ρ W hC hc hf hL
        have e104 : ρ (.tmp 104) = .int .i64 f := hL 104 (by decide +kernel)
        have e105 : ρ (.tmp 105) = .agg #[.int .u64 (dgl (a) 1 : Nat), .int .u64 (dgl (a) 0 : Nat)] := hL 105 (by decide +kernel)
        simp [go_sem, hc, hf, e104, e105]
        refine (HRN.out W).mono ?_
        rintro e w' ⟨rfl, hb⟩
        exact ⟨_, rfl, by first | exact hb | (subst hb; exact Below.refl _ _), rfl⟩
      refine gSt (gStep_on 25 98 true rfl rfl (by decide +kernel) (fun v w h => h) ?_) ?_
      · intro ρ W hC hc hf hL
        have e106 : ρ (.tmp 106) = .bool ng := hL 106 (by decide +kernel)
        simp [go_sem, hc, hf, e106]
        exact ⟨Below.refl _ _, rfl⟩
      refine gSt (gStep_on 25 98 true rfl rfl (by decide +kernel) (fun v w h => h) ?_) ?_
      · intro ρ W hC hc hf hL
        have e102 : ρ (.tmp 102) = .int .i64 f := hL 102 (by decide +kernel)
        have e103 : ρ (.tmp 103) = .agg #[.int .u64 (dgl (a) 1 : Nat), .int .u64 (dgl (a) 0 : Nat)] := hL 103 (by decide +kernel)
        have e107 : ρ (.tmp 107) = .bool (!ng) := hL 107 (by decide +kernel)
        simp [go_sem, hc, hf, e102, e103, e107]
        refine (HSF.out W).mono ?_
        rintro e w' ⟨rfl, hb⟩
        exact ⟨_, rfl, by first | exact hb | (subst hb; exact Below.refl _ _), rfl⟩
      refine gSt (gStep_on 25 98 true rfl rfl (by decide +kernel) (fun v w h => h) ?_) ?_
      · intro ρ W hC hc hf hL
        have e101 : ρ (.tmp 101) = .agg #[.int .u64 (dgl (fl) 1 : Nat), .int .u64 (dgl (fl) 0 : Nat)] := hL 101 (by decide +kernel)
        have e108 : ρ (.tmp 108) = .agg #[.int .u64 (dgl (fl) 1 : Nat), .int .u64 (dgl (fl) 0 : Nat)] := hL 108 (by decide +kernel)
        have hl := fun w => word_same (dgl (fl) 1) (dgl (fl) 0) w
        simp [go_sem, hc, hf, e101, e108, hl]
        exact ⟨Below.refl _ _, rfl⟩
      refine gSt (gStep_run rfl (gRun_pickT 98 109 110 _ rfl rfl (by decide +kernel) (by decide +kernel) (fun v w h => h) (fun v w h => h))) ?_
      refine gSt (gStep_run rfl (gRun_move 110 111 (.inl rfl) rfl (by decide +kernel) (fun v w h => h))) ?_
      refine gSt (gStep_on 38 111 true rfl rfl (by decide +kernel) (fun v w h => h) ?_) ?_
      · intro ρ W hC hc hf hL
        simp [go_sem, hc, hf]
        refine (awake6_any W hC.g).mono ?_
        rintro e w' ⟨rfl, hb⟩
        exact ⟨_, rfl, by first | exact hb | (subst hb; exact Below.refl _ _), rfl⟩
      refine gSt (gStep_run rfl (gRun_pickT 111 112 113 _ rfl rfl (by decide +kernel) (by decide +kernel) (fun v w h => h) (fun v w h => h))) ?_
      exact gSt0
    · intro W hC
      refine gFi 73 rfl ?_
      rintro _ rfl
      refine gFi 74 rfl ?_
      rintro _ rfl
      refine gFi 75 rfl ?_
      rintro _ rfl
      refine gFi 76 rfl ?_
      rintro _ rfl
      refine gFi 77 rfl ?_
      rintro _ rfl
      refine gFi 78 rfl ?_
      rintro _ rfl
      refine gFi 79 rfl ?_
      rintro _ rfl
      refine gFi 80 rfl ?_
      rintro _ rfl
      refine gFi 81 rfl ?_
      rintro _ rfl
      refine gFi 82 rfl ?_
      rintro _ rfl
      refine gFi 83 rfl ?_
      rintro _ rfl
      refine gFi 84 rfl ?_
      rintro _ rfl
      refine gFi 85 rfl ?_
      rintro _ rfl
      refine gFi 86 rfl ?_
      rintro _ rfl
      refine gFi 87 rfl ?_
      rintro _ rfl
      refine gFi 88 rfl ?_
      rintro _ rfl
      refine gFi 89 rfl ?_
      rintro _ rfl
      refine gFi 90 rfl ?_
      rintro _ rfl
      refine gFi 91 rfl ?_
      rintro _ rfl
      refine gFi 92 rfl ?_
      rintro _ rfl
      refine gFi 93 rfl ?_
      rintro _ rfl
      refine gFi 94 rfl ?_
      rintro _ rfl
      refine gFi 95 rfl ?_
      rintro _ rfl
      refine gFi 96 rfl ?_
      rintro _ rfl
      refine gFi 97 rfl ?_
      rintro _ rfl
      refine gFi 98 rfl ?_
      rintro _ rfl
      refine gFi 99 rfl ?_
      rintro _ rfl
      refine gFi 100 rfl ?_
      rintro _ rfl
      refine gFi 101 rfl ?_
      rintro _ rfl
      refine gFi 102 rfl ?_
      rintro _ rfl
      refine gFi 103 rfl ?_
      rintro _ rfl
      refine gFi 104 rfl ?_
      rintro _ rfl
      refine gFi 105 rfl ?_
      rintro _ rfl
      refine gFi 106 rfl ?_
      rintro _ rfl
      refine gFi 107 rfl ?_
      rintro _ rfl
      refine gFi 108 rfl ?_
      rintro _ rfl
      refine gFi 109 rfl ?_
      rintro _ rfl
      refine gFi 110 rfl ?_
      rintro _ rfl
      refine gFi 111 rfl ?_
      rintro _ rfl
      refine gFi 112 rfl ?_
      rintro _ rfl
      refine gFi 113 rfl ?_
      rintro _ rfl
      refine gFi0 ?_
      simp only [List.drop_succ_cons, List.drop_zero, Act.put, List.setIfInBounds_toArray, List.set_cons_succ, List.set_cons_zero]
      have HB := hide hC.bel
      clear hC h1
      go_wp2
      go_ret
      exact ⟨rfl, HB.out⟩

theorem clsN_ne {B P F a : Nat} (h : a < 2 ^ B) : clsN B P F a ≠ 0 := by
  unfold clsN clsP
  rw [if_pos h]
  split
  · split
    · decide
    · split <;> decide
  · split
    · split <;> decide
    · decide
theorem cls_zero (f : Int) (a : Nat) (h : clsU f a = 0) : fldU f a = 0 ∧ frcU f a = 0 ∧ absU f a = 0 ∧ flipU f a = 0 := by
  rcases f_cases f with rfl | rfl | rfl | rfl | h0
  · have hn : ¬ a < 2 ^ 16 := fun hn => clsN_ne (P := 11) (F := 5) hn h
    exact ⟨if_neg hn, if_neg hn, if_neg hn, if_neg hn⟩
  · have hn : ¬ a < 2 ^ 32 := fun hn => clsN_ne (P := 24) (F := 8) hn h
    exact ⟨if_neg hn, if_neg hn, if_neg hn, if_neg hn⟩
  · have hn : ¬ a < 2 ^ 64 := fun hn => clsN_ne (P := 53) (F := 11) hn h
    exact ⟨if_neg hn, if_neg hn, if_neg hn, if_neg hn⟩
  · have hn : ¬ a < 2 ^ 128 := fun hn => clsN_ne (P := 113) (F := 15) hn h
    exact ⟨if_neg hn, if_neg hn, if_neg hn, if_neg hn⟩
  · exact ⟨tU_none f h0 _ _ _ _ _, tU_none f h0 _ _ _ _ _, tU_none f h0 _ _ _ _ _, tU_none f h0 _ _ _ _ _⟩

theorem word_num (hi lo : Nat) (hh : hi < 18446744073709551616) (hl : lo < 18446744073709551616) : dgl (lo + 18446744073709551616 * hi) 1 = hi ∧ dgl (lo + 18446744073709551616 * hi) 0 = lo := by
  rw [dgl0, dgl1]
  omega

theorem classOf_num (f : Int) (a : Nat) (ha : a < 2 ^ 128) (w : World) (hg : FmtG w) :
    Calls Tryd.prog 3 #[.int .i64 f, .agg #[.int .u64 (dgl (a) 1 : Nat), .int .u64 (dgl (a) 0 : Nat)]] w fun e w' => e = .returned (.bool true) ∧ Below w.heap.size w w' := by
  have HK := fun w => refCls_u f a ha w
  have HO := fun w hg => cof_u f a ha w hg
  have HFN := fun w hg => cfin_u f a ha w hg
  have HNA := fun w hg => cnan_u f a ha w hg
  have HNG := fun w hg => cneg_u f a ha w hg
  have HRN := fun w => refNeg_u f a ha w
  have HFD := fun w hg => cfld_u f a ha w hg
  have HFR := fun w hg => cfrac_u f a ha w hg
  have HAB := fun w hg => cabs_u f a ha w hg
  have HFL := fun w hg => cflip_u f a ha w hg
  by_cases h0 : clsU f a = 0
  · obtain ⟨z1, z2, z3, z4⟩ := cls_zero f a h0
    rw [h0] at HK HO HFN HNA
    rw [z1] at HFD
    rw [z2] at HFR
    rw [z3] at HAB
    rw [z4] at HFL
    simp only [dgl_zero] at HFR HAB HFL
    exact classOf_zero f a _ HK HO HFN HNA HNG HRN HFD HFR HAB HFL w hg
  · have HRD := fun w => refFld_u f a ha h0 w
    have HRR := fun w => refFrac_u f a ha h0 w
    have HSA := fun w => refSgn_u f a ha false h0 w
    have HSF := fun w => refSgn_u f a ha (!negU f a) h0 w
    rw [sgn_abs f a h0] at HSA
    rw [sgn_flip f a h0] at HSF
    by_cases h1 : clsU f a = 1
    · rw [h1] at HK HO HFN HNA
      exact classOf_one f a _ _ _ _ _ HK HO HFN HNA HNG HRN HFD HRD HFR HRR HAB HSA HFL HSF w hg
    · have e1 : decide (clsU f a = 1) = false := decide_eq_false h1
      rw [e1, Bool.false_or] at HNA
      exact classOf_more f a _ _ _ _ _ _ _ (clsU f a) (by omega) (by rw [decide_eq_decide]; omega) (by rw [beq_eq_false_iff_ne]; omega) (by rw [Bool.eq_iff_iff, beq_iff_eq, decide_eq_true_iff]; omega) HK HO HFN HNA HNG HRN HFD HRD HFR HRR HAB HSA HFL HSF w hg
theorem classOf_all (f : Int) (hi lo : Nat) (hh : hi < 18446744073709551616) (hl : lo < 18446744073709551616) (w : World) (hg : FmtG w) :
    Calls Tryd.prog 3 #[.int .i64 f, .agg #[.int .u64 (hi : Nat), .int .u64 (lo : Nat)]] w fun e w' => e = .returned (.bool true) ∧ Below w.heap.size w w' := by
  have h := classOf_num f (lo + 18446744073709551616 * hi) (by omega) w hg
  rw [(word_num hi lo hh hl).1, (word_num hi lo hh hl).2] at h
  exact h

end Go.Proofs.YtidfegilddlglaaDoor

