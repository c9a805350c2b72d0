/- Contracts: radicandref03.Mul; radicandlaw03.awake. -/
import Derived.Test.YtenbomfoihajhaaProdF
set_option linter.unusedVariables false
set_option linter.unusedSimpArgs false
set_option maxRecDepth 8000
namespace Go.Proofs.Ytenbomfoihajhaa
open Go.RowKit Plain

structure TwoSt (w : World) (fa fb : Nat → Nat) (W : World) : Prop where
  la : LiesF W w.heap.size fa
  lb : LiesF W (w.heap.size + 1) fb
  bel : Below w.heap.size w W
theorem TwoSt.below {w : World} {fa fb : Nat → Nat} {W W' : World} (h : TwoSt w fa fb W) (hb : Below W.heap.size W W') : TwoSt w fa fb W' :=
  ⟨h.la.below hb, h.lb.below hb, below_trans h.bel hb⟩
theorem TwoSt.start (w : World) (fa fb : Nat → Nat) : TwoSt w fa fb ((w.alloc (.cells #[.int .u64 (fa 0 : Nat), .int .u64 (fa 1 : Nat), .int .u64 (fa 2 : Nat), .int .u64 (fa 3 : Nat), .int .u64 (fa 4 : Nat), .int .u64 (fa 5 : Nat), .int .u64 (fa 6 : Nat), .int .u64 (fa 7 : Nat)] 24)).alloc (.cells #[.int .u64 (fb 0 : Nat), .int .u64 (fb 1 : Nat), .int .u64 (fb 2 : Nat), .int .u64 (fb 3 : Nat), .int .u64 (fb 4 : Nat), .int .u64 (fb 5 : Nat), .int .u64 (fb 6 : Nat), .int .u64 (fb 7 : Nat)] 24)) := by
  have hlb := liesF_new (w.alloc (.cells #[.int .u64 (fa 0 : Nat), .int .u64 (fa 1 : Nat), .int .u64 (fa 2 : Nat), .int .u64 (fa 3 : Nat), .int .u64 (fa 4 : Nat), .int .u64 (fa 5 : Nat), .int .u64 (fa 6 : Nat), .int .u64 (fa 7 : Nat)] 24)) fb 24
  rw [World.size_alloc] at hlb
  exact ⟨(liesF_new w fa 24).alloc _, hlb, below_trans (below_allocs w _) (below_allocs _ _)⟩

set_option maxHeartbeats 1000000 in
theorem ref3Mul_any (a b : Nat) (ha : a < QQ) (hb : b < QQ) (w : World) :
    Calls Try.prog 44 #[.agg #[.int .u64 (dgl (a) 0 : Nat), .int .u64 (dgl (a) 1 : Nat), .int .u64 (dgl (a) 2 : Nat), .int .u64 (dgl (a) 3 : Nat), .int .u64 (dgl (a) 4 : Nat), .int .u64 (dgl (a) 5 : Nat), .int .u64 (dgl (a) 6 : Nat), .int .u64 (dgl (a) 7 : Nat)], .agg #[.int .u64 (dgl (b) 0 : Nat), .int .u64 (dgl (b) 1 : Nat), .int .u64 (dgl (b) 2 : Nat), .int .u64 (dgl (b) 3 : Nat), .int .u64 (dgl (b) 4 : Nat), .int .u64 (dgl (b) 5 : Nat), .int .u64 (dgl (b) 6 : Nat), .int .u64 (dgl (b) 7 : Nat)]] w fun e w' => ∃ v, e = .returned v ∧ BigV w' v (a * b) 80 ∧ Below w.heap.size w w' := by
  have HA := hide (fun w => refBig_any a ha w)
  have HB := hide (fun w => refBig_any b hb w)
  have HST := hide (TwoSt.start w (dgl a) (dgl b))
  clear ha hb
  go_enter Try.func44, Try.ntmps44
  go_upto_region 1 with fail
  refine wp_gen (fun W => TwoSt w (dgl a) (dgl b) W) HST.out ?_
  rintro W1 h1
  clear HST
  refine wp_region_grow 6 [(5, .val (.agg #[.int .u64 (dgl (a) 0 : Nat), .int .u64 (dgl (a) 1 : Nat), .int .u64 (dgl (a) 2 : Nat), .int .u64 (dgl (a) 3 : Nat), .int .u64 (dgl (a) 4 : Nat), .int .u64 (dgl (a) 5 : Nat), .int .u64 (dgl (a) 6 : Nat), .int .u64 (dgl (a) 7 : Nat)])), (6, .big a 40), (7, .val (.agg #[.int .u64 (dgl (b) 0 : Nat), .int .u64 (dgl (b) 1 : Nat), .int .u64 (dgl (b) 2 : Nat), .int .u64 (dgl (b) 3 : Nat), .int .u64 (dgl (b) 4 : Nat), .int .u64 (dgl (b) 5 : Nat), .int .u64 (dgl (b) 6 : Nat), .int .u64 (dgl (b) 7 : Nat)])), (8, .big b 40), (9, .big (a * b) 80), (4, .big (a * b) 80)]
    (fun W => TwoSt w (dgl a) (dgl b) W) mixedOk (by kernel_rfl) (by kernel_rfl) (h1.below (Below.refl _ _).drew) (fun W W' h hb => h.below hb) ?_ ?_
  · refine gSt (gStep_run rfl ?_) ?_
    · intro ρ W hC hc hf hL
      have e2 : ρ (.tmp 2) = .pointer (some ⟨w.heap.size, 0, none⟩) := hL 2 (by decide +kernel)
      have hl := hC.la.1
      simp [go_sem, hc, hf, e2, hl]
      exact ⟨Below.refl _ _, rfl⟩
    refine gSt (gStep_run rfl ?_) ?_
    · intro ρ W hC hc hf hL
      have e5 : ρ (.tmp 5) = .agg #[.int .u64 (dgl (a) 0 : Nat), .int .u64 (dgl (a) 1 : Nat), .int .u64 (dgl (a) 2 : Nat), .int .u64 (dgl (a) 3 : Nat), .int .u64 (dgl (a) 4 : Nat), .int .u64 (dgl (a) 5 : Nat), .int .u64 (dgl (a) 6 : Nat), .int .u64 (dgl (a) 7 : Nat)] := hL 5 (by decide +kernel)
      simp [go_sem, hc, hf, e5]
      refine (HA.out _).mono ?_
      rintro e w' ⟨v, rfl, hv, hb⟩
      exact ⟨_, rfl, hb, hv⟩
    refine gSt (gStep_run rfl ?_) ?_
    · intro ρ W hC hc hf hL
      have e3 : ρ (.tmp 3) = .pointer (some ⟨w.heap.size + 1, 0, none⟩) := hL 3 (by decide +kernel)
      have hl := hC.lb.1
      simp [go_sem, hc, hf, e3, hl]
      exact ⟨Below.refl _ _, rfl⟩
    refine gSt (gStep_run rfl ?_) ?_
    · intro ρ W hC hc hf hL
      have e7 : ρ (.tmp 7) = .agg #[.int .u64 (dgl (b) 0 : Nat), .int .u64 (dgl (b) 1 : Nat), .int .u64 (dgl (b) 2 : Nat), .int .u64 (dgl (b) 3 : Nat), .int .u64 (dgl (b) 4 : Nat), .int .u64 (dgl (b) 5 : Nat), .int .u64 (dgl (b) 6 : Nat), .int .u64 (dgl (b) 7 : Nat)] := hL 7 (by decide +kernel)
      simp [go_sem, hc, hf, e7]
      refine (HB.out _).mono ?_
      rintro e w' ⟨v, rfl, hv, hb⟩
      exact ⟨_, rfl, hb, hv⟩
    refine gSt (gStep_run rfl ?_) ?_
    · intro ρ W hC hc hf hL
      have b6 : BigV W (ρ (.tmp 6)) (a) (40) := hL 6 (by decide +kernel)
      have b8 : BigV W (ρ (.tmp 8)) (b) (40) := hL 8 (by decide +kernel)
      simp [go_sem, hc, hf]
      refine (refMul_any a b 40 40 _ _ _ b6 b8 (by omega) (by omega)).mono ?_
      rintro e w' ⟨v, rfl, hv, hb⟩
      exact ⟨_, rfl, hb, hv⟩
    refine gSt (gStep_run rfl (gRun_move 9 4 (.inr rfl) rfl (by decide +kernel) (fun v w h => h))) ?_
    exact gSt0
  · intro W hC
    refine gFi 5 rfl ?_
    rintro _ rfl
    refine gFi 6 rfl ?_
    rintro u6 b6
    refine gFi 7 rfl ?_
    rintro _ rfl
    refine gFi 8 rfl ?_
    rintro u8 b8
    refine gFi 9 rfl ?_
    rintro u9 b9
    refine gFi 4 rfl ?_
    rintro u4 b4
    refine gFi0 ?_
    simp only [List.drop_succ_cons, List.drop_zero, Act.put, List.setIfInBounds_toArray, List.set_cons_succ, List.set_cons_zero]
    have HB0 := hide hC.bel
    clear hC h1 b6 b8 b9
    go_wp2
    go_ret
    exact ⟨_, rfl, b4, HB0.out⟩

theorem power_lt (n q : Nat) (hq : 2 ^ q = QQ) (h : n < q) (x : Int) (hx : x = (n : Int)) (hq5 : q = 512) (w : World) :
    Calls Try.prog 36 #[.int .i64 x] w fun e w' => e = .returned (.agg #[.int .u64 (dgl (2 ^ n) 0 : Nat), .int .u64 (dgl (2 ^ n) 1 : Nat), .int .u64 (dgl (2 ^ n) 2 : Nat), .int .u64 (dgl (2 ^ n) 3 : Nat), .int .u64 (dgl (2 ^ n) 4 : Nat), .int .u64 (dgl (2 ^ n) 5 : Nat), .int .u64 (dgl (2 ^ n) 6 : Nat), .int .u64 (dgl (2 ^ n) 7 : Nat)]) ∧ Below w.heap.size w w' := by
  subst hx
  have h1 := widePower_any (n : Int) (by omega) w
  have e1 : roomI (n : Int) = (n : Int) := by unfold roomI; omega
  rw [e1, sh_up, Nat.one_mul] at h1
  exact h1

set_option maxHeartbeats 2000000 in
theorem awake3_walk (X Y : Nat) (w : World)
    (HP : Hid (∀ w, Calls Try.prog 36 #[.int .i64 256] w fun e w' => e = .returned (.agg #[.int .u64 (dgl (X) 0 : Nat), .int .u64 (dgl (X) 1 : Nat), .int .u64 (dgl (X) 2 : Nat), .int .u64 (dgl (X) 3 : Nat), .int .u64 (dgl (X) 4 : Nat), .int .u64 (dgl (X) 5 : Nat), .int .u64 (dgl (X) 6 : Nat), .int .u64 (dgl (X) 7 : Nat)]) ∧ Below w.heap.size w w'))
    (HY : Hid (∀ w, Calls Try.prog 36 #[.int .i64 212] w fun e w' => e = .returned (.agg #[.int .u64 (dgl (Y) 0 : Nat), .int .u64 (dgl (Y) 1 : Nat), .int .u64 (dgl (Y) 2 : Nat), .int .u64 (dgl (Y) 3 : Nat), .int .u64 (dgl (Y) 4 : Nat), .int .u64 (dgl (Y) 5 : Nat), .int .u64 (dgl (Y) 6 : Nat), .int .u64 (dgl (Y) 7 : Nat)]) ∧ Below w.heap.size w w'))
    (HM : Hid (∀ w, Calls Try.prog 43 #[.agg #[.int .u64 (dgl (X) 0 : Nat), .int .u64 (dgl (X) 1 : Nat), .int .u64 (dgl (X) 2 : Nat), .int .u64 (dgl (X) 3 : Nat), .int .u64 (dgl (X) 4 : Nat), .int .u64 (dgl (X) 5 : Nat), .int .u64 (dgl (X) 6 : Nat), .int .u64 (dgl (X) 7 : Nat)], .agg #[.int .u64 (dgl (X) 0 : Nat), .int .u64 (dgl (X) 1 : Nat), .int .u64 (dgl (X) 2 : Nat), .int .u64 (dgl (X) 3 : Nat), .int .u64 (dgl (X) 4 : Nat), .int .u64 (dgl (X) 5 : Nat), .int .u64 (dgl (X) 6 : Nat), .int .u64 (dgl (X) 7 : Nat)]] w fun e w' => e = .returned (.tuple #[.agg #[.int .u64 (dgl (QQ) 0 : Nat), .int .u64 (dgl (QQ) 1 : Nat), .int .u64 (dgl (QQ) 2 : Nat), .int .u64 (dgl (QQ) 3 : Nat), .int .u64 (dgl (QQ) 4 : Nat), .int .u64 (dgl (QQ) 5 : Nat), .int .u64 (dgl (QQ) 6 : Nat), .int .u64 (dgl (QQ) 7 : Nat)], .bool false]) ∧ Below w.heap.size w w'))
    (HH : Hid (∀ w, Calls Try.prog 49 #[.agg #[.int .u64 (dgl (X) 0 : Nat), .int .u64 (dgl (X) 1 : Nat), .int .u64 (dgl (X) 2 : Nat), .int .u64 (dgl (X) 3 : Nat), .int .u64 (dgl (X) 4 : Nat), .int .u64 (dgl (X) 5 : Nat), .int .u64 (dgl (X) 6 : Nat), .int .u64 (dgl (X) 7 : Nat)], .agg #[.int .u64 (dgl (X) 0 : Nat), .int .u64 (dgl (X) 1 : Nat), .int .u64 (dgl (X) 2 : Nat), .int .u64 (dgl (X) 3 : Nat), .int .u64 (dgl (X) 4 : Nat), .int .u64 (dgl (X) 5 : Nat), .int .u64 (dgl (X) 6 : Nat), .int .u64 (dgl (X) 7 : Nat)], .int .i64 300] w fun e w' => e = .returned (.tuple #[.agg #[.int .u64 (dgl (Y) 0 : Nat), .int .u64 (dgl (Y) 1 : Nat), .int .u64 (dgl (Y) 2 : Nat), .int .u64 (dgl (Y) 3 : Nat), .int .u64 (dgl (Y) 4 : Nat), .int .u64 (dgl (Y) 5 : Nat), .int .u64 (dgl (Y) 6 : Nat), .int .u64 (dgl (Y) 7 : Nat)], .bool false]) ∧ Below w.heap.size w w'))
    (hqz : ∀ w, (Op.equalIn 10000 24 (.agg #[.int .u64 (dgl (QQ) 0 : Nat), .int .u64 (dgl (QQ) 1 : Nat), .int .u64 (dgl (QQ) 2 : Nat), .int .u64 (dgl (QQ) 3 : Nat), .int .u64 (dgl (QQ) 4 : Nat), .int .u64 (dgl (QQ) 5 : Nat), .int .u64 (dgl (QQ) 6 : Nat), .int .u64 (dgl (QQ) 7 : Nat)]) (.agg #[.int .u64 0, .int .u64 0, .int .u64 0, .int .u64 0, .int .u64 0, .int .u64 0, .int .u64 0, .int .u64 0])).run Try.prog w = .ok true w) :
    Calls Try.prog 48 #[] w fun e w' => e = .returned (.bool true) ∧ Below w.heap.size w w' := by
  have HBL := hide (Below.refl w.heap.size w)
  go_enter Try.func48, Try.ntmps48
  go_wp2_with fail
  refine (HP.out _).mono ?_
  rintro e w1 ⟨rfl, hb1⟩
  replace HBL := hide (below_trans HBL.out hb1)
  clear hb1
  go_wp2_with fail
  refine (HP.out _).mono ?_
  rintro e w2 ⟨rfl, hb2⟩
  replace HBL := hide (below_trans HBL.out hb2)
  clear hb2
  go_wp2_with fail
  refine (HM.out _).mono ?_
  rintro e w3 ⟨rfl, hb3⟩
  replace HBL := hide (below_trans HBL.out hb3)
  clear hb3
  go_upto_region 2 with fail
  refine wp_gen (fun W => Below w.heap.size w W ∧ LiesF W w3.heap.size (dgl QQ)) ⟨below_trans HBL.out (below_allocs _ _), liesF_new _ _ _⟩ ?_
  rintro W3 ⟨gHBL, gH1⟩
  generalize w3.heap.size = p1 at *
  replace HBL := hide gHBL
  have H1 := hide gH1
  clear gHBL gH1
  go_wp2_with fail
  refine (HP.out _).mono ?_
  rintro e w4 ⟨rfl, hb4⟩
  replace HBL := hide (below_trans HBL.out hb4)
  replace H1 := hide (H1.out.below hb4)
  clear hb4
  go_wp2_with fail
  refine (HP.out _).mono ?_
  rintro e w5 ⟨rfl, hb5⟩
  replace HBL := hide (below_trans HBL.out hb5)
  replace H1 := hide (H1.out.below hb5)
  clear hb5
  go_wp2_with fail
  refine (HH.out _).mono ?_
  rintro e w6 ⟨rfl, hb6⟩
  replace HBL := hide (below_trans HBL.out hb6)
  replace H1 := hide (H1.out.below hb6)
  clear hb6
  go_upto_region 3 with fail
  refine wp_gen (fun W => Below w.heap.size w W ∧ LiesF W (p1) (dgl QQ) ∧ LiesF W w6.heap.size (dgl Y)) ⟨below_trans HBL.out (below_allocs _ _), H1.out.below (below_allocs _ _), liesF_new _ _ _⟩ ?_
  rintro W6 ⟨gHBL, gH1, gH3⟩
  generalize w6.heap.size = p3 at *
  replace HBL := hide gHBL
  replace H1 := hide gH1
  have H3 := hide gH3
  clear gHBL gH1 gH3
  refine wp_region_grow 17 [(17, .val (.agg #[.int .u64 (dgl (QQ) 0 : Nat), .int .u64 (dgl (QQ) 1 : Nat), .int .u64 (dgl (QQ) 2 : Nat), .int .u64 (dgl (QQ) 3 : Nat), .int .u64 (dgl (QQ) 4 : Nat), .int .u64 (dgl (QQ) 5 : Nat), .int .u64 (dgl (QQ) 6 : Nat), .int .u64 (dgl (QQ) 7 : Nat)])), (18, .val (.agg #[.int .u64 0, .int .u64 0, .int .u64 0, .int .u64 0, .int .u64 0, .int .u64 0, .int .u64 0, .int .u64 0])), (19, .val (.bool true)), (20, .val (.bool true)), (21, .val (.bool false)), (22, .val (.bool true)), (23, .val (.bool true)), (24, .val (.bool true)), (25, .val (.agg #[.int .u64 (dgl (Y) 0 : Nat), .int .u64 (dgl (Y) 1 : Nat), .int .u64 (dgl (Y) 2 : Nat), .int .u64 (dgl (Y) 3 : Nat), .int .u64 (dgl (Y) 4 : Nat), .int .u64 (dgl (Y) 5 : Nat), .int .u64 (dgl (Y) 6 : Nat), .int .u64 (dgl (Y) 7 : Nat)])), (26, .val (.agg #[.int .u64 (dgl (Y) 0 : Nat), .int .u64 (dgl (Y) 1 : Nat), .int .u64 (dgl (Y) 2 : Nat), .int .u64 (dgl (Y) 3 : Nat), .int .u64 (dgl (Y) 4 : Nat), .int .u64 (dgl (Y) 5 : Nat), .int .u64 (dgl (Y) 6 : Nat), .int .u64 (dgl (Y) 7 : Nat)])), (27, .val (.bool true)), (28, .val (.bool true)), (29, .val (.bool true)), (30, .val (.bool false)), (31, .val (.bool true)), (32, .val (.bool true)), (0, .val (.bool true))]
    (fun W => Below w.heap.size w W ∧ LiesF W p1 (dgl QQ) ∧ LiesF W p3 (dgl Y)) mixedOk (by kernel_rfl) (by kernel_rfl) (⟨HBL.out.drew, H1.out, H3.out⟩) (fun W W' h hb => ⟨below_trans h.1 hb, h.2.1.below hb, h.2.2.below hb⟩) ?_ ?_
  · refine gSt (gStep_run rfl ?_) ?_
    · intro ρ W hC hc hf hL
      have e1 : ρ (.tmp 1) = .pointer (some ⟨p1, 0, none⟩) := hL 1 (by decide +kernel)
      have hl := hC.2.1.1
      simp [go_sem, hc, hf, e1, hl]
      exact ⟨Below.refl _ _, rfl⟩
    refine gSt (gStep_run rfl ?_) ?_
    · intro ρ W hC hc hf hL
      simp [go_sem, hc, hf]
      exact ⟨Below.refl _ _, rfl⟩
    refine gSt (gStep_run rfl ?_) ?_
    · intro ρ W hC hc hf hL
      have e17 : ρ (.tmp 17) = .agg #[.int .u64 (dgl (QQ) 0 : Nat), .int .u64 (dgl (QQ) 1 : Nat), .int .u64 (dgl (QQ) 2 : Nat), .int .u64 (dgl (QQ) 3 : Nat), .int .u64 (dgl (QQ) 4 : Nat), .int .u64 (dgl (QQ) 5 : Nat), .int .u64 (dgl (QQ) 6 : Nat), .int .u64 (dgl (QQ) 7 : Nat)] := hL 17 (by decide +kernel)
      have e18 : ρ (.tmp 18) = .agg #[.int .u64 0, .int .u64 0, .int .u64 0, .int .u64 0, .int .u64 0, .int .u64 0, .int .u64 0, .int .u64 0] := hL 18 (by decide +kernel)
      simp [go_sem, hc, hf, e17, e18, hqz]
      exact ⟨Below.refl _ _, rfl⟩
    refine gSt (gStep_run rfl (gRun_move 19 20 (.inl rfl) rfl (by decide +kernel) (fun v w h => h))) ?_
    refine gSt (gStep_on 3 20 true rfl rfl (by decide +kernel) (fun v w h => h) (gRun_move 2 21 (.inl rfl) rfl (by decide +kernel) (fun v w h => h))) ?_
    refine gSt (gStep_on 3 20 true rfl rfl (by decide +kernel) (fun v w h => h) ?_) ?_
    · intro ρ W hC hc hf hL
      have e21 : ρ (.tmp 21) = .bool false := hL 21 (by decide +kernel)
      simp [go_sem, hc, hf, e21]
      exact ⟨Below.refl _ _, rfl⟩
    refine gSt (gStep_run rfl (gRun_pickT 20 22 23 _ rfl rfl (by decide +kernel) (by decide +kernel) (fun v w h => h) (fun v w h => h))) ?_
    refine gSt (gStep_run rfl (gRun_move 23 24 (.inl rfl) rfl (by decide +kernel) (fun v w h => h))) ?_
    refine gSt (gStep_on 7 24 true rfl rfl (by decide +kernel) (fun v w h => h) ?_) ?_
    · intro ρ W hC hc hf hL
      have e3 : ρ (.tmp 3) = .pointer (some ⟨p3, 0, none⟩) := hL 3 (by decide +kernel)
      have hl := hC.2.2.1
      simp [go_sem, hc, hf, e3, hl]
      exact ⟨Below.refl _ _, rfl⟩
    refine gSt (gStep_on 7 24 true rfl rfl (by decide +kernel) (fun v w h => h) ?_) ?_
    · intro ρ W hC hc hf hL
      simp [go_sem, hc, hf]
      refine (HY.out _).mono ?_
      rintro e w' ⟨rfl, hb⟩
      exact ⟨_, rfl, by first | exact hb | (subst hb; exact Below.refl _ _), rfl⟩
    refine gSt (gStep_on 7 24 true rfl rfl (by decide +kernel) (fun v w h => h) ?_) ?_
    · intro ρ W hC hc hf hL
      have e25 : ρ (.tmp 25) = .agg #[.int .u64 (dgl (Y) 0 : Nat), .int .u64 (dgl (Y) 1 : Nat), .int .u64 (dgl (Y) 2 : Nat), .int .u64 (dgl (Y) 3 : Nat), .int .u64 (dgl (Y) 4 : Nat), .int .u64 (dgl (Y) 5 : Nat), .int .u64 (dgl (Y) 6 : Nat), .int .u64 (dgl (Y) 7 : Nat)] := hL 25 (by decide +kernel)
      have e26 : ρ (.tmp 26) = .agg #[.int .u64 (dgl (Y) 0 : Nat), .int .u64 (dgl (Y) 1 : Nat), .int .u64 (dgl (Y) 2 : Nat), .int .u64 (dgl (Y) 3 : Nat), .int .u64 (dgl (Y) 4 : Nat), .int .u64 (dgl (Y) 5 : Nat), .int .u64 (dgl (Y) 6 : Nat), .int .u64 (dgl (Y) 7 : Nat)] := hL 26 (by decide +kernel)
      simp [go_sem, hc, hf, e25, e26, wide_sameF]
      exact ⟨Below.refl _ _, rfl⟩
    refine gSt (gStep_run rfl (gRun_pickT 24 27 28 _ rfl rfl (by decide +kernel) (by decide +kernel) (fun v w h => h) (fun v w h => h))) ?_
    refine gSt (gStep_run rfl (gRun_move 28 29 (.inl rfl) rfl (by decide +kernel) (fun v w h => h))) ?_
    refine gSt (gStep_on 12 29 true rfl rfl (by decide +kernel) (fun v w h => h) (gRun_move 4 30 (.inl rfl) rfl (by decide +kernel) (fun v w h => h))) ?_
    refine gSt (gStep_on 12 29 true rfl rfl (by decide +kernel) (fun v w h => h) ?_) ?_
    · intro ρ W hC hc hf hL
      have e30 : ρ (.tmp 30) = .bool false := hL 30 (by decide +kernel)
      simp [go_sem, hc, hf, e30]
      exact ⟨Below.refl _ _, rfl⟩
    refine gSt (gStep_run rfl (gRun_pickT 29 31 32 _ rfl rfl (by decide +kernel) (by decide +kernel) (fun v w h => h) (fun v w h => h))) ?_
    refine gSt (gStep_run rfl (gRun_move 32 0 (.inr rfl) rfl (by decide +kernel) (fun v w h => h))) ?_
    exact gSt0
  · intro W hC
    refine gFi 17 rfl ?_
    rintro _ rfl
    refine gFi 18 rfl ?_
    rintro _ rfl
    refine gFi 19 rfl ?_
    rintro _ rfl
    refine gFi 20 rfl ?_
    rintro _ rfl
    refine gFi 21 rfl ?_
    rintro _ rfl
    refine gFi 22 rfl ?_
    rintro _ rfl
    refine gFi 23 rfl ?_
    rintro _ rfl
    refine gFi 24 rfl ?_
    rintro _ rfl
    refine gFi 25 rfl ?_
    rintro _ rfl
    refine gFi 26 rfl ?_
    rintro _ rfl
    refine gFi 27 rfl ?_
    rintro _ rfl
    refine gFi 28 rfl ?_
    rintro _ rfl
    refine gFi 29 rfl ?_
    rintro _ rfl
    refine gFi 30 rfl ?_
    rintro _ rfl
    refine gFi 31 rfl ?_
    rintro _ rfl
    refine gFi 32 rfl ?_
    rintro _ rfl
    refine gFi 0 rfl ?_
    rintro _ rfl
    refine gFi0 ?_
    simp only [List.drop_succ_cons, List.drop_zero, Act.put, List.setIfInBounds_toArray, List.set_cons_succ, List.set_cons_zero]
    have HB0 := hide hC.1
    clear hC HBL H1 H3
    go_wp2
    go_ret
    exact ⟨rfl, HB0.out⟩

theorem awake3_num (x y r q : Nat) (hq : 2 ^ q = QQ) (h2 : x + x = q) (hr : r + y = q) : 2 ^ x * 2 ^ x = QQ ∧ QQ / 2 ^ r = 2 ^ y ∧ 2 ^ y * 2 ^ r = QQ := by
  refine ⟨by rw [← Nat.pow_add, h2, hq], ?_, by rw [← Nat.pow_add, Nat.add_comm, hr, hq]⟩
  rw [← hq, ← hr, Nat.pow_add, Nat.mul_div_cancel_left _ (Nat.two_pow_pos r)]

theorem pow_lt_qq (n q : Nat) (hq : 2 ^ q = QQ) (h : n < q) : 2 ^ n < QQ := by rw [← hq]; exact Nat.pow_lt_pow_right (by decide) h

theorem awake3_any (w : World) : Calls Try.prog 48 #[] w fun e w' => e = .returned (.bool true) ∧ Below w.heap.size w w' := by
  have hq := qq_pow 512 rfl
  have hn := awake3_num 256 212 300 512 hq rfl rfl
  have hX := pow_lt_qq 256 512 hq (by decide)
  have hM := fun w => prodMul_any (2 ^ 256) (2 ^ 256) hX hX w
  have hH := fun w => prodHigh_any (2 ^ 256) (2 ^ 256) 300 300 (by decide) (by decide) hX hX w
  have hPX := fun w => power_lt 256 512 hq (by decide) 256 rfl rfl w
  have hPY := fun w => power_lt 212 512 hq (by decide) 212 rfl rfl w
  generalize (2 : Nat) ^ 256 = X at *
  generalize (2 : Nat) ^ 212 = Y at *
  rw [hn.1, decide_eq_false (Nat.lt_irrefl QQ)] at hM
  rw [hn.1, hn.2.1, hn.2.2, decide_eq_true rfl] at hH
  refine awake3_walk X Y w hPX hPY hM hH (fun w => ?_)
  have h := wide_eqz (show 0 < QQ by omega) w
  rw [w8_mod (show 0 % QQ = QQ % QQ by rw [Nat.mod_self, Nat.zero_mod]), decide_eq_true rfl] at h
  exact h

end Go.Proofs.Ytenbomfoihajhaa
