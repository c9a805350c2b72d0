/- For all words the law radicandlaw12.Root2Squares returns true, and its arguments read afterwards as they read before. No condition. -/
import Derived.Test.YtmbbhagjfgjhgaaPartAP
import Derived.Test.YtmbbhagjfgjhgaaPartAQ
import Derived.Test.YtmbbhagjfgjhgaaRows
import Derived.Test.YtmbbhagjfgjhgaaPartAS
import Derived.WalkKit
import Derived.ProofKit
import Derived.OpenShut
import Derived.ShutString
import Derived.ChangeOld
import Derived.Below
/- For all words the law radicandlaw12.Root2Squares returns true. -/
set_option linter.unusedVariables false
set_option linter.unusedSimpArgs false
set_option maxRecDepth 8000
namespace Go.Proofs.Ytmbbhagjfgjhgaa
open Go.RowKit Plain

/-- Two words in boxes. -/
structure Bk2St (qh ql rh rl : Nat) (w W : World) : Prop where
  q0 : W.cell? ⟨w.heap.size, 0, none⟩ = some (.int .u64 (qh : Nat))
  q1 : W.cell? ⟨w.heap.size, 1, none⟩ = some (.int .u64 (ql : Nat))
  r0 : W.cell? ⟨w.heap.size + 1, 0, none⟩ = some (.int .u64 (rh : Nat))
  r1 : W.cell? ⟨w.heap.size + 1, 1, none⟩ = some (.int .u64 (rl : Nat))
  lt : w.heap.size + 1 < W.heap.size
  bel : Below w.heap.size w W
theorem Bk2St.under {qh ql rh rl : Nat} {w W W' : World} (h : Bk2St qh ql rh rl w W) {C : Nat} (hb : Below C W W') (hc : w.heap.size + 1 < C) : Bk2St qh ql rh rl w W' :=
  ⟨(hb.cell (p := ⟨w.heap.size, 0, none⟩) (show w.heap.size < C by omega)).trans h.q0, (hb.cell (p := ⟨w.heap.size, 1, none⟩) (show w.heap.size < C by omega)).trans h.q1,
   (hb.cell (p := ⟨w.heap.size + 1, 0, none⟩) hc).trans h.r0, (hb.cell (p := ⟨w.heap.size + 1, 1, none⟩) hc).trans h.r1, Nat.lt_of_lt_of_le h.lt hb.size, h.bel.trans (hb.mono (by omega))⟩
theorem Bk2St.below {qh ql rh rl : Nat} {w W W' : World} (h : Bk2St qh ql rh rl w W) (hb : Below W.heap.size W W') : Bk2St qh ql rh rl w W' := h.under hb h.lt
theorem bk2_start (qh ql rh rl : Nat) (w : World) (e1 e3 : TypeId) :
    Bk2St qh ql rh rl w ((w.alloc (.cells #[.int .u64 (qh : Nat), .int .u64 (ql : Nat)] e1)).alloc (.cells #[.int .u64 (rh : Nat), .int .u64 (rl : Nat)] e3)) :=
  ⟨by simp [go_sem], by simp [go_sem], by simp [go_sem], by simp [go_sem], by simp, below_trans (below_allocs _ _) (below_allocs _ _)⟩

set_option maxHeartbeats 4000000 in
theorem sq12_G (qh ql rh rl x z x2 p s n a b : Nat) (k : Int) (ov zz : Bool)
    (HOQ : Hid (∀ u w, Rd mk64 w u [ql, qh] → Calls Try.prog 29 #[u] w fun e w' => ∃ v', e = .returned v' ∧ BigV w' v' x 4 ∧ Below w.heap.size w w'))
    (HOR : Hid (∀ u w, Rd mk64 w u [rl, rh] → Calls Try.prog 29 #[u] w fun e w' => ∃ v', e = .returned v' ∧ BigV w' v' z 4 ∧ Below w.heap.size w w'))
    (HSH : Hid (∀ u w, BigV w u x 4 → Calls Try.prog 24 #[u, .int .i64 1] w fun e w' => ∃ v', e = .returned v' ∧ BigV w' v' x2 10 ∧ Below w.heap.size w w'))
    (HCM : Hid (∀ u v w, BigV w u z 4 → BigV w v x2 10 → Calls Try.prog 30 #[u, v] w fun e w' => e = .returned (.int .i64 k) ∧ w' = w))
    (hk : 0 < k)
    (HAW : Hid (∀ w, Calls Try.prog 35 #[] w fun e w' => e = .returned (.bool true) ∧ Below w.heap.size w w')) (w : World) :
    Calls Try.prog 12 #[.agg #[.int .u64 (qh : Nat), .int .u64 (ql : Nat)], .agg #[.int .u64 (rh : Nat), .int .u64 (rl : Nat)]] w fun e w' => e = .returned (.bool true) ∧ Below w.heap.size w w' := by
  have HS := hide (bk2_start qh ql rh rl w 53 53)
  have hk2 : decide (0 < k) = true := decide_eq_true hk
  go_enter Try.func12, Try.ntmps12
  go_upto_region 1 with fail
  refine wp_gen (fun W => Bk2St qh ql rh rl w W) HS.out ?_
  clear HS
  rintro W2 h2
  refine wp_region_grow 14 [(12, .val (.pointer (some ⟨w.heap.size, 1, none⟩))), (13, .val (.int .u64 (ql : Nat))), (14, .val (.pointer (some ⟨w.heap.size, 0, none⟩))), (15, .val (.int .u64 (qh : Nat))), (16, .rd [ql, qh]), (17, .big x 4), (18, .val (.pointer (some ⟨w.heap.size + 1, 1, none⟩))), (19, .val (.int .u64 (rl : Nat))), (20, .val (.pointer (some ⟨w.heap.size + 1, 0, none⟩))), (21, .val (.int .u64 (rh : Nat))), (22, .rd [rl, rh]), (23, .big z 4), (5, .big x 4), (6, .big z 4)]
    (fun W => Bk2St qh ql rh rl w W) mixedOk (by kernel_rfl) (by kernel_rfl) (h2.below (Below.refl _ _).drew) (fun W W' h hb => h.below hb) ?_ ?_
  · refine gSt (gStep_run rfl ?_) ?_
    · intro ρ W hC hc hf hL
      have e2 : ρ (.tmp 2) = .pointer (some ⟨w.heap.size, 0, none⟩) := hL 2 (by decide +kernel)
      simp [go_sem, hc, hf, e2]
      exact ⟨Below.refl _ _, rfl⟩
    refine gSt (gStep_run rfl ?_) ?_
    · intro ρ W hC hc hf hL
      have e12 : ρ (.tmp 12) = .pointer (some ⟨w.heap.size, 1, none⟩) := hL 12 (by decide +kernel)
      have hl := hC.q1
      simp [go_sem, hc, hf, e12, hl]
      exact ⟨Below.refl _ _, rfl⟩
    refine gSt (gStep_run rfl ?_) ?_
    · intro ρ W hC hc hf hL
      have e2 : ρ (.tmp 2) = .pointer (some ⟨w.heap.size, 0, none⟩) := hL 2 (by decide +kernel)
      simp [go_sem, hc, hf, e2]
      exact ⟨Below.refl _ _, rfl⟩
    refine gSt (gStep_run rfl ?_) ?_
    · intro ρ W hC hc hf hL
      have e14 : ρ (.tmp 14) = .pointer (some ⟨w.heap.size, 0, none⟩) := hL 14 (by decide +kernel)
      have hl := hC.q0
      simp [go_sem, hc, hf, e14, hl]
      exact ⟨Below.refl _ _, rfl⟩
    refine gSt (gStep_run rfl ?_) ?_
    · intro ρ W hC hc hf hL
      have e13 : ρ (.tmp 13) = .int .u64 (ql : Nat) := hL 13 (by decide +kernel)
      have e15 : ρ (.tmp 15) = .int .u64 (qh : Nat) := hL 15 (by decide +kernel)
      simp [go_sem, hc, hf, e13, e15]
      exact ⟨below_allocs _ _, Rd.lit (mk := mk64) W 22 [.int .u64 (ql : Nat), .int .u64 (qh : Nat)] [ql, qh] rfl 2 (Nat.le_refl 2) (by decide)⟩
    refine gSt (gStep_run rfl ?_) ?_
    · intro ρ W hC hc hf hL
      have b16 := hL 16 (by decide +kernel)
      simp [go_sem, hc, hf]
      refine (HOQ.out _ _ b16).mono ?_
      rintro e w' ⟨v, rfl, hv, hb⟩
      exact ⟨_, rfl, hb, hv⟩
    refine gSt (gStep_run rfl ?_) ?_
    · intro ρ W hC hc hf hL
      have e3 : ρ (.tmp 3) = .pointer (some ⟨w.heap.size + 1, 0, none⟩) := hL 3 (by decide +kernel)
      simp [go_sem, hc, hf, e3]
      exact ⟨Below.refl _ _, rfl⟩
    refine gSt (gStep_run rfl ?_) ?_
    · intro ρ W hC hc hf hL
      have e18 : ρ (.tmp 18) = .pointer (some ⟨w.heap.size + 1, 1, none⟩) := hL 18 (by decide +kernel)
      have hl := hC.r1
      simp [go_sem, hc, hf, e18, hl]
      exact ⟨Below.refl _ _, rfl⟩
    refine gSt (gStep_run rfl ?_) ?_
    · intro ρ W hC hc hf hL
      have e3 : ρ (.tmp 3) = .pointer (some ⟨w.heap.size + 1, 0, none⟩) := hL 3 (by decide +kernel)
      simp [go_sem, hc, hf, e3]
      exact ⟨Below.refl _ _, rfl⟩
    refine gSt (gStep_run rfl ?_) ?_
    · intro ρ W hC hc hf hL
      have e20 : ρ (.tmp 20) = .pointer (some ⟨w.heap.size + 1, 0, none⟩) := hL 20 (by decide +kernel)
      have hl := hC.r0
      simp [go_sem, hc, hf, e20, hl]
      exact ⟨Below.refl _ _, rfl⟩
    refine gSt (gStep_run rfl ?_) ?_
    · intro ρ W hC hc hf hL
      have e19 : ρ (.tmp 19) = .int .u64 (rl : Nat) := hL 19 (by decide +kernel)
      have e21 : ρ (.tmp 21) = .int .u64 (rh : Nat) := hL 21 (by decide +kernel)
      simp [go_sem, hc, hf, e19, e21]
      exact ⟨below_allocs _ _, Rd.lit (mk := mk64) W 22 [.int .u64 (rl : Nat), .int .u64 (rh : Nat)] [rl, rh] rfl 2 (Nat.le_refl 2) (by decide)⟩
    refine gSt (gStep_run rfl ?_) ?_
    · intro ρ W hC hc hf hL
      have b22 := hL 22 (by decide +kernel)
      simp [go_sem, hc, hf]
      refine (HOR.out _ _ b22).mono ?_
      rintro e w' ⟨v, rfl, hv, hb⟩
      exact ⟨_, rfl, hb, hv⟩
    refine gSt (gStep_run rfl (gRun_move 17 5 (.inr rfl) rfl (by decide +kernel) (fun v w h => h))) ?_
    refine gSt (gStep_run rfl (gRun_move 23 6 (.inr rfl) rfl (by decide +kernel) (fun v w h => h))) ?_
    exact gSt0
  · intro W hC
    refine gFi 12 rfl ?_
    rintro _ rfl
    refine gFi 13 rfl ?_
    rintro _ rfl
    refine gFi 14 rfl ?_
    rintro _ rfl
    refine gFi 15 rfl ?_
    rintro _ rfl
    refine gFi 16 rfl ?_
    rintro u16 b16
    refine gFi 17 rfl ?_
    rintro u17 b17
    refine gFi 18 rfl ?_
    rintro _ rfl
    refine gFi 19 rfl ?_
    rintro _ rfl
    refine gFi 20 rfl ?_
    rintro _ rfl
    refine gFi 21 rfl ?_
    rintro _ rfl
    refine gFi 22 rfl ?_
    rintro u22 b22
    refine gFi 23 rfl ?_
    rintro u23 b23
    refine gFi 5 rfl ?_
    rintro u5 b5
    refine gFi 6 rfl ?_
    rintro u6 b6
    refine gFi0 ?_
    simp only [List.drop_succ_cons, List.drop_zero, Act.put, List.setIfInBounds_toArray, List.set_cons_succ, List.set_cons_zero]
    have HS := hide hC
    clear hC h2 b16 b22 b17 b23
    go_wp2_with fail
    refine (HSH.out _ _ b5).mono ?_
    rintro e w3 ⟨u2, rfl, hu2, hb3⟩
    replace HS := hide (HS.out.below hb3)
    replace b5 := BigV.below b5 hb3
    replace b6 := BigV.below b6 hb3
    clear hb3
    go_wp2_with fail
    refine (HCM.out _ _ _ b6 hu2).mono ?_
    rintro e wl ⟨rfl, hw⟩
    subst wl
    clear hu2
    go_wp2_with fail
    refine (HAW.out _).mono ?_
    rintro e w4 ⟨rfl, hb4⟩
    replace HS := hide (HS.out.below hb4)
    clear hb4
    have HB := hide HS.out.bel
    clear HS
    go_wp2
    go_ret
    exact ⟨rfl, HB.out⟩

set_option maxHeartbeats 4000000 in
theorem sq12_Y (qh ql rh rl x z x2 p s n a b : Nat) (k : Int) (ov zz : Bool)
    (HOQ : Hid (∀ u w, Rd mk64 w u [ql, qh] → Calls Try.prog 29 #[u] w fun e w' => ∃ v', e = .returned v' ∧ BigV w' v' x 4 ∧ Below w.heap.size w w'))
    (HOR : Hid (∀ u w, Rd mk64 w u [rl, rh] → Calls Try.prog 29 #[u] w fun e w' => ∃ v', e = .returned v' ∧ BigV w' v' z 4 ∧ Below w.heap.size w w'))
    (HSH : Hid (∀ u w, BigV w u x 4 → Calls Try.prog 24 #[u, .int .i64 1] w fun e w' => ∃ v', e = .returned v' ∧ BigV w' v' x2 10 ∧ Below w.heap.size w w'))
    (HCM : Hid (∀ u v w, BigV w u z 4 → BigV w v x2 10 → Calls Try.prog 30 #[u, v] w fun e w' => e = .returned (.int .i64 k) ∧ w' = w))
    (hk : ¬ 0 < k)
    (HAW : Hid (∀ w, Calls Try.prog 35 #[] w fun e w' => e = .returned (.bool true) ∧ Below w.heap.size w w'))
    (HMU : Hid (∀ u w, BigV w u (x) 4 → Calls Try.prog 27 #[u, u] w fun e w' => ∃ v', e = .returned v' ∧ BigV w' v' (p) 8 ∧ Below w.heap.size w w'))
    (HAD : Hid (∀ u v w, BigV w u (p) 8 → BigV w v (z) 4 → Calls Try.prog 31 #[u, v] w fun e w' => ∃ v', e = .returned v' ∧ BigV w' v' (s) 9 ∧ Below w.heap.size w w'))
    (HWI : Hid (∀ u w, BigV w u (s) 9 → Calls Try.prog 25 #[u] w fun e w' => e = .returned (.tuple #[.agg #[.int .u64 (dgl (n) 0 : Nat), .int .u64 (dgl (n) 1 : Nat), .int .u64 (dgl (n) 2 : Nat), .int .u64 (dgl (n) 3 : Nat), .int .u64 (dgl (n) 4 : Nat), .int .u64 (dgl (n) 5 : Nat), .int .u64 (dgl (n) 6 : Nat), .int .u64 (dgl (n) 7 : Nat)], .bool ov]) ∧ Below w.heap.size w w'))
    (HRT : Hid (∀ w, Calls Try.prog 32 #[.agg #[.int .u64 (dgl (n) 0 : Nat), .int .u64 (dgl (n) 1 : Nat), .int .u64 (dgl (n) 2 : Nat), .int .u64 (dgl (n) 3 : Nat), .int .u64 (dgl (n) 4 : Nat), .int .u64 (dgl (n) 5 : Nat), .int .u64 (dgl (n) 6 : Nat), .int .u64 (dgl (n) 7 : Nat)]] w fun e w' => e = .returned (.tuple #[.agg #[.int .u64 (dgl (a) 0 : Nat), .int .u64 (dgl (a) 1 : Nat), .int .u64 (dgl (a) 2 : Nat), .int .u64 (dgl (a) 3 : Nat), .int .u64 (dgl (a) 4 : Nat), .int .u64 (dgl (a) 5 : Nat), .int .u64 (dgl (a) 6 : Nat), .int .u64 (dgl (a) 7 : Nat)], .agg #[.int .u64 (dgl (b) 0 : Nat), .int .u64 (dgl (b) 1 : Nat), .int .u64 (dgl (b) 2 : Nat), .int .u64 (dgl (b) 3 : Nat), .int .u64 (dgl (b) 4 : Nat), .int .u64 (dgl (b) 5 : Nat), .int .u64 (dgl (b) 6 : Nat), .int .u64 (dgl (b) 7 : Nat)], .int .i64 0]) ∧ Below w.heap.size w w'))
    (HSQ : Hid (∀ w, Calls Try.prog 34 #[.agg #[.int .u64 (dgl (n) 0 : Nat), .int .u64 (dgl (n) 1 : Nat), .int .u64 (dgl (n) 2 : Nat), .int .u64 (dgl (n) 3 : Nat), .int .u64 (dgl (n) 4 : Nat), .int .u64 (dgl (n) 5 : Nat), .int .u64 (dgl (n) 6 : Nat), .int .u64 (dgl (n) 7 : Nat)]] w fun e w' => e = .returned (.bool zz) ∧ Below w.heap.size w w'))
    (hqa : ∀ w, (Op.equalIn 10000 24 (.agg #[.int .u64 (dgl (a) 0 : Nat), .int .u64 (dgl (a) 1 : Nat), .int .u64 (dgl (a) 2 : Nat), .int .u64 (dgl (a) 3 : Nat), .int .u64 (dgl (a) 4 : Nat), .int .u64 (dgl (a) 5 : Nat), .int .u64 (dgl (a) 6 : Nat), .int .u64 (dgl (a) 7 : Nat)]) (.agg #[.int .u64 (ql : Nat), .int .u64 (qh : Nat), .int .u64 0, .int .u64 0, .int .u64 0, .int .u64 0, .int .u64 0, .int .u64 0])).run Try.prog w = .ok true w)
    (hrb : ∀ w, (Op.equalIn 10000 24 (.agg #[.int .u64 (dgl (b) 0 : Nat), .int .u64 (dgl (b) 1 : Nat), .int .u64 (dgl (b) 2 : Nat), .int .u64 (dgl (b) 3 : Nat), .int .u64 (dgl (b) 4 : Nat), .int .u64 (dgl (b) 5 : Nat), .int .u64 (dgl (b) 6 : Nat), .int .u64 (dgl (b) 7 : Nat)]) (.agg #[.int .u64 (rl : Nat), .int .u64 (rh : Nat), .int .u64 0, .int .u64 0, .int .u64 0, .int .u64 0, .int .u64 0, .int .u64 0])).run Try.prog w = .ok true w)
    (hzw : ∀ w, (Op.equalIn 10000 53 (.agg #[.int .u64 (rh : Nat), .int .u64 (rl : Nat)]) (.agg #[.int .u64 0, .int .u64 0])).run Try.prog w = .ok zz w) (w : World) :
    Calls Try.prog 12 #[.agg #[.int .u64 (qh : Nat), .int .u64 (ql : Nat)], .agg #[.int .u64 (rh : Nat), .int .u64 (rl : Nat)]] w fun e w' => e = .returned (.bool true) ∧ Below w.heap.size w w' := by
  have HS := hide (bk2_start qh ql rh rl w 53 53)
  have hk2 : decide (0 < k) = false := decide_eq_false hk
  go_enter Try.func12, Try.ntmps12
  go_upto_region 1 with fail
  refine wp_gen (fun W => Bk2St qh ql rh rl w W) HS.out ?_
  clear HS
  rintro W2 h2
  refine wp_region_grow 14 [(12, .val (.pointer (some ⟨w.heap.size, 1, none⟩))), (13, .val (.int .u64 (ql : Nat))), (14, .val (.pointer (some ⟨w.heap.size, 0, none⟩))), (15, .val (.int .u64 (qh : Nat))), (16, .rd [ql, qh]), (17, .big x 4), (18, .val (.pointer (some ⟨w.heap.size + 1, 1, none⟩))), (19, .val (.int .u64 (rl : Nat))), (20, .val (.pointer (some ⟨w.heap.size + 1, 0, none⟩))), (21, .val (.int .u64 (rh : Nat))), (22, .rd [rl, rh]), (23, .big z 4), (5, .big x 4), (6, .big z 4)]
    (fun W => Bk2St qh ql rh rl w W) mixedOk (by kernel_rfl) (by kernel_rfl) (h2.below (Below.refl _ _).drew) (fun W W' h hb => h.below hb) ?_ ?_
  · refine gSt (gStep_run rfl ?_) ?_
    · intro ρ W hC hc hf hL
      have e2 : ρ (.tmp 2) = .pointer (some ⟨w.heap.size, 0, none⟩) := hL 2 (by decide +kernel)
      simp [go_sem, hc, hf, e2]
      exact ⟨Below.refl _ _, rfl⟩
    refine gSt (gStep_run rfl ?_) ?_
    · intro ρ W hC hc hf hL
      have e12 : ρ (.tmp 12) = .pointer (some ⟨w.heap.size, 1, none⟩) := hL 12 (by decide +kernel)
      have hl := hC.q1
      simp [go_sem, hc, hf, e12, hl]
      exact ⟨Below.refl _ _, rfl⟩
    refine gSt (gStep_run rfl ?_) ?_
    · intro ρ W hC hc hf hL
      have e2 : ρ (.tmp 2) = .pointer (some ⟨w.heap.size, 0, none⟩) := hL 2 (by decide +kernel)
      simp [go_sem, hc, hf, e2]
      exact ⟨Below.refl _ _, rfl⟩
    refine gSt (gStep_run rfl ?_) ?_
    · intro ρ W hC hc hf hL
      have e14 : ρ (.tmp 14) = .pointer (some ⟨w.heap.size, 0, none⟩) := hL 14 (by decide +kernel)
      have hl := hC.q0
      simp [go_sem, hc, hf, e14, hl]
      exact ⟨Below.refl _ _, rfl⟩
    refine gSt (gStep_run rfl ?_) ?_
    · intro ρ W hC hc hf hL
      have e13 : ρ (.tmp 13) = .int .u64 (ql : Nat) := hL 13 (by decide +kernel)
      have e15 : ρ (.tmp 15) = .int .u64 (qh : Nat) := hL 15 (by decide +kernel)
      simp [go_sem, hc, hf, e13, e15]
      exact ⟨below_allocs _ _, Rd.lit (mk := mk64) W 22 [.int .u64 (ql : Nat), .int .u64 (qh : Nat)] [ql, qh] rfl 2 (Nat.le_refl 2) (by decide)⟩
    refine gSt (gStep_run rfl ?_) ?_
    · intro ρ W hC hc hf hL
      have b16 := hL 16 (by decide +kernel)
      simp [go_sem, hc, hf]
      refine (HOQ.out _ _ b16).mono ?_
      rintro e w' ⟨v, rfl, hv, hb⟩
      exact ⟨_, rfl, hb, hv⟩
    refine gSt (gStep_run rfl ?_) ?_
    · intro ρ W hC hc hf hL
      have e3 : ρ (.tmp 3) = .pointer (some ⟨w.heap.size + 1, 0, none⟩) := hL 3 (by decide +kernel)
      simp [go_sem, hc, hf, e3]
      exact ⟨Below.refl _ _, rfl⟩
    refine gSt (gStep_run rfl ?_) ?_
    · intro ρ W hC hc hf hL
      have e18 : ρ (.tmp 18) = .pointer (some ⟨w.heap.size + 1, 1, none⟩) := hL 18 (by decide +kernel)
      have hl := hC.r1
      simp [go_sem, hc, hf, e18, hl]
      exact ⟨Below.refl _ _, rfl⟩
    refine gSt (gStep_run rfl ?_) ?_
    · intro ρ W hC hc hf hL
      have e3 : ρ (.tmp 3) = .pointer (some ⟨w.heap.size + 1, 0, none⟩) := hL 3 (by decide +kernel)
      simp [go_sem, hc, hf, e3]
      exact ⟨Below.refl _ _, rfl⟩
    refine gSt (gStep_run rfl ?_) ?_
    · intro ρ W hC hc hf hL
      have e20 : ρ (.tmp 20) = .pointer (some ⟨w.heap.size + 1, 0, none⟩) := hL 20 (by decide +kernel)
      have hl := hC.r0
      simp [go_sem, hc, hf, e20, hl]
      exact ⟨Below.refl _ _, rfl⟩
    refine gSt (gStep_run rfl ?_) ?_
    · intro ρ W hC hc hf hL
      have e19 : ρ (.tmp 19) = .int .u64 (rl : Nat) := hL 19 (by decide +kernel)
      have e21 : ρ (.tmp 21) = .int .u64 (rh : Nat) := hL 21 (by decide +kernel)
      simp [go_sem, hc, hf, e19, e21]
      exact ⟨below_allocs _ _, Rd.lit (mk := mk64) W 22 [.int .u64 (rl : Nat), .int .u64 (rh : Nat)] [rl, rh] rfl 2 (Nat.le_refl 2) (by decide)⟩
    refine gSt (gStep_run rfl ?_) ?_
    · intro ρ W hC hc hf hL
      have b22 := hL 22 (by decide +kernel)
      simp [go_sem, hc, hf]
      refine (HOR.out _ _ b22).mono ?_
      rintro e w' ⟨v, rfl, hv, hb⟩
      exact ⟨_, rfl, hb, hv⟩
    refine gSt (gStep_run rfl (gRun_move 17 5 (.inr rfl) rfl (by decide +kernel) (fun v w h => h))) ?_
    refine gSt (gStep_run rfl (gRun_move 23 6 (.inr rfl) rfl (by decide +kernel) (fun v w h => h))) ?_
    exact gSt0
  · intro W hC
    refine gFi 12 rfl ?_
    rintro _ rfl
    refine gFi 13 rfl ?_
    rintro _ rfl
    refine gFi 14 rfl ?_
    rintro _ rfl
    refine gFi 15 rfl ?_
    rintro _ rfl
    refine gFi 16 rfl ?_
    rintro u16 b16
    refine gFi 17 rfl ?_
    rintro u17 b17
    refine gFi 18 rfl ?_
    rintro _ rfl
    refine gFi 19 rfl ?_
    rintro _ rfl
    refine gFi 20 rfl ?_
    rintro _ rfl
    refine gFi 21 rfl ?_
    rintro _ rfl
    refine gFi 22 rfl ?_
    rintro u22 b22
    refine gFi 23 rfl ?_
    rintro u23 b23
    refine gFi 5 rfl ?_
    rintro u5 b5
    refine gFi 6 rfl ?_
    rintro u6 b6
    refine gFi0 ?_
    simp only [List.drop_succ_cons, List.drop_zero, Act.put, List.setIfInBounds_toArray, List.set_cons_succ, List.set_cons_zero]
    have HS := hide hC
    clear hC h2 b16 b22 b17 b23
    go_wp2_with fail
    refine (HSH.out _ _ b5).mono ?_
    rintro e w3 ⟨u2, rfl, hu2, hb3⟩
    replace HS := hide (HS.out.below hb3)
    replace b5 := BigV.below b5 hb3
    replace b6 := BigV.below b6 hb3
    clear hb3
    go_wp2_with fail
    refine (HCM.out _ _ _ b6 hu2).mono ?_
    rintro e wl ⟨rfl, hw⟩
    subst wl
    clear hu2
    go_wp2_with fail
    refine (HMU.out _ _ b5).mono ?_
    rintro e w4 ⟨vp, rfl, hvp, hb4⟩
    replace HS := hide (HS.out.below hb4)
    replace b6 := BigV.below b6 hb4
    clear hb4 b5
    go_wp2_with fail
    refine (HAD.out _ _ _ hvp b6).mono ?_
    rintro e w5 ⟨vs, rfl, hvs, hb5⟩
    replace HS := hide (HS.out.below hb5)
    clear hb5 hvp b6
    go_wp2_with fail
    refine (HWI.out _ _ hvs).mono ?_
    rintro e w6 ⟨rfl, hb6⟩
    replace HS := hide (HS.out.below hb6)
    clear hb6 hvs
    go_upto_region 5 with fail
    refine wp_gen (fun W => Bk2St qh ql rh rl w W ∧ LiesF W w6.heap.size (dgl n)) ⟨HS.out.below (below_allocs _ _), liesF_new _ _ _⟩ ?_
    clear HS
    generalize w6.heap.size = p7 at *
    rintro W6 h6
    have HS := hide h6
    have hn := h6.2.1
    clear h6
    go_wp2_with fail
    refine (HRT.out _).mono ?_
    rintro e w7 ⟨rfl, hb7⟩
    replace HS := hide (show Bk2St qh ql rh rl w w7 ∧ LiesF w7 p7 (dgl n) from ⟨HS.out.1.below hb7, HS.out.2.below hb7⟩)
    clear hb7 hn
    go_upto_region 6 with fail
    have hbw := below_trans (below_allocs w7 (.cells #[.int .u64 (dgl (a) 0 : Nat), .int .u64 (dgl (a) 1 : Nat), .int .u64 (dgl (a) 2 : Nat), .int .u64 (dgl (a) 3 : Nat), .int .u64 (dgl (a) 4 : Nat), .int .u64 (dgl (a) 5 : Nat), .int .u64 (dgl (a) 6 : Nat), .int .u64 (dgl (a) 7 : Nat)] 24)) (below_allocs _ (.cells #[.int .u64 (dgl (b) 0 : Nat), .int .u64 (dgl (b) 1 : Nat), .int .u64 (dgl (b) 2 : Nat), .int .u64 (dgl (b) 3 : Nat), .int .u64 (dgl (b) 4 : Nat), .int .u64 (dgl (b) 5 : Nat), .int .u64 (dgl (b) 6 : Nat), .int .u64 (dgl (b) 7 : Nat)] 24))
    refine wp_gen (fun W => Bk2St qh ql rh rl w W ∧ LiesF W p7 (dgl n) ∧ R2St w7.heap.size (w7.heap.size + 1) a b w W) ⟨HS.out.1.below hbw, HS.out.2.below hbw, r2_put w w7 a b HS.out.1.bel _ _⟩ ?_
    clear HS hbw
    obtain ⟨p10, hp10⟩ : ∃ p10, w7.heap.size + 1 = p10 := ⟨_, rfl⟩
    rw [hp10]
    clear hp10
    generalize w7.heap.size = p9 at *
    rintro W8 h8
    refine wp_region_grow 32 [(45, .val (.int .i64 0)), (46, .val (.bool true)), (47, .val (.bool true)), (48, .val (.agg #[.int .u64 (dgl (a) 0 : Nat), .int .u64 (dgl (a) 1 : Nat), .int .u64 (dgl (a) 2 : Nat), .int .u64 (dgl (a) 3 : Nat), .int .u64 (dgl (a) 4 : Nat), .int .u64 (dgl (a) 5 : Nat), .int .u64 (dgl (a) 6 : Nat), .int .u64 (dgl (a) 7 : Nat)])), (49, .val (.pointer (some ⟨w.heap.size, 1, none⟩))), (50, .val (.int .u64 (ql : Nat))), (51, .val (.pointer (some ⟨w.heap.size, 0, none⟩))), (52, .val (.int .u64 (qh : Nat))), (53, .val (.agg #[.int .u64 (ql : Nat), .int .u64 (qh : Nat), .int .u64 0, .int .u64 0, .int .u64 0, .int .u64 0, .int .u64 0, .int .u64 0])), (54, .val (.bool true)), (55, .val (.bool true)), (56, .val (.bool true)), (57, .val (.agg #[.int .u64 (dgl (b) 0 : Nat), .int .u64 (dgl (b) 1 : Nat), .int .u64 (dgl (b) 2 : Nat), .int .u64 (dgl (b) 3 : Nat), .int .u64 (dgl (b) 4 : Nat), .int .u64 (dgl (b) 5 : Nat), .int .u64 (dgl (b) 6 : Nat), .int .u64 (dgl (b) 7 : Nat)])), (58, .val (.pointer (some ⟨w.heap.size + 1, 1, none⟩))), (59, .val (.int .u64 (rl : Nat))), (60, .val (.pointer (some ⟨w.heap.size + 1, 0, none⟩))), (61, .val (.int .u64 (rh : Nat))), (62, .val (.agg #[.int .u64 (rl : Nat), .int .u64 (rh : Nat), .int .u64 0, .int .u64 0, .int .u64 0, .int .u64 0, .int .u64 0, .int .u64 0])), (63, .val (.bool true)), (64, .val (.bool true)), (65, .val (.bool true)), (66, .val (.agg #[.int .u64 (dgl (n) 0 : Nat), .int .u64 (dgl (n) 1 : Nat), .int .u64 (dgl (n) 2 : Nat), .int .u64 (dgl (n) 3 : Nat), .int .u64 (dgl (n) 4 : Nat), .int .u64 (dgl (n) 5 : Nat), .int .u64 (dgl (n) 6 : Nat), .int .u64 (dgl (n) 7 : Nat)])), (67, .val (.bool zz)), (68, .val (.agg #[.int .u64 (rh : Nat), .int .u64 (rl : Nat)])), (69, .val (.agg #[.int .u64 0, .int .u64 0])), (70, .val (.bool zz)), (71, .val (.bool true)), (72, .val (.bool true)), (73, .val (.bool true)), (74, .val (.bool true)), (75, .val (.bool true)), (4, .val (.bool true))]
      (fun W => Bk2St qh ql rh rl w W ∧ LiesF W p7 (dgl n) ∧ R2St p9 p10 a b w W) mixedOk (by kernel_rfl) (by kernel_rfl) (⟨h8.1.below (Below.refl _ _).drew, h8.2.1.below (Below.refl _ _).drew, h8.2.2.below (Below.refl _ _).drew⟩) (fun W W' h hb => ⟨h.1.below hb, h.2.1.below hb, h.2.2.below hb⟩) ?_ ?_
    · refine gSt (gStep_run rfl (gRun_move 11 45 (.inl rfl) rfl (by decide +kernel) (fun v w h => h))) ?_
      refine gSt (gStep_run rfl ?_) ?_
      · intro ρ W hC hc hf hL
        have e45 : ρ (.tmp 45) = .int .i64 0 := hL 45 (by decide +kernel)
        simp [go_sem, hc, hf, e45]
        exact ⟨Below.refl _ _, rfl⟩
      refine gSt (gStep_run rfl (gRun_move 46 47 (.inl rfl) rfl (by decide +kernel) (fun v w h => h))) ?_
      refine gSt (gStep_on 2 47 true rfl rfl (by decide +kernel) (fun v w h => h) ?_) ?_
      · intro ρ W hC hc hf hL
        have e9 : ρ (.tmp 9) = .pointer (some ⟨p9, 0, none⟩) := hL 9 (by decide +kernel)
        have hl := hC.2.2.lx.1
        simp [go_sem, hc, hf, e9, hl]
        exact ⟨Below.refl _ _, rfl⟩
      refine gSt (gStep_on 2 47 true rfl rfl (by decide +kernel) (fun v w h => h) ?_) ?_
      · intro ρ W hC hc hf hL
        have e2 : ρ (.tmp 2) = .pointer (some ⟨w.heap.size, 0, none⟩) := hL 2 (by decide +kernel)
        simp [go_sem, hc, hf, e2]
        exact ⟨Below.refl _ _, rfl⟩
      refine gSt (gStep_on 2 47 true rfl rfl (by decide +kernel) (fun v w h => h) ?_) ?_
      · intro ρ W hC hc hf hL
        have e49 : ρ (.tmp 49) = .pointer (some ⟨w.heap.size, 1, none⟩) := hL 49 (by decide +kernel)
        have hl := hC.1.q1
        simp [go_sem, hc, hf, e49, hl]
        exact ⟨Below.refl _ _, rfl⟩
      refine gSt (gStep_on 2 47 true rfl rfl (by decide +kernel) (fun v w h => h) ?_) ?_
      · intro ρ W hC hc hf hL
        have e2 : ρ (.tmp 2) = .pointer (some ⟨w.heap.size, 0, none⟩) := hL 2 (by decide +kernel)
        simp [go_sem, hc, hf, e2]
        exact ⟨Below.refl _ _, rfl⟩
      refine gSt (gStep_on 2 47 true rfl rfl (by decide +kernel) (fun v w h => h) ?_) ?_
      · intro ρ W hC hc hf hL
        have e51 : ρ (.tmp 51) = .pointer (some ⟨w.heap.size, 0, none⟩) := hL 51 (by decide +kernel)
        have hl := hC.1.q0
        simp [go_sem, hc, hf, e51, hl]
        exact ⟨Below.refl _ _, rfl⟩
      refine gSt (gStep_on 2 47 true rfl rfl (by decide +kernel) (fun v w h => h) ?_) ?_
      · intro ρ W hC hc hf hL
        have e50 : ρ (.tmp 50) = .int .u64 (ql : Nat) := hL 50 (by decide +kernel)
        have e52 : ρ (.tmp 52) = .int .u64 (qh : Nat) := hL 52 (by decide +kernel)
        simp [go_sem, hc, hf, e50, e52]
        exact ⟨Below.refl _ _, rfl⟩
      refine gSt (gStep_on 2 47 true rfl rfl (by decide +kernel) (fun v w h => h) ?_) ?_
      · intro ρ W hC hc hf hL
        have e48 : ρ (.tmp 48) = .agg #[.int .u64 (dgl (a) 0 : Nat), .int .u64 (dgl (a) 1 : Nat), .int .u64 (dgl (a) 2 : Nat), .int .u64 (dgl (a) 3 : Nat), .int .u64 (dgl (a) 4 : Nat), .int .u64 (dgl (a) 5 : Nat), .int .u64 (dgl (a) 6 : Nat), .int .u64 (dgl (a) 7 : Nat)] := hL 48 (by decide +kernel)
        have e53 : ρ (.tmp 53) = .agg #[.int .u64 (ql : Nat), .int .u64 (qh : Nat), .int .u64 0, .int .u64 0, .int .u64 0, .int .u64 0, .int .u64 0, .int .u64 0] := hL 53 (by decide +kernel)
        simp [go_sem, hc, hf, e48, e53, hqa]
        exact ⟨Below.refl _ _, rfl⟩
      refine gSt (gStep_run rfl (gRun_pickT 47 54 55 _ rfl rfl (by decide +kernel) (by decide +kernel) (fun v w h => h) (fun v w h => h))) ?_
      refine gSt (gStep_run rfl (gRun_move 55 56 (.inl rfl) rfl (by decide +kernel) (fun v w h => h))) ?_
      refine gSt (gStep_on 11 56 true rfl rfl (by decide +kernel) (fun v w h => h) ?_) ?_
      · intro ρ W hC hc hf hL
        have e10 : ρ (.tmp 10) = .pointer (some ⟨p10, 0, none⟩) := hL 10 (by decide +kernel)
        have hl := hC.2.2.ly.1
        simp [go_sem, hc, hf, e10, hl]
        exact ⟨Below.refl _ _, rfl⟩
      refine gSt (gStep_on 11 56 true rfl rfl (by decide +kernel) (fun v w h => h) ?_) ?_
      · intro ρ W hC hc hf hL
        have e3 : ρ (.tmp 3) = .pointer (some ⟨w.heap.size + 1, 0, none⟩) := hL 3 (by decide +kernel)
        simp [go_sem, hc, hf, e3]
        exact ⟨Below.refl _ _, rfl⟩
      refine gSt (gStep_on 11 56 true rfl rfl (by decide +kernel) (fun v w h => h) ?_) ?_
      · intro ρ W hC hc hf hL
        have e58 : ρ (.tmp 58) = .pointer (some ⟨w.heap.size + 1, 1, none⟩) := hL 58 (by decide +kernel)
        have hl := hC.1.r1
        simp [go_sem, hc, hf, e58, hl]
        exact ⟨Below.refl _ _, rfl⟩
      refine gSt (gStep_on 11 56 true rfl rfl (by decide +kernel) (fun v w h => h) ?_) ?_
      · intro ρ W hC hc hf hL
        have e3 : ρ (.tmp 3) = .pointer (some ⟨w.heap.size + 1, 0, none⟩) := hL 3 (by decide +kernel)
        simp [go_sem, hc, hf, e3]
        exact ⟨Below.refl _ _, rfl⟩
      refine gSt (gStep_on 11 56 true rfl rfl (by decide +kernel) (fun v w h => h) ?_) ?_
      · intro ρ W hC hc hf hL
        have e60 : ρ (.tmp 60) = .pointer (some ⟨w.heap.size + 1, 0, none⟩) := hL 60 (by decide +kernel)
        have hl := hC.1.r0
        simp [go_sem, hc, hf, e60, hl]
        exact ⟨Below.refl _ _, rfl⟩
      refine gSt (gStep_on 11 56 true rfl rfl (by decide +kernel) (fun v w h => h) ?_) ?_
      · intro ρ W hC hc hf hL
        have e59 : ρ (.tmp 59) = .int .u64 (rl : Nat) := hL 59 (by decide +kernel)
        have e61 : ρ (.tmp 61) = .int .u64 (rh : Nat) := hL 61 (by decide +kernel)
        simp [go_sem, hc, hf, e59, e61]
        exact ⟨Below.refl _ _, rfl⟩
      refine gSt (gStep_on 11 56 true rfl rfl (by decide +kernel) (fun v w h => h) ?_) ?_
      · intro ρ W hC hc hf hL
        have e57 : ρ (.tmp 57) = .agg #[.int .u64 (dgl (b) 0 : Nat), .int .u64 (dgl (b) 1 : Nat), .int .u64 (dgl (b) 2 : Nat), .int .u64 (dgl (b) 3 : Nat), .int .u64 (dgl (b) 4 : Nat), .int .u64 (dgl (b) 5 : Nat), .int .u64 (dgl (b) 6 : Nat), .int .u64 (dgl (b) 7 : Nat)] := hL 57 (by decide +kernel)
        have e62 : ρ (.tmp 62) = .agg #[.int .u64 (rl : Nat), .int .u64 (rh : Nat), .int .u64 0, .int .u64 0, .int .u64 0, .int .u64 0, .int .u64 0, .int .u64 0] := hL 62 (by decide +kernel)
        simp [go_sem, hc, hf, e57, e62, hrb]
        exact ⟨Below.refl _ _, rfl⟩
      refine gSt (gStep_run rfl (gRun_pickT 56 63 64 _ rfl rfl (by decide +kernel) (by decide +kernel) (fun v w h => h) (fun v w h => h))) ?_
      refine gSt (gStep_run rfl (gRun_move 64 65 (.inl rfl) rfl (by decide +kernel) (fun v w h => h))) ?_
      refine gSt (gStep_on 20 65 true rfl rfl (by decide +kernel) (fun v w h => h) ?_) ?_
      · intro ρ W hC hc hf hL
        have e7 : ρ (.tmp 7) = .pointer (some ⟨p7, 0, none⟩) := hL 7 (by decide +kernel)
        have hl := hC.2.1.1
        simp [go_sem, hc, hf, e7, hl]
        exact ⟨Below.refl _ _, rfl⟩
      refine gSt (gStep_on 20 65 true rfl rfl (by decide +kernel) (fun v w h => h) ?_) ?_
      · intro ρ W hC hc hf hL
        have e66 : ρ (.tmp 66) = .agg #[.int .u64 (dgl (n) 0 : Nat), .int .u64 (dgl (n) 1 : Nat), .int .u64 (dgl (n) 2 : Nat), .int .u64 (dgl (n) 3 : Nat), .int .u64 (dgl (n) 4 : Nat), .int .u64 (dgl (n) 5 : Nat), .int .u64 (dgl (n) 6 : Nat), .int .u64 (dgl (n) 7 : Nat)] := hL 66 (by decide +kernel)
        simp [go_sem, hc, hf, e66]
        refine (HSQ.out W).mono ?_
        rintro e w' ⟨rfl, hb⟩
        exact ⟨_, rfl, by first | exact hb | (subst hb; exact Below.refl _ _), rfl⟩
      refine gSt (gStep_on 20 65 true rfl rfl (by decide +kernel) (fun v w h => h) ?_) ?_
      · intro ρ W hC hc hf hL
        have e3 : ρ (.tmp 3) = .pointer (some ⟨w.heap.size + 1, 0, none⟩) := hL 3 (by decide +kernel)
        have hl := hC.1.r0
        have hl2 := hC.1.r1
        simp [go_sem, hc, hf, e3, hl, hl2]
        exact ⟨Below.refl _ _, rfl⟩
      refine gSt (gStep_on 20 65 true rfl rfl (by decide +kernel) (fun v w h => h) ?_) ?_
      · intro ρ W hC hc hf hL
        simp [go_sem, hc, hf]
        exact ⟨Below.refl _ _, rfl⟩
      refine gSt (gStep_on 20 65 true rfl rfl (by decide +kernel) (fun v w h => h) ?_) ?_
      · intro ρ W hC hc hf hL
        have e68 : ρ (.tmp 68) = .agg #[.int .u64 (rh : Nat), .int .u64 (rl : Nat)] := hL 68 (by decide +kernel)
        have e69 : ρ (.tmp 69) = .agg #[.int .u64 0, .int .u64 0] := hL 69 (by decide +kernel)
        simp [go_sem, hc, hf, e68, e69, hzw]
        exact ⟨Below.refl _ _, rfl⟩
      refine gSt (gStep_on 20 65 true rfl rfl (by decide +kernel) (fun v w h => h) ?_) ?_
      · intro ρ W hC hc hf hL
        have e67 : ρ (.tmp 67) = .bool zz := hL 67 (by decide +kernel)
        have e70 : ρ (.tmp 70) = .bool zz := hL 70 (by decide +kernel)
        simp [go_sem, hc, hf, e67, e70]
        exact ⟨Below.refl _ _, rfl⟩
      refine gSt (gStep_run rfl (gRun_pickT 65 71 72 _ rfl rfl (by decide +kernel) (by decide +kernel) (fun v w h => h) (fun v w h => h))) ?_
      refine gSt (gStep_run rfl (gRun_move 72 73 (.inl rfl) rfl (by decide +kernel) (fun v w h => h))) ?_
      refine gSt (gStep_on 28 73 true rfl rfl (by decide +kernel) (fun v w h => h) ?_) ?_
      · intro ρ W hC hc hf hL
        simp [go_sem, hc, hf]
        refine (HAW.out W).mono ?_
        rintro e w' ⟨rfl, hb⟩
        exact ⟨_, rfl, by first | exact hb | (subst hb; exact Below.refl _ _), rfl⟩
      refine gSt (gStep_run rfl (gRun_pickT 73 74 75 _ rfl rfl (by decide +kernel) (by decide +kernel) (fun v w h => h) (fun v w h => h))) ?_
      refine gSt (gStep_run rfl (gRun_move 75 4 (.inr rfl) rfl (by decide +kernel) (fun v w h => h))) ?_
      exact gSt0
    · intro W hC
      refine gFi 45 rfl ?_
      rintro _ rfl
      refine gFi 46 rfl ?_
      rintro _ rfl
      refine gFi 47 rfl ?_
      rintro _ rfl
      refine gFi 48 rfl ?_
      rintro _ rfl
      refine gFi 49 rfl ?_
      rintro _ rfl
      refine gFi 50 rfl ?_
      rintro _ rfl
      refine gFi 51 rfl ?_
      rintro _ rfl
      refine gFi 52 rfl ?_
      rintro _ rfl
      refine gFi 53 rfl ?_
      rintro _ rfl
      refine gFi 54 rfl ?_
      rintro _ rfl
      refine gFi 55 rfl ?_
      rintro _ rfl
      refine gFi 56 rfl ?_
      rintro _ rfl
      refine gFi 57 rfl ?_
      rintro _ rfl
      refine gFi 58 rfl ?_
      rintro _ rfl
      refine gFi 59 rfl ?_
      rintro _ rfl
      refine gFi 60 rfl ?_
      rintro _ rfl
      refine gFi 61 rfl ?_
      rintro _ rfl
      refine gFi 62 rfl ?_
      rintro _ rfl
      refine gFi 63 rfl ?_
      rintro _ rfl
      refine gFi 64 rfl ?_
      rintro _ rfl
      refine gFi 65 rfl ?_
      rintro _ rfl
      refine gFi 66 rfl ?_
      rintro _ rfl
      refine gFi 67 rfl ?_
      rintro _ rfl
      refine gFi 68 rfl ?_
      rintro _ rfl
      refine gFi 69 rfl ?_
      rintro _ rfl
      refine gFi 70 rfl ?_
      rintro _ rfl
      refine gFi 71 rfl ?_
      rintro _ rfl
      refine gFi 72 rfl ?_
      rintro _ rfl
      refine gFi 73 rfl ?_
      rintro _ rfl
      refine gFi 74 rfl ?_
      rintro _ rfl
      refine gFi 75 rfl ?_
      rintro _ rfl
      refine gFi 4 rfl ?_
      rintro _ rfl
      refine gFi0 ?_
      simp only [List.drop_succ_cons, List.drop_zero, Act.put, List.setIfInBounds_toArray, List.set_cons_succ, List.set_cons_zero]
      have HB := hide hC.1.bel
      clear hC h8
      go_wp2
      go_ret
      exact ⟨rfl, HB.out⟩
    

theorem cmpN_pos' (a b : Nat) : 0 < cmpN a b ↔ b < a := by
  unfold cmpN
  by_cases h1 : a < b
  · rw [if_pos h1]
    omega
  · rw [if_neg h1]
    by_cases h2 : b < a
    · rw [if_pos h2]
      omega
    · rw [if_neg h2]
      omega
theorem word_zero (h l : Nat) (w : World) : (Op.equalIn 10000 53 (.agg #[.int .u64 (h : Nat), .int .u64 (l : Nat)]) (.agg #[.int .u64 0, .int .u64 0])).run Try.prog w = .ok (decide (h = 0) && decide (l = 0)) w := by
  have u3 := Try.underlying22
  have uw := Try.underlying53
  rw [show (10000 : Nat) = 9999 + 1 from rfl]
  go_simp
  by_cases h1 : h = 0
  · by_cases h2 : l = 0
    · simp [h1, h2]
    · simp [h1, h2]
  · simp [h1]
theorem root2Squares_walk (qh ql rh rl : Nat) (h1 : qh < 18446744073709551616) (h2 : ql < 18446744073709551616) (h3 : rh < 18446744073709551616) (h4 : rl < 18446744073709551616) (w : World) :
    Calls Try.prog 12 #[.agg #[.int .u64 (qh : Nat), .int .u64 (ql : Nat)], .agg #[.int .u64 (rh : Nat), .int .u64 (rl : Nat)]] w fun e w' => e = .returned (.bool true) ∧ Below w.heap.size w w' := by
  have hx : ql + 18446744073709551616 * qh < 2 ^ 128 := by
    have : (2 : Nat) ^ 128 = 18446744073709551616 * 18446744073709551616 := by decide
    omega
  have hzb : rl + 18446744073709551616 * rh < 2 ^ 128 := by
    have : (2 : Nat) ^ 128 = 18446744073709551616 * 18446744073709551616 := by decide
    omega
  have hw1 := w8_two h2 h1
  have hw3 := w8_two h4 h3
  have HOQ := of_pair h2 h1
  have HOR := of_pair h4 h3
  have hzz : (rl + 18446744073709551616 * rh = 0) ↔ (rh = 0 ∧ rl = 0) := by omega
  have hzw := fun w => word_zero rh rl w
  have hdz : (decide (rh = 0) && decide (rl = 0)) = decide (rl + 18446744073709551616 * rh = 0) := by
    rw [← Bool.decide_and, decide_eq_decide]
    exact hzz.symm
  rw [hdz] at hzw
  clear hzz hdz
  generalize ql + 18446744073709551616 * qh = x at *
  generalize rl + 18446744073709551616 * rh = z at *
  have HSH : ∀ u w, BigV w u x 4 → Calls Try.prog 24 #[u, .int .i64 1] w fun e w' => ∃ v', e = .returned v' ∧ BigV w' v' (x * 2 ^ 1) 10 ∧ Below w.heap.size w w' := fun u w h =>
    (refShl_int x 4 1 1 u w h (by decide) (by decide) rfl).mono fun e w' ⟨v', e1, e2, e3⟩ => ⟨v', e1, e2.mono (by decide), e3⟩
  have HCM := fun u v w (hu : BigV w u z 4) (hv : BigV w v (x * 2 ^ 1) 10) => cmp_any z (x * 2 ^ 1) 4 10 u v w hu hv
  by_cases hk : 0 < cmpN z (x * 2 ^ 1)
  · exact sq12_G qh ql rh rl x z _ 0 0 0 0 0 _ true true HOQ HOR HSH HCM hk (fun w => awake12_any w) w
  · have hle : z ≤ x + x := by
      have h5 : ¬ x * 2 ^ 1 < z := fun h => hk ((cmpN_pos' _ _).2 h)
      rw [Nat.pow_one] at h5
      omega
    have hs : ∀ y, y ^ 2 ≤ x * x + z ↔ y ≤ x := by
      obtain ⟨s, hs⟩ := root_ex 2 (by decide) (x * x + z)
      have e2 : (x + 1) ^ 2 = x * x + x + x + 1 := by rw [Nat.pow_two, Nat.add_mul, Nat.mul_add, Nat.one_mul, Nat.mul_one]; omega
      rw [root_uniq hs (t := x) (by rw [Nat.pow_two]; omega) (by rw [e2]; omega)] at hs
      exact hs
    have hn : x * x + z < 2 ^ 256 := by
      have h6 : (x + 1) * (x + 1) ≤ 2 ^ 128 * 2 ^ 128 := Nat.mul_le_mul hx hx
      have h7 : 2 ^ 128 * 2 ^ 128 = 2 ^ 256 := by rw [← Nat.pow_add]
      rw [h7, Nat.add_mul, Nat.mul_add, Nat.one_mul, Nat.mul_one] at h6
      generalize 2 ^ 256 = P at *
      omega
    have hnq : x * x + z < QQ := Nat.lt_trans hn (by decide +kernel)
    have hxq : x < QQ := Nat.lt_trans hx (by decide +kernel)
    have hzq : z < QQ := Nat.lt_trans hzb (by decide +kernel)
    have hr : x * x + z - x ^ 2 = z := by rw [Nat.pow_two]; omega
    have HRT := fun w => root_ok (x * x + z) x hn hs w
    rw [hr] at HRT
    have HSQ := fun w => square_walk (x * x + z) x z 0 (decide (z = 0)) (fun w => wide_eqz hzq w) (.inl rfl) HRT w
    rw [decide_eq_true rfl, Bool.true_and] at HSQ
    refine sq12_Y qh ql rh rl x z _ (x * x) (x * x + z) (x * x + z) x z _ (decide (QQ ≤ x * x + z)) (decide (z = 0)) HOQ HOR HSH HCM hk (fun w => awake12_any w)
      (fun u w hu => refMul_any x x 4 4 u u w hu hu (by decide) (by decide)) (fun u v w hu hv => (refAdd_any (x * x) z 8 4 u v w hu hv (by decide) (by decide)).mono fun e w' ⟨v', e1, e2, e3⟩ => ⟨v', e1, e2.mono (by decide), e3⟩)
      (fun u w hu => refWide_any (x * x + z) 9 u w hu) HRT HSQ (fun w => ?_) (fun w => ?_) hzw w
    · have := wide_eqb hxq hxq w
      rw [decide_eq_true rfl] at this
      rw [← hw1]
      exact this
    · have := wide_eqb hzq hzq w
      rw [decide_eq_true rfl] at this
      rw [← hw3]
      exact this

end Go.Proofs.Ytmbbhagjfgjhgaa

/- For all words the law radicandlaw12.Root2Squares returns true, and its arguments read afterwards as they read before. No condition. -/
namespace Go.Proofs.Ytmbbhagjfgjhgaa.root2Squares
open Go.ChangeShapes Go.WideShapes Go.ChangeAt Go.RowKit Go.Proofs.Ytmbbhagjfgjhgaa

theorem own : ownKnob Try.prog.godebug = none := by kernel_rfl
theorem laidOut : laidOutB Try.prog = true := by kernel_rfl

set_option maxRecDepth 100000 in
theorem lifted (os : Os) (started : os.Started) (H : Type) (enc : TypeId × Value → H) :
    ReturnsInHanded {} Try.checked os 12 .any (Rows.root2SquaresSpec.pre6 enc Try.prog Try.f12 Rows.root2SquaresRow.domain false) (Rows.root2SquaresSpec.post enc Try.prog Try.f12 false true false false) := by
  refine returnsInHanded_of_change (C := Try.checked) own started (by kernel_rfl) Try.func12
    (ChangeSpec.witness6 (enc := enc) (C := Try.checked) false ⟨#[], #[.agg #[.int .u64 0, .int .u64 0], .agg #[.int .u64 0, .int .u64 0]], []⟩ 8 (by kernel_rfl) (by kernel_rfl) (by kernel_rfl) (by kernel_rfl)) ?_
  intro W base args ds gs before hval0 hW hcnd _
  have hval : ∀ (j : Nat) t v, Try.f12.params[j]? = some t → args[j]? = some v → Value.okWide Try.prog W .any base t v := hval0
  have hW' := hW
  obtain ⟨p, q, hA0, hV, rfl, hfz, hnd⟩ := hW
  have hA : DataW.TrodAll enc Try.prog W 0 (fun _ => true) true Try.f12.params.toList args.toList ds p := hA0
  rw [Try.params12] at hA hval
  obtain ⟨v0, vs0, d0, ds0, p0, q0, hargs, rfl, rfl, h0, r0⟩ := trodAll_cons hA
  obtain ⟨v1, vs1, d1, ds1, p1, q1, rfl, rfl, rfl, h1, r1⟩ := trodAll_cons r0
  obtain ⟨rfl, rfl, rfl⟩ := trodAll_nil r1
  obtain rfl : args = #[v0, v1] := by cases args; simp_all
  obtain ⟨rfl, rfl⟩ := trodVars_none hV
  have k0 := h0
  have lt0 : ∀ x ∈ p0, x.block < W.heap.size := by obtain ⟨m, hm⟩ := k0; exact DataW.trod_lt m _ _ _ hm
  have k1 := h1
  have lt1 : ∀ x ∈ p1, x.block < W.heap.size := by obtain ⟨m, hm⟩ := k1; exact DataW.trod_lt m _ _ _ hm
  obtain ⟨x0, y0, hx0, hy0, rfl⟩ := word_of_trod (hval 0 53 v0 rfl rfl) h0
  obtain ⟨x1, y1, hx1, hy1, rfl⟩ := word_of_trod (hval 1 53 v1 rfl rfl) h1
  clear hA0 hval0
  refine (root2Squares_walk _ _ _ _ hx0 hy0 hx1 hy1 W).mono fun e W' ⟨he, bel⟩ => ?_
  subst he
  exact ⟨_, rfl, _, _, _, [], _, [], hW', trodAll_mk1 (shut_bool Try.underlying4 _), (trodAll_cons_mk (Below.trod laidOut (by kernel_rfl) (of_decide_eq_true (by kernel_rfl)) k0 bel lt0) (trodAll_cons_mk (Below.trod laidOut (by kernel_rfl) (of_decide_eq_true (by kernel_rfl)) k1 bel lt1) trodAll_mk0)), rfl, bel.frame _, fun h => by cases h⟩

theorem over : Rows.root2SquaresRow.holds Try.pinned (OpenSpec.ofChange Rows.root2SquaresSpec) :=
  OpenClaim.holds_of_wide 12 Try.f12 rfl rfl rfl rfl rfl rfl rfl ⟨rfl, rfl, rfl, rfl, rfl⟩ rfl rfl rfl rfl rfl (by kernel_rfl) Try.func12 (by kernel_rfl)
    (of_decide_eq_true (by kernel_rfl)) (by unfold Func.isWrapper; first | (rw [if_pos (by decide +kernel)]; kernel_rfl) | (rw [if_neg (by decide +kernel)]; exact ⟨rfl, rfl⟩))
    (fun os started H enc _ => lifted os started H enc)

theorem proved : Rows.Root2SquaresSaid := over
#print axioms proved
end Go.Proofs.Ytmbbhagjfgjhgaa.root2Squares

