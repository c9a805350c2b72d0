/- For all words the law radicandlaw11.Radix2Back returns true, and its arguments read afterwards as they read before. No condition. -/
import Derived.Test.YtmbbhagjfgjhgaaPartAO
import Derived.Test.YtmbbhagjfgjhgaaRows
import Derived.Test.YtmbbhagjfgjhgaaPartAR
import Derived.WalkKit
import Derived.ProofKit
import Derived.OpenShut
import Derived.ShutString
import Derived.ChangeOld
import Derived.Below
/- For all words the law radicandlaw11.Radix2Back returns true. -/
set_option linter.unusedVariables false
set_option linter.unusedSimpArgs false
set_option maxRecDepth 8000
namespace Go.Proofs.Ytmbbhagjfgjhgaa
open Go.RowKit Plain

/-- Three words in boxes. -/
structure BkSt (qh ql dh dl rh rl : Nat) (w W : World) : Prop where
  q0 : W.cell? ⟨w.heap.size, 0, none⟩ = some (.int .u64 (qh : Nat))
  q1 : W.cell? ⟨w.heap.size, 1, none⟩ = some (.int .u64 (ql : Nat))
  d0 : W.cell? ⟨w.heap.size + 1, 0, none⟩ = some (.int .u64 (dh : Nat))
  d1 : W.cell? ⟨w.heap.size + 1, 1, none⟩ = some (.int .u64 (dl : Nat))
  r0 : W.cell? ⟨w.heap.size + 2, 0, none⟩ = some (.int .u64 (rh : Nat))
  r1 : W.cell? ⟨w.heap.size + 2, 1, none⟩ = some (.int .u64 (rl : Nat))
  lt : w.heap.size + 2 < W.heap.size
  bel : Below w.heap.size w W
theorem BkSt.under {qh ql dh dl rh rl : Nat} {w W W' : World} (h : BkSt qh ql dh dl rh rl w W) {C : Nat} (hb : Below C W W') (hc : w.heap.size + 2 < C) : BkSt qh ql dh dl rh rl w W' :=
  ⟨(hb.cell (p := ⟨w.heap.size, 0, none⟩) (show w.heap.size < C by omega)).trans h.q0, (hb.cell (p := ⟨w.heap.size, 1, none⟩) (show w.heap.size < C by omega)).trans h.q1,
   (hb.cell (p := ⟨w.heap.size + 1, 0, none⟩) (show w.heap.size + 1 < C by omega)).trans h.d0, (hb.cell (p := ⟨w.heap.size + 1, 1, none⟩) (show w.heap.size + 1 < C by omega)).trans h.d1,
   (hb.cell (p := ⟨w.heap.size + 2, 0, none⟩) hc).trans h.r0, (hb.cell (p := ⟨w.heap.size + 2, 1, none⟩) hc).trans h.r1, Nat.lt_of_lt_of_le h.lt hb.size, h.bel.trans (hb.mono (by omega))⟩
theorem BkSt.below {qh ql dh dl rh rl : Nat} {w W W' : World} (h : BkSt qh ql dh dl rh rl w W) (hb : Below W.heap.size W W') : BkSt qh ql dh dl rh rl w W' := h.under hb h.lt
theorem bkSt_start (qh ql dh dl rh rl : Nat) (w : World) (x : Value) (hy : Hid (x = .int .u64 (dh : Nat))) (e1 e2 e3 : TypeId) :
    BkSt qh ql dh dl rh rl w (((w.alloc (.cells #[.int .u64 (qh : Nat), .int .u64 (ql : Nat)] e1)).alloc (.cells #[x, .int .u64 (dl : Nat)] e2)).alloc (.cells #[.int .u64 (rh : Nat), .int .u64 (rl : Nat)] e3)) := by
  rw [hy.out]
  exact ⟨by simp [go_sem], by simp [go_sem], by simp [go_sem], by simp [go_sem], by simp [go_sem], by simp [go_sem], by simp, below_trans (below_trans (below_allocs _ _) (below_allocs _ _)) (below_allocs _ _)⟩

set_option maxHeartbeats 4000000 in
theorem back11_G (qh ql y0 dh dl rh rl x y z p s n a b : Nat) (k : Int) (ov : Bool)
    (HRM : Hid (IntKind.u64.wrap (((y0 : Nat) : Int) % 72057594037927936) = ((dh : Nat) : Int) ∧ ((y0 : Nat) : Int) % 72057594037927936 = ((dh : Nat) : Int)))
    (HOQ : Hid (∀ u w, Rd mk64 w u [ql, qh] → Calls Try.prog 29 #[u] w fun e w' => ∃ v', e = .returned v' ∧ BigV w' v' x 4 ∧ Below w.heap.size w w'))
    (HOD : Hid (∀ u w, Rd mk64 w u [dl, dh] → Calls Try.prog 29 #[u] w fun e w' => ∃ v', e = .returned v' ∧ BigV w' v' y 4 ∧ Below w.heap.size w w'))
    (HOR : Hid (∀ u w, Rd mk64 w u [rl, rh] → Calls Try.prog 29 #[u] w fun e w' => ∃ v', e = .returned v' ∧ BigV w' v' z 4 ∧ Below w.heap.size w w'))
    (HCM : Hid (∀ u v w, BigV w u z 4 → BigV w v y 4 → Calls Try.prog 30 #[u, v] w fun e w' => e = .returned (.int .i64 k) ∧ w' = w))
    (hk : 0 ≤ k)
    (HAW : Hid (∀ w, Calls Try.prog 17 #[] w fun e w' => e = .returned (.bool true) ∧ Below w.heap.size w w')) (w : World) :
    Calls Try.prog 7 #[.agg #[.int .u64 (qh : Nat), .int .u64 (ql : Nat)], .agg #[.int .u64 (y0 : Nat), .int .u64 (dl : Nat)], .agg #[.int .u64 (rh : Nat), .int .u64 (rl : Nat)]] w fun e w' => e = .returned (.bool true) ∧ Below w.heap.size w w' := by
  have hk2 : decide (0 ≤ k) = true := decide_eq_true hk
  clear hk
  have HS : Hid (∀ x', x' = ((dh : Nat) : Int) → BkSt qh ql dh dl rh rl w (((w.alloc (.cells #[.int .u64 (qh : Nat), .int .u64 (ql : Nat)] 53)).alloc (.cells #[.int .u64 x', .int .u64 (dl : Nat)] 53)).alloc (.cells #[.int .u64 (rh : Nat), .int .u64 (rl : Nat)] 53))) := fun x' hx => bkSt_start qh ql dh dl rh rl w _ (by show Value.int _ _ = _; rw [hx]) _ _ _
  go_enter Try.func7, Try.ntmps7
  go_upto_region 2 with fail
  refine wp_gen (fun W => BkSt qh ql dh dl rh rl w W) (HS.out _ (by first | exact HRM.out.1 | exact HRM.out.2 | omega)) ?_
  clear HS HRM
  rintro W2 h2
  refine wp_region_grow 21 [(19, .val (.pointer (some ⟨w.heap.size, 1, none⟩))), (20, .val (.int .u64 (ql : Nat))), (21, .val (.pointer (some ⟨w.heap.size, 0, none⟩))), (22, .val (.int .u64 (qh : Nat))), (23, .rd [ql, qh]), (24, .big x 4), (25, .val (.pointer (some ⟨w.heap.size + 1, 1, none⟩))), (26, .val (.int .u64 (dl : Nat))), (27, .val (.pointer (some ⟨w.heap.size + 1, 0, none⟩))), (28, .val (.int .u64 (dh : Nat))), (29, .rd [dl, dh]), (30, .big y 4), (31, .val (.pointer (some ⟨w.heap.size + 2, 1, none⟩))), (32, .val (.int .u64 (rl : Nat))), (33, .val (.pointer (some ⟨w.heap.size + 2, 0, none⟩))), (34, .val (.int .u64 (rh : Nat))), (35, .rd [rl, rh]), (36, .big z 4), (7, .big x 4), (8, .big y 4), (9, .big z 4)]
    (fun W => BkSt qh ql dh dl rh rl w W) mixedOk (by kernel_rfl) (by kernel_rfl) (h2.below (Below.refl _ _).drew) (fun W W' h hb => h.below hb) ?_ ?_
  · refine gSt (gStep_run rfl ?_) ?_
    · intro ρ W hC hc hf hL
      have e3 : ρ (.tmp 3) = .pointer (some ⟨w.heap.size, 0, none⟩) := hL 3 (by decide +kernel)
      simp [go_sem, hc, hf, e3]
      exact ⟨Below.refl _ _, rfl⟩
    refine gSt (gStep_run rfl ?_) ?_
    · intro ρ W hC hc hf hL
      have e19 : ρ (.tmp 19) = .pointer (some ⟨w.heap.size, 1, none⟩) := hL 19 (by decide +kernel)
      have hl := hC.q1
      simp [go_sem, hc, hf, e19, hl]
      exact ⟨Below.refl _ _, rfl⟩
    refine gSt (gStep_run rfl ?_) ?_
    · intro ρ W hC hc hf hL
      have e3 : ρ (.tmp 3) = .pointer (some ⟨w.heap.size, 0, none⟩) := hL 3 (by decide +kernel)
      simp [go_sem, hc, hf, e3]
      exact ⟨Below.refl _ _, rfl⟩
    refine gSt (gStep_run rfl ?_) ?_
    · intro ρ W hC hc hf hL
      have e21 : ρ (.tmp 21) = .pointer (some ⟨w.heap.size, 0, none⟩) := hL 21 (by decide +kernel)
      have hl := hC.q0
      simp [go_sem, hc, hf, e21, hl]
      exact ⟨Below.refl _ _, rfl⟩
    refine gSt (gStep_run rfl ?_) ?_
    · intro ρ W hC hc hf hL
      have e20 : ρ (.tmp 20) = .int .u64 (ql : Nat) := hL 20 (by decide +kernel)
      have e22 : ρ (.tmp 22) = .int .u64 (qh : Nat) := hL 22 (by decide +kernel)
      simp [go_sem, hc, hf, e20, e22]
      exact ⟨below_allocs _ _, Rd.lit (mk := mk64) W 22 [.int .u64 (ql : Nat), .int .u64 (qh : Nat)] [ql, qh] rfl 2 (Nat.le_refl 2) (by decide)⟩
    refine gSt (gStep_run rfl ?_) ?_
    · intro ρ W hC hc hf hL
      have b23 := hL 23 (by decide +kernel)
      simp [go_sem, hc, hf]
      refine (HOQ.out _ _ b23).mono ?_
      rintro e w' ⟨v, rfl, hv, hb⟩
      exact ⟨_, rfl, hb, hv⟩
    refine gSt (gStep_run rfl ?_) ?_
    · intro ρ W hC hc hf hL
      have e4 : ρ (.tmp 4) = .pointer (some ⟨w.heap.size + 1, 0, none⟩) := hL 4 (by decide +kernel)
      simp [go_sem, hc, hf, e4]
      exact ⟨Below.refl _ _, rfl⟩
    refine gSt (gStep_run rfl ?_) ?_
    · intro ρ W hC hc hf hL
      have e25 : ρ (.tmp 25) = .pointer (some ⟨w.heap.size + 1, 1, none⟩) := hL 25 (by decide +kernel)
      have hl := hC.d1
      simp [go_sem, hc, hf, e25, hl]
      exact ⟨Below.refl _ _, rfl⟩
    refine gSt (gStep_run rfl ?_) ?_
    · intro ρ W hC hc hf hL
      have e4 : ρ (.tmp 4) = .pointer (some ⟨w.heap.size + 1, 0, none⟩) := hL 4 (by decide +kernel)
      simp [go_sem, hc, hf, e4]
      exact ⟨Below.refl _ _, rfl⟩
    refine gSt (gStep_run rfl ?_) ?_
    · intro ρ W hC hc hf hL
      have e27 : ρ (.tmp 27) = .pointer (some ⟨w.heap.size + 1, 0, none⟩) := hL 27 (by decide +kernel)
      have hl := hC.d0
      simp [go_sem, hc, hf, e27, hl]
      exact ⟨Below.refl _ _, rfl⟩
    refine gSt (gStep_run rfl ?_) ?_
    · intro ρ W hC hc hf hL
      have e26 : ρ (.tmp 26) = .int .u64 (dl : Nat) := hL 26 (by decide +kernel)
      have e28 : ρ (.tmp 28) = .int .u64 (dh : Nat) := hL 28 (by decide +kernel)
      simp [go_sem, hc, hf, e26, e28]
      exact ⟨below_allocs _ _, Rd.lit (mk := mk64) W 22 [.int .u64 (dl : Nat), .int .u64 (dh : Nat)] [dl, dh] rfl 2 (Nat.le_refl 2) (by decide)⟩
    refine gSt (gStep_run rfl ?_) ?_
    · intro ρ W hC hc hf hL
      have b29 := hL 29 (by decide +kernel)
      simp [go_sem, hc, hf]
      refine (HOD.out _ _ b29).mono ?_
      rintro e w' ⟨v, rfl, hv, hb⟩
      exact ⟨_, rfl, hb, hv⟩
    refine gSt (gStep_run rfl ?_) ?_
    · intro ρ W hC hc hf hL
      have e5 : ρ (.tmp 5) = .pointer (some ⟨w.heap.size + 2, 0, none⟩) := hL 5 (by decide +kernel)
      simp [go_sem, hc, hf, e5]
      exact ⟨Below.refl _ _, rfl⟩
    refine gSt (gStep_run rfl ?_) ?_
    · intro ρ W hC hc hf hL
      have e31 : ρ (.tmp 31) = .pointer (some ⟨w.heap.size + 2, 1, none⟩) := hL 31 (by decide +kernel)
      have hl := hC.r1
      simp [go_sem, hc, hf, e31, hl]
      exact ⟨Below.refl _ _, rfl⟩
    refine gSt (gStep_run rfl ?_) ?_
    · intro ρ W hC hc hf hL
      have e5 : ρ (.tmp 5) = .pointer (some ⟨w.heap.size + 2, 0, none⟩) := hL 5 (by decide +kernel)
      simp [go_sem, hc, hf, e5]
      exact ⟨Below.refl _ _, rfl⟩
    refine gSt (gStep_run rfl ?_) ?_
    · intro ρ W hC hc hf hL
      have e33 : ρ (.tmp 33) = .pointer (some ⟨w.heap.size + 2, 0, none⟩) := hL 33 (by decide +kernel)
      have hl := hC.r0
      simp [go_sem, hc, hf, e33, hl]
      exact ⟨Below.refl _ _, rfl⟩
    refine gSt (gStep_run rfl ?_) ?_
    · intro ρ W hC hc hf hL
      have e32 : ρ (.tmp 32) = .int .u64 (rl : Nat) := hL 32 (by decide +kernel)
      have e34 : ρ (.tmp 34) = .int .u64 (rh : Nat) := hL 34 (by decide +kernel)
      simp [go_sem, hc, hf, e32, e34]
      exact ⟨below_allocs _ _, Rd.lit (mk := mk64) W 22 [.int .u64 (rl : Nat), .int .u64 (rh : Nat)] [rl, rh] rfl 2 (Nat.le_refl 2) (by decide)⟩
    refine gSt (gStep_run rfl ?_) ?_
    · intro ρ W hC hc hf hL
      have b35 := hL 35 (by decide +kernel)
      simp [go_sem, hc, hf]
      refine (HOR.out _ _ b35).mono ?_
      rintro e w' ⟨v, rfl, hv, hb⟩
      exact ⟨_, rfl, hb, hv⟩
    refine gSt (gStep_run rfl (gRun_move 24 7 (.inr rfl) rfl (by decide +kernel) (fun v w h => h))) ?_
    refine gSt (gStep_run rfl (gRun_move 30 8 (.inr rfl) rfl (by decide +kernel) (fun v w h => h))) ?_
    refine gSt (gStep_run rfl (gRun_move 36 9 (.inr rfl) rfl (by decide +kernel) (fun v w h => h))) ?_
    exact gSt0
  · intro W hC
    refine gFi 19 rfl ?_
    rintro _ rfl
    refine gFi 20 rfl ?_
    rintro _ rfl
    refine gFi 21 rfl ?_
    rintro _ rfl
    refine gFi 22 rfl ?_
    rintro _ rfl
    refine gFi 23 rfl ?_
    rintro u23 b23
    refine gFi 24 rfl ?_
    rintro u24 b24
    refine gFi 25 rfl ?_
    rintro _ rfl
    refine gFi 26 rfl ?_
    rintro _ rfl
    refine gFi 27 rfl ?_
    rintro _ rfl
    refine gFi 28 rfl ?_
    rintro _ rfl
    refine gFi 29 rfl ?_
    rintro u29 b29
    refine gFi 30 rfl ?_
    rintro u30 b30
    refine gFi 31 rfl ?_
    rintro _ rfl
    refine gFi 32 rfl ?_
    rintro _ rfl
    refine gFi 33 rfl ?_
    rintro _ rfl
    refine gFi 34 rfl ?_
    rintro _ rfl
    refine gFi 35 rfl ?_
    rintro u35 b35
    refine gFi 36 rfl ?_
    rintro u36 b36
    refine gFi 7 rfl ?_
    rintro u7 b7
    refine gFi 8 rfl ?_
    rintro u8 b8
    refine gFi 9 rfl ?_
    rintro u9 b9
    refine gFi0 ?_
    simp only [List.drop_succ_cons, List.drop_zero, Act.put, List.setIfInBounds_toArray, List.set_cons_succ, List.set_cons_zero]
    have HS := hide hC
    clear hC h2 b23 b29 b35 b24 b30 b36
    go_wp2_with fail
    refine (HCM.out _ _ _ b9 b8).mono ?_
    rintro e wl ⟨rfl, hw⟩
    subst wl
    go_wp2_with fail
    refine (HAW.out _).mono ?_
    rintro e w3 ⟨rfl, hb3⟩
    replace HS := hide (HS.out.below hb3)
    clear hb3
    have HB := hide HS.out.bel
    clear HS
    go_wp2
    go_ret
    exact ⟨rfl, HB.out⟩

set_option maxHeartbeats 4000000 in
theorem back11_Y (qh ql y0 dh dl rh rl x y z p s n a b : Nat) (k : Int) (ov : Bool)
    (HRM : Hid (IntKind.u64.wrap (((y0 : Nat) : Int) % 72057594037927936) = ((dh : Nat) : Int) ∧ ((y0 : Nat) : Int) % 72057594037927936 = ((dh : Nat) : Int)))
    (HOQ : Hid (∀ u w, Rd mk64 w u [ql, qh] → Calls Try.prog 29 #[u] w fun e w' => ∃ v', e = .returned v' ∧ BigV w' v' x 4 ∧ Below w.heap.size w w'))
    (HOD : Hid (∀ u w, Rd mk64 w u [dl, dh] → Calls Try.prog 29 #[u] w fun e w' => ∃ v', e = .returned v' ∧ BigV w' v' y 4 ∧ Below w.heap.size w w'))
    (HOR : Hid (∀ u w, Rd mk64 w u [rl, rh] → Calls Try.prog 29 #[u] w fun e w' => ∃ v', e = .returned v' ∧ BigV w' v' z 4 ∧ Below w.heap.size w w'))
    (HCM : Hid (∀ u v w, BigV w u z 4 → BigV w v y 4 → Calls Try.prog 30 #[u, v] w fun e w' => e = .returned (.int .i64 k) ∧ w' = w))
    (hk : ¬ 0 ≤ k)
    (HAW : Hid (∀ w, Calls Try.prog 17 #[] w fun e w' => e = .returned (.bool true) ∧ Below w.heap.size w w'))
    (HMU : Hid (∀ u v w, BigV w u (x) 4 → BigV w v (y) 4 → Calls Try.prog 27 #[u, v] w fun e w' => ∃ v', e = .returned v' ∧ BigV w' v' (p) 8 ∧ Below w.heap.size w w'))
    (HAD : Hid (∀ u v w, BigV w u (p) 8 → BigV w v (z) 4 → Calls Try.prog 31 #[u, v] w fun e w' => ∃ v', e = .returned v' ∧ BigV w' v' (s) 9 ∧ Below w.heap.size w w'))
    (HWI : Hid (∀ u w, BigV w u (s) 9 → Calls Try.prog 25 #[u] w fun e w' => e = .returned (.tuple #[.agg #[.int .u64 (dgl (n) 0 : Nat), .int .u64 (dgl (n) 1 : Nat), .int .u64 (dgl (n) 2 : Nat), .int .u64 (dgl (n) 3 : Nat), .int .u64 (dgl (n) 4 : Nat), .int .u64 (dgl (n) 5 : Nat), .int .u64 (dgl (n) 6 : Nat), .int .u64 (dgl (n) 7 : Nat)], .bool ov]) ∧ Below w.heap.size w w'))
    (HDV : Hid (∀ w, Calls Try.prog 13 #[.agg #[.int .u64 (dgl (n) 0 : Nat), .int .u64 (dgl (n) 1 : Nat), .int .u64 (dgl (n) 2 : Nat), .int .u64 (dgl (n) 3 : Nat), .int .u64 (dgl (n) 4 : Nat), .int .u64 (dgl (n) 5 : Nat), .int .u64 (dgl (n) 6 : Nat), .int .u64 (dgl (n) 7 : Nat)], .agg #[.int .u64 (dl : Nat), .int .u64 (dh : Nat), .int .u64 0, .int .u64 0, .int .u64 0, .int .u64 0, .int .u64 0, .int .u64 0]] w fun e w' => e = .returned (.tuple #[.agg #[.int .u64 (dgl (a) 0 : Nat), .int .u64 (dgl (a) 1 : Nat), .int .u64 (dgl (a) 2 : Nat), .int .u64 (dgl (a) 3 : Nat), .int .u64 (dgl (a) 4 : Nat), .int .u64 (dgl (a) 5 : Nat), .int .u64 (dgl (a) 6 : Nat), .int .u64 (dgl (a) 7 : Nat)], .agg #[.int .u64 (dgl (b) 0 : Nat), .int .u64 (dgl (b) 1 : Nat), .int .u64 (dgl (b) 2 : Nat), .int .u64 (dgl (b) 3 : Nat), .int .u64 (dgl (b) 4 : Nat), .int .u64 (dgl (b) 5 : Nat), .int .u64 (dgl (b) 6 : Nat), .int .u64 (dgl (b) 7 : Nat)], .int .i64 0]) ∧ Below w.heap.size w w'))
    (hqa : ∀ w, (Op.equalIn 10000 24 (.agg #[.int .u64 (dgl (a) 0 : Nat), .int .u64 (dgl (a) 1 : Nat), .int .u64 (dgl (a) 2 : Nat), .int .u64 (dgl (a) 3 : Nat), .int .u64 (dgl (a) 4 : Nat), .int .u64 (dgl (a) 5 : Nat), .int .u64 (dgl (a) 6 : Nat), .int .u64 (dgl (a) 7 : Nat)]) (.agg #[.int .u64 (ql : Nat), .int .u64 (qh : Nat), .int .u64 0, .int .u64 0, .int .u64 0, .int .u64 0, .int .u64 0, .int .u64 0])).run Try.prog w = .ok true w)
    (hrb : ∀ w, (Op.equalIn 10000 24 (.agg #[.int .u64 (dgl (b) 0 : Nat), .int .u64 (dgl (b) 1 : Nat), .int .u64 (dgl (b) 2 : Nat), .int .u64 (dgl (b) 3 : Nat), .int .u64 (dgl (b) 4 : Nat), .int .u64 (dgl (b) 5 : Nat), .int .u64 (dgl (b) 6 : Nat), .int .u64 (dgl (b) 7 : Nat)]) (.agg #[.int .u64 (rl : Nat), .int .u64 (rh : Nat), .int .u64 0, .int .u64 0, .int .u64 0, .int .u64 0, .int .u64 0, .int .u64 0])).run Try.prog w = .ok true w) (w : World) :
    Calls Try.prog 7 #[.agg #[.int .u64 (qh : Nat), .int .u64 (ql : Nat)], .agg #[.int .u64 (y0 : Nat), .int .u64 (dl : Nat)], .agg #[.int .u64 (rh : Nat), .int .u64 (rl : Nat)]] w fun e w' => e = .returned (.bool true) ∧ Below w.heap.size w w' := by
  have hk2 : decide (0 ≤ k) = false := decide_eq_false hk
  clear hk
  have HS : Hid (∀ x', x' = ((dh : Nat) : Int) → BkSt qh ql dh dl rh rl w (((w.alloc (.cells #[.int .u64 (qh : Nat), .int .u64 (ql : Nat)] 53)).alloc (.cells #[.int .u64 x', .int .u64 (dl : Nat)] 53)).alloc (.cells #[.int .u64 (rh : Nat), .int .u64 (rl : Nat)] 53))) := fun x' hx => bkSt_start qh ql dh dl rh rl w _ (by show Value.int _ _ = _; rw [hx]) _ _ _
  go_enter Try.func7, Try.ntmps7
  go_upto_region 2 with fail
  refine wp_gen (fun W => BkSt qh ql dh dl rh rl w W) (HS.out _ (by first | exact HRM.out.1 | exact HRM.out.2 | omega)) ?_
  clear HS HRM
  rintro W2 h2
  refine wp_region_grow 21 [(19, .val (.pointer (some ⟨w.heap.size, 1, none⟩))), (20, .val (.int .u64 (ql : Nat))), (21, .val (.pointer (some ⟨w.heap.size, 0, none⟩))), (22, .val (.int .u64 (qh : Nat))), (23, .rd [ql, qh]), (24, .big x 4), (25, .val (.pointer (some ⟨w.heap.size + 1, 1, none⟩))), (26, .val (.int .u64 (dl : Nat))), (27, .val (.pointer (some ⟨w.heap.size + 1, 0, none⟩))), (28, .val (.int .u64 (dh : Nat))), (29, .rd [dl, dh]), (30, .big y 4), (31, .val (.pointer (some ⟨w.heap.size + 2, 1, none⟩))), (32, .val (.int .u64 (rl : Nat))), (33, .val (.pointer (some ⟨w.heap.size + 2, 0, none⟩))), (34, .val (.int .u64 (rh : Nat))), (35, .rd [rl, rh]), (36, .big z 4), (7, .big x 4), (8, .big y 4), (9, .big z 4)]
    (fun W => BkSt qh ql dh dl rh rl w W) mixedOk (by kernel_rfl) (by kernel_rfl) (h2.below (Below.refl _ _).drew) (fun W W' h hb => h.below hb) ?_ ?_
  · refine gSt (gStep_run rfl ?_) ?_
    · intro ρ W hC hc hf hL
      have e3 : ρ (.tmp 3) = .pointer (some ⟨w.heap.size, 0, none⟩) := hL 3 (by decide +kernel)
      simp [go_sem, hc, hf, e3]
      exact ⟨Below.refl _ _, rfl⟩
    refine gSt (gStep_run rfl ?_) ?_
    · intro ρ W hC hc hf hL
      have e19 : ρ (.tmp 19) = .pointer (some ⟨w.heap.size, 1, none⟩) := hL 19 (by decide +kernel)
      have hl := hC.q1
      simp [go_sem, hc, hf, e19, hl]
      exact ⟨Below.refl _ _, rfl⟩
    refine gSt (gStep_run rfl ?_) ?_
    · intro ρ W hC hc hf hL
      have e3 : ρ (.tmp 3) = .pointer (some ⟨w.heap.size, 0, none⟩) := hL 3 (by decide +kernel)
      simp [go_sem, hc, hf, e3]
      exact ⟨Below.refl _ _, rfl⟩
    refine gSt (gStep_run rfl ?_) ?_
    · intro ρ W hC hc hf hL
      have e21 : ρ (.tmp 21) = .pointer (some ⟨w.heap.size, 0, none⟩) := hL 21 (by decide +kernel)
      have hl := hC.q0
      simp [go_sem, hc, hf, e21, hl]
      exact ⟨Below.refl _ _, rfl⟩
    refine gSt (gStep_run rfl ?_) ?_
    · intro ρ W hC hc hf hL
      have e20 : ρ (.tmp 20) = .int .u64 (ql : Nat) := hL 20 (by decide +kernel)
      have e22 : ρ (.tmp 22) = .int .u64 (qh : Nat) := hL 22 (by decide +kernel)
      simp [go_sem, hc, hf, e20, e22]
      exact ⟨below_allocs _ _, Rd.lit (mk := mk64) W 22 [.int .u64 (ql : Nat), .int .u64 (qh : Nat)] [ql, qh] rfl 2 (Nat.le_refl 2) (by decide)⟩
    refine gSt (gStep_run rfl ?_) ?_
    · intro ρ W hC hc hf hL
      have b23 := hL 23 (by decide +kernel)
      simp [go_sem, hc, hf]
      refine (HOQ.out _ _ b23).mono ?_
      rintro e w' ⟨v, rfl, hv, hb⟩
      exact ⟨_, rfl, hb, hv⟩
    refine gSt (gStep_run rfl ?_) ?_
    · intro ρ W hC hc hf hL
      have e4 : ρ (.tmp 4) = .pointer (some ⟨w.heap.size + 1, 0, none⟩) := hL 4 (by decide +kernel)
      simp [go_sem, hc, hf, e4]
      exact ⟨Below.refl _ _, rfl⟩
    refine gSt (gStep_run rfl ?_) ?_
    · intro ρ W hC hc hf hL
      have e25 : ρ (.tmp 25) = .pointer (some ⟨w.heap.size + 1, 1, none⟩) := hL 25 (by decide +kernel)
      have hl := hC.d1
      simp [go_sem, hc, hf, e25, hl]
      exact ⟨Below.refl _ _, rfl⟩
    refine gSt (gStep_run rfl ?_) ?_
    · intro ρ W hC hc hf hL
      have e4 : ρ (.tmp 4) = .pointer (some ⟨w.heap.size + 1, 0, none⟩) := hL 4 (by decide +kernel)
      simp [go_sem, hc, hf, e4]
      exact ⟨Below.refl _ _, rfl⟩
    refine gSt (gStep_run rfl ?_) ?_
    · intro ρ W hC hc hf hL
      have e27 : ρ (.tmp 27) = .pointer (some ⟨w.heap.size + 1, 0, none⟩) := hL 27 (by decide +kernel)
      have hl := hC.d0
      simp [go_sem, hc, hf, e27, hl]
      exact ⟨Below.refl _ _, rfl⟩
    refine gSt (gStep_run rfl ?_) ?_
    · intro ρ W hC hc hf hL
      have e26 : ρ (.tmp 26) = .int .u64 (dl : Nat) := hL 26 (by decide +kernel)
      have e28 : ρ (.tmp 28) = .int .u64 (dh : Nat) := hL 28 (by decide +kernel)
      simp [go_sem, hc, hf, e26, e28]
      exact ⟨below_allocs _ _, Rd.lit (mk := mk64) W 22 [.int .u64 (dl : Nat), .int .u64 (dh : Nat)] [dl, dh] rfl 2 (Nat.le_refl 2) (by decide)⟩
    refine gSt (gStep_run rfl ?_) ?_
    · intro ρ W hC hc hf hL
      have b29 := hL 29 (by decide +kernel)
      simp [go_sem, hc, hf]
      refine (HOD.out _ _ b29).mono ?_
      rintro e w' ⟨v, rfl, hv, hb⟩
      exact ⟨_, rfl, hb, hv⟩
    refine gSt (gStep_run rfl ?_) ?_
    · intro ρ W hC hc hf hL
      have e5 : ρ (.tmp 5) = .pointer (some ⟨w.heap.size + 2, 0, none⟩) := hL 5 (by decide +kernel)
      simp [go_sem, hc, hf, e5]
      exact ⟨Below.refl _ _, rfl⟩
    refine gSt (gStep_run rfl ?_) ?_
    · intro ρ W hC hc hf hL
      have e31 : ρ (.tmp 31) = .pointer (some ⟨w.heap.size + 2, 1, none⟩) := hL 31 (by decide +kernel)
      have hl := hC.r1
      simp [go_sem, hc, hf, e31, hl]
      exact ⟨Below.refl _ _, rfl⟩
    refine gSt (gStep_run rfl ?_) ?_
    · intro ρ W hC hc hf hL
      have e5 : ρ (.tmp 5) = .pointer (some ⟨w.heap.size + 2, 0, none⟩) := hL 5 (by decide +kernel)
      simp [go_sem, hc, hf, e5]
      exact ⟨Below.refl _ _, rfl⟩
    refine gSt (gStep_run rfl ?_) ?_
    · intro ρ W hC hc hf hL
      have e33 : ρ (.tmp 33) = .pointer (some ⟨w.heap.size + 2, 0, none⟩) := hL 33 (by decide +kernel)
      have hl := hC.r0
      simp [go_sem, hc, hf, e33, hl]
      exact ⟨Below.refl _ _, rfl⟩
    refine gSt (gStep_run rfl ?_) ?_
    · intro ρ W hC hc hf hL
      have e32 : ρ (.tmp 32) = .int .u64 (rl : Nat) := hL 32 (by decide +kernel)
      have e34 : ρ (.tmp 34) = .int .u64 (rh : Nat) := hL 34 (by decide +kernel)
      simp [go_sem, hc, hf, e32, e34]
      exact ⟨below_allocs _ _, Rd.lit (mk := mk64) W 22 [.int .u64 (rl : Nat), .int .u64 (rh : Nat)] [rl, rh] rfl 2 (Nat.le_refl 2) (by decide)⟩
    refine gSt (gStep_run rfl ?_) ?_
    · intro ρ W hC hc hf hL
      have b35 := hL 35 (by decide +kernel)
      simp [go_sem, hc, hf]
      refine (HOR.out _ _ b35).mono ?_
      rintro e w' ⟨v, rfl, hv, hb⟩
      exact ⟨_, rfl, hb, hv⟩
    refine gSt (gStep_run rfl (gRun_move 24 7 (.inr rfl) rfl (by decide +kernel) (fun v w h => h))) ?_
    refine gSt (gStep_run rfl (gRun_move 30 8 (.inr rfl) rfl (by decide +kernel) (fun v w h => h))) ?_
    refine gSt (gStep_run rfl (gRun_move 36 9 (.inr rfl) rfl (by decide +kernel) (fun v w h => h))) ?_
    exact gSt0
  · intro W hC
    refine gFi 19 rfl ?_
    rintro _ rfl
    refine gFi 20 rfl ?_
    rintro _ rfl
    refine gFi 21 rfl ?_
    rintro _ rfl
    refine gFi 22 rfl ?_
    rintro _ rfl
    refine gFi 23 rfl ?_
    rintro u23 b23
    refine gFi 24 rfl ?_
    rintro u24 b24
    refine gFi 25 rfl ?_
    rintro _ rfl
    refine gFi 26 rfl ?_
    rintro _ rfl
    refine gFi 27 rfl ?_
    rintro _ rfl
    refine gFi 28 rfl ?_
    rintro _ rfl
    refine gFi 29 rfl ?_
    rintro u29 b29
    refine gFi 30 rfl ?_
    rintro u30 b30
    refine gFi 31 rfl ?_
    rintro _ rfl
    refine gFi 32 rfl ?_
    rintro _ rfl
    refine gFi 33 rfl ?_
    rintro _ rfl
    refine gFi 34 rfl ?_
    rintro _ rfl
    refine gFi 35 rfl ?_
    rintro u35 b35
    refine gFi 36 rfl ?_
    rintro u36 b36
    refine gFi 7 rfl ?_
    rintro u7 b7
    refine gFi 8 rfl ?_
    rintro u8 b8
    refine gFi 9 rfl ?_
    rintro u9 b9
    refine gFi0 ?_
    simp only [List.drop_succ_cons, List.drop_zero, Act.put, List.setIfInBounds_toArray, List.set_cons_succ, List.set_cons_zero]
    have HS := hide hC
    clear hC h2 b23 b29 b35 b24 b30 b36
    go_wp2_with fail
    refine (HCM.out _ _ _ b9 b8).mono ?_
    rintro e wl ⟨rfl, hw⟩
    subst wl
    go_wp2_with fail
    refine (HMU.out _ _ _ b7 b8).mono ?_
    rintro e w3 ⟨vp, rfl, hvp, hb3⟩
    replace HS := hide (HS.out.below hb3)
    replace b9 := BigV.below b9 hb3
    clear hb3 b7 b8
    go_wp2_with fail
    refine (HAD.out _ _ _ hvp b9).mono ?_
    rintro e w4 ⟨vs, rfl, hvs, hb4⟩
    replace HS := hide (HS.out.below hb4)
    clear hb4 hvp b9
    go_wp2_with fail
    refine (HWI.out _ _ hvs).mono ?_
    rintro e w5 ⟨rfl, hb5⟩
    replace HS := hide (HS.out.below hb5)
    clear hb5 hvs
    go_upto_region 6 with fail
    refine wp_gen (fun W => BkSt qh ql dh dl rh rl w W ∧ LiesF W w5.heap.size (dgl n)) ⟨HS.out.below (below_allocs _ _), liesF_new _ _ _⟩ ?_
    clear HS
    generalize w5.heap.size = p10 at *
    rintro W6 h6
    have HS := hide h6.1
    have hn := h6.2.1
    have d0 := h6.1.d0
    have d1 := h6.1.d1
    clear h6
    go_wp2_with fail
    refine (HDV.out _).mono ?_
    rintro e w7 ⟨rfl, hb7⟩
    replace HS := hide (HS.out.below hb7)
    clear hb7 hn d0 d1
    go_upto_region 7 with fail
    have hbw := below_trans (below_allocs w7 (.cells #[.int .u64 (dgl (a) 0 : Nat), .int .u64 (dgl (a) 1 : Nat), .int .u64 (dgl (a) 2 : Nat), .int .u64 (dgl (a) 3 : Nat), .int .u64 (dgl (a) 4 : Nat), .int .u64 (dgl (a) 5 : Nat), .int .u64 (dgl (a) 6 : Nat), .int .u64 (dgl (a) 7 : Nat)] 24)) (below_allocs _ (.cells #[.int .u64 (dgl (b) 0 : Nat), .int .u64 (dgl (b) 1 : Nat), .int .u64 (dgl (b) 2 : Nat), .int .u64 (dgl (b) 3 : Nat), .int .u64 (dgl (b) 4 : Nat), .int .u64 (dgl (b) 5 : Nat), .int .u64 (dgl (b) 6 : Nat), .int .u64 (dgl (b) 7 : Nat)] 24))
    refine wp_gen (fun W => BkSt qh ql dh dl rh rl w W ∧ R2St w7.heap.size (w7.heap.size + 1) a b w W) ⟨HS.out.below hbw, r2_put w w7 a b HS.out.bel _ _⟩ ?_
    clear HS hbw
    rintro W8 h8
    have HS := hide h8
    clear h8
    have hq0 := HS.out.1.q0
    have hq1 := HS.out.1.q1
    have hr0 := HS.out.1.r0
    have hr1 := HS.out.1.r1
    have hcx := HS.out.2.lx.1
    have hcy := HS.out.2.ly.1
    go_wp2_with fail
    refine (HAW.out _).mono ?_
    rintro e w9 ⟨rfl, hb9⟩
    have HB := hide (below_trans HS.out.1.bel hb9)
    clear HS hb9 hq0 hq1 hr0 hr1 hcx hcy
    go_wp2
    go_ret
    exact ⟨rfl, HB.out⟩

/-- Two limbs, read as a number. -/
theorem dig_two {l h : Nat} (hl : l < 18446744073709551616) (hh : h < 18446744073709551616) : Dig LL [l, h] (l + 18446744073709551616 * h) := by
  refine ⟨?_, fun i => ?_⟩
  · show l + 18446744073709551616 * h < 18446744073709551616 ^ 2
    rw [Nat.pow_two]
    omega
  · match i with
    | 0 => show l = _ / 18446744073709551616 ^ 0 % 18446744073709551616; rw [Nat.pow_zero, Nat.div_one]; omega
    | 1 => show h = _ / 18446744073709551616 ^ 1 % 18446744073709551616; rw [Nat.pow_one]; omega
    | i + 2 =>
      show 0 = _ / 18446744073709551616 ^ (i + 2) % 18446744073709551616
      have h1 : l + 18446744073709551616 * h < 18446744073709551616 ^ 2 := by rw [Nat.pow_two]; omega
      rw [Nat.div_eq_of_lt (Nat.lt_of_lt_of_le h1 (Nat.pow_le_pow_right (by decide) (by omega)))]
theorem w8_two {l h : Nat} (hl : l < 18446744073709551616) (hh : h < 18446744073709551616) : (#[.int .u64 (dgl (l + 18446744073709551616 * h) 0 : Nat), .int .u64 (dgl (l + 18446744073709551616 * h) 1 : Nat), .int .u64 (dgl (l + 18446744073709551616 * h) 2 : Nat), .int .u64 (dgl (l + 18446744073709551616 * h) 3 : Nat), .int .u64 (dgl (l + 18446744073709551616 * h) 4 : Nat), .int .u64 (dgl (l + 18446744073709551616 * h) 5 : Nat), .int .u64 (dgl (l + 18446744073709551616 * h) 6 : Nat), .int .u64 (dgl (l + 18446744073709551616 * h) 7 : Nat)] : Array Value) = #[.int .u64 (l : Nat), .int .u64 (h : Nat), .int .u64 0, .int .u64 0, .int .u64 0, .int .u64 0, .int .u64 0, .int .u64 0] := by
  have hd := fun i => (dig_two hl hh).2 i
  have e0 : dgl (l + 18446744073709551616 * h) 0 = l := (hd 0).symm
  have e1 : dgl (l + 18446744073709551616 * h) 1 = h := (hd 1).symm
  have e2 : dgl (l + 18446744073709551616 * h) 2 = 0 := (hd 2).symm
  have e3 : dgl (l + 18446744073709551616 * h) 3 = 0 := (hd 3).symm
  have e4 : dgl (l + 18446744073709551616 * h) 4 = 0 := (hd 4).symm
  have e5 : dgl (l + 18446744073709551616 * h) 5 = 0 := (hd 5).symm
  have e6 : dgl (l + 18446744073709551616 * h) 6 = 0 := (hd 6).symm
  have e7 : dgl (l + 18446744073709551616 * h) 7 = 0 := (hd 7).symm
  rw [e0, e1, e2, e3, e4, e5, e6, e7]
  rfl
theorem of_pair {l h : Nat} (hl : l < 18446744073709551616) (hh : h < 18446744073709551616) (u : Value) (w : World) (hu : Rd mk64 w u [l, h]) :
    Calls Try.prog 29 #[u] w fun e w' => ∃ v', e = .returned v' ∧ BigV w' v' (l + 18446744073709551616 * h) 4 ∧ Below w.heap.size w w' := of_any [l, h] _ u w hu (dig_two hl hh) (by show 2 ≤ 100000; decide)
theorem radix2Back_walk (qh ql y0 dl rh rl : Nat) (h1 : qh < 18446744073709551616) (h2 : ql < 18446744073709551616) (h3 : y0 < 18446744073709551616) (h4 : dl < 18446744073709551616) (h5 : rh < 18446744073709551616) (h6 : rl < 18446744073709551616) (w : World) :
    Calls Try.prog 7 #[.agg #[.int .u64 (qh : Nat), .int .u64 (ql : Nat)], .agg #[.int .u64 (y0 : Nat), .int .u64 (dl : Nat)], .agg #[.int .u64 (rh : Nat), .int .u64 (rl : Nat)]] w fun e w' => e = .returned (.bool true) ∧ Below w.heap.size w w' := by
  have hdh : y0 % 72057594037927936 < 72057594037927936 := Nat.mod_lt _ (by decide)
  have HRM : IntKind.u64.wrap (((y0 : Nat) : Int) % 72057594037927936) = ((y0 % 72057594037927936 : Nat) : Int) ∧ ((y0 : Nat) : Int) % 72057594037927936 = ((y0 % 72057594037927936 : Nat) : Int) := by
    rw [IntKind.wrap_u64]
    omega
  generalize y0 % 72057594037927936 = dh at *
  have hdh2 : dh < 18446744073709551616 := by omega
  have HCM := fun u v w (hu : BigV w u (rl + 18446744073709551616 * rh) 4) (hv : BigV w v (dl + 18446744073709551616 * dh) 4) => cmp_any _ _ 4 4 u v w hu hv
  by_cases hk : 0 ≤ cmpN (rl + 18446744073709551616 * rh) (dl + 18446744073709551616 * dh)
  · exact back11_G qh ql y0 dh dl rh rl _ _ _ 0 0 0 0 0 _ true HRM (of_pair h2 h1) (of_pair h4 hdh2) (of_pair h6 h5) HCM hk (fun w => awake11_any w) w
  · have hlt : rl + 18446744073709551616 * rh < dl + 18446744073709551616 * dh := by
      unfold cmpN at hk
      split at hk
      · assumption
      · exfalso
        split at hk <;> omega
    have e64 : (18446744073709551616 : Nat) = 2 ^ 64 := by decide
    have hy : dl + 18446744073709551616 * dh < 2 ^ 120 := by
      have : (2 : Nat) ^ 120 = 18446744073709551616 * 72057594037927936 := by decide
      omega
    have hx : ql + 18446744073709551616 * qh < 2 ^ 128 := by
      have : (2 : Nat) ^ 128 = 18446744073709551616 * 18446744073709551616 := by decide
      omega
    have hw1 := w8_two h2 h1
    have hw2 := w8_two h4 hdh2
    have hw3 := w8_two h6 h5
    have HOQ := of_pair h2 h1
    have HOD := of_pair h4 hdh2
    have HOR := of_pair h6 h5
    generalize ql + 18446744073709551616 * qh = x at *
    generalize dl + 18446744073709551616 * dh = y at *
    generalize rl + 18446744073709551616 * rh = z at *
    have hqz : (x * y + z) / y = x ∧ (x * y + z) % y = z := by
      rw [Nat.mul_comm]
      refine ⟨?_, ?_⟩
      · rw [Nat.mul_add_div (by omega), Nat.div_eq_of_lt hlt, Nat.add_zero]
      · rw [Nat.mul_add_mod, Nat.mod_eq_of_lt hlt]
    have hn1 : x * y + z < y * 2 ^ 128 := by
      have h7 : (x + 1) * y ≤ 2 ^ 128 * y := Nat.mul_le_mul_right _ hx
      rw [Nat.add_mul, Nat.one_mul, Nat.mul_comm (2 ^ 128)] at h7
      generalize y * 2 ^ 128 = Y at *
      omega
    have hn : x * y + z < QQ := by
      have h8 : y * 2 ^ 128 < 2 ^ 120 * 2 ^ 128 := Nat.mul_lt_mul_of_pos_right hy (Nat.two_pow_pos _)
      have h9 : 2 ^ 120 * 2 ^ 128 < QQ := by decide +kernel
      exact Nat.lt_trans hn1 (Nat.lt_trans h8 h9)
    have hyq : y < QQ := Nat.lt_trans hy (by decide +kernel)
    have hxq : x < QQ := Nat.lt_trans hx (by decide +kernel)
    have hzq : z < QQ := Nat.lt_trans hlt hyq
    have hm : mayN (x * y + z) y = 0 := by
      unfold mayN
      rw [if_neg (by omega), if_neg (by exact Nat.not_le.2 hy), if_neg (by exact Nat.not_le.2 hn1)]
    have hdv : ∀ w, Calls Try.prog 13 #[.agg #[.int .u64 (dgl (x * y + z) 0 : Nat), .int .u64 (dgl (x * y + z) 1 : Nat), .int .u64 (dgl (x * y + z) 2 : Nat), .int .u64 (dgl (x * y + z) 3 : Nat), .int .u64 (dgl (x * y + z) 4 : Nat), .int .u64 (dgl (x * y + z) 5 : Nat), .int .u64 (dgl (x * y + z) 6 : Nat), .int .u64 (dgl (x * y + z) 7 : Nat)], .agg #[.int .u64 (dl : Nat), .int .u64 (dh : Nat), .int .u64 0, .int .u64 0, .int .u64 0, .int .u64 0, .int .u64 0, .int .u64 0]] w fun e w' => e = .returned (.tuple #[.agg #[.int .u64 (dgl (x) 0 : Nat), .int .u64 (dgl (x) 1 : Nat), .int .u64 (dgl (x) 2 : Nat), .int .u64 (dgl (x) 3 : Nat), .int .u64 (dgl (x) 4 : Nat), .int .u64 (dgl (x) 5 : Nat), .int .u64 (dgl (x) 6 : Nat), .int .u64 (dgl (x) 7 : Nat)], .agg #[.int .u64 (dgl (z) 0 : Nat), .int .u64 (dgl (z) 1 : Nat), .int .u64 (dgl (z) 2 : Nat), .int .u64 (dgl (z) 3 : Nat), .int .u64 (dgl (z) 4 : Nat), .int .u64 (dgl (z) 5 : Nat), .int .u64 (dgl (z) 6 : Nat), .int .u64 (dgl (z) 7 : Nat)], .int .i64 0]) ∧ Below w.heap.size w w' := fun w => by
      have h := divide_ok (x * y + z) y hn hyq hm w
      rw [hqz.1, hqz.2, hw2] at h
      exact h
    refine back11_Y qh ql y0 dh dl rh rl x y z (x * y) (x * y + z) (x * y + z) x z _ (decide (QQ ≤ x * y + z)) HRM HOQ HOD HOR HCM hk (fun w => awake11_any w)
      (fun u v w hu hv => refMul_any x y 4 4 u v w hu hv (by decide) (by decide)) (fun u v w hu hv => (refAdd_any (x * y) z 8 4 u v w hu hv (by decide) (by decide)).mono fun e w' ⟨v', e1, e2, e3⟩ => ⟨v', e1, e2.mono (by decide), e3⟩)
      (fun u w hu => refWide_any (x * y + z) 9 u w hu) hdv (fun w => ?_) (fun w => ?_) w
    · have := wide_eqb hxq hxq w
      rw [decide_eq_true rfl] at this
      rw [← hw1]
      exact this
    · have := wide_eqb hzq hzq w
      rw [decide_eq_true rfl] at this
      rw [← hw3]
      exact this

end Go.Proofs.Ytmbbhagjfgjhgaa

/- For all words the law radicandlaw11.Radix2Back returns true, and its arguments read afterwards as they read before. No condition. -/
namespace Go.Proofs.Ytmbbhagjfgjhgaa.radix2Back
open Go.ChangeShapes Go.WideShapes Go.ChangeAt Go.RowKit Go.Proofs.Ytmbbhagjfgjhgaa

theorem own : ownKnob Try.prog.godebug = none := by kernel_rfl
theorem laidOut : laidOutB Try.prog = true := by kernel_rfl

set_option maxRecDepth 100000 in
theorem lifted (os : Os) (started : os.Started) (H : Type) (enc : TypeId × Value → H) :
    ReturnsInHanded {} Try.checked os 7 .any (Rows.radix2BackSpec.pre6 enc Try.prog Try.f7 Rows.radix2BackRow.domain false) (Rows.radix2BackSpec.post enc Try.prog Try.f7 false true false false) := by
  refine returnsInHanded_of_change (C := Try.checked) own started (by kernel_rfl) Try.func7
    (ChangeSpec.witness6 (enc := enc) (C := Try.checked) false ⟨#[], #[.agg #[.int .u64 0, .int .u64 0], .agg #[.int .u64 0, .int .u64 0], .agg #[.int .u64 0, .int .u64 0]], []⟩ 8 (by kernel_rfl) (by kernel_rfl) (by kernel_rfl) (by kernel_rfl)) ?_
  intro W base args ds gs before hval0 hW hcnd _
  have hval : ∀ (j : Nat) t v, Try.f7.params[j]? = some t → args[j]? = some v → Value.okWide Try.prog W .any base t v := hval0
  have hW' := hW
  obtain ⟨p, q, hA0, hV, rfl, hfz, hnd⟩ := hW
  have hA : DataW.TrodAll enc Try.prog W 0 (fun _ => true) true Try.f7.params.toList args.toList ds p := hA0
  rw [Try.params7] at hA hval
  obtain ⟨v0, vs0, d0, ds0, p0, q0, hargs, rfl, rfl, h0, r0⟩ := trodAll_cons hA
  obtain ⟨v1, vs1, d1, ds1, p1, q1, rfl, rfl, rfl, h1, r1⟩ := trodAll_cons r0
  obtain ⟨v2, vs2, d2, ds2, p2, q2, rfl, rfl, rfl, h2, r2⟩ := trodAll_cons r1
  obtain ⟨rfl, rfl, rfl⟩ := trodAll_nil r2
  obtain rfl : args = #[v0, v1, v2] := by cases args; simp_all
  obtain ⟨rfl, rfl⟩ := trodVars_none hV
  have k0 := h0
  have lt0 : ∀ x ∈ p0, x.block < W.heap.size := by obtain ⟨m, hm⟩ := k0; exact DataW.trod_lt m _ _ _ hm
  have k1 := h1
  have lt1 : ∀ x ∈ p1, x.block < W.heap.size := by obtain ⟨m, hm⟩ := k1; exact DataW.trod_lt m _ _ _ hm
  have k2 := h2
  have lt2 : ∀ x ∈ p2, x.block < W.heap.size := by obtain ⟨m, hm⟩ := k2; exact DataW.trod_lt m _ _ _ hm
  obtain ⟨x0, y0, hx0, hy0, rfl⟩ := word_of_trod (hval 0 53 v0 rfl rfl) h0
  obtain ⟨x1, y1, hx1, hy1, rfl⟩ := word_of_trod (hval 1 53 v1 rfl rfl) h1
  obtain ⟨x2, y2, hx2, hy2, rfl⟩ := word_of_trod (hval 2 53 v2 rfl rfl) h2
  clear hA0 hval0
  refine (radix2Back_walk _ _ _ _ _ _ hx0 hy0 hx1 hy1 hx2 hy2 W).mono fun e W' ⟨he, bel⟩ => ?_
  subst he
  exact ⟨_, rfl, _, _, _, [], _, [], hW', trodAll_mk1 (shut_bool Try.underlying4 _), (trodAll_cons_mk (Below.trod laidOut (by kernel_rfl) (of_decide_eq_true (by kernel_rfl)) k0 bel lt0) (trodAll_cons_mk (Below.trod laidOut (by kernel_rfl) (of_decide_eq_true (by kernel_rfl)) k1 bel lt1) (trodAll_cons_mk (Below.trod laidOut (by kernel_rfl) (of_decide_eq_true (by kernel_rfl)) k2 bel lt2) trodAll_mk0))), rfl, bel.frame _, fun h => by cases h⟩

theorem over : Rows.radix2BackRow.holds Try.pinned (OpenSpec.ofChange Rows.radix2BackSpec) :=
  OpenClaim.holds_of_wide 7 Try.f7 rfl rfl rfl rfl rfl rfl rfl ⟨rfl, rfl, rfl, rfl, rfl⟩ rfl rfl rfl rfl rfl (by kernel_rfl) Try.func7 (by kernel_rfl)
    (of_decide_eq_true (by kernel_rfl)) (by unfold Func.isWrapper; first | (rw [if_pos (by decide +kernel)]; kernel_rfl) | (rw [if_neg (by decide +kernel)]; exact ⟨rfl, rfl⟩))
    (fun os started H enc _ => lifted os started H enc)

theorem proved : Rows.Radix2BackSaid := over
#print axioms proved
end Go.Proofs.Ytmbbhagjfgjhgaa.radix2Back

