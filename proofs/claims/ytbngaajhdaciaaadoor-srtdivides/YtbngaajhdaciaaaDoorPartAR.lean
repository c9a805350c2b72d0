/- Contracts and laws: ProdF, ProdG, ProdJ, RdxB, FlyA, FlyB, FlyC, GrowC, FlyD. -/
import Derived.Test.YtbngaajhdaciaaaDoorPartAM
import Derived.Test.YtbngaajhdaciaaaDoorPartAN
import Derived.Deep.DeepCutAuto
import Derived.Test.YtbngaajhdaciaaaDoorPartAQ
import Derived.Test.YtbngaajhdaciaaaDoorPartAL
import Derived.Test.YtbngaajhdaciaaaDoorPartAG
/- Contracts: prod.High. -/
set_option linter.unusedVariables false
set_option linter.unusedSimpArgs false
set_option maxRecDepth 8000
namespace Go.Proofs.YtbngaajhdaciaaaDoor
open Go.RowKit Plain

end Go.Proofs.YtbngaajhdaciaaaDoor

/- Contracts: radicandref03.Mul; radicandlaw03.awake. -/
set_option linter.unusedVariables false
set_option linter.unusedSimpArgs false
set_option maxRecDepth 8000
namespace Go.Proofs.YtbngaajhdaciaaaDoor
open Go.RowKit Plain

end Go.Proofs.YtbngaajhdaciaaaDoor

/- Contracts: prod.Power. -/
set_option linter.unusedVariables false
set_option linter.unusedSimpArgs false
set_option maxRecDepth 8000
namespace Go.Proofs.YtbngaajhdaciaaaDoor
open Go.RowKit Plain

end Go.Proofs.YtbngaajhdaciaaaDoor

/- Contracts: the document's quotients (radicandref11). -/
set_option linter.unusedVariables false
set_option linter.unusedSimpArgs false
set_option maxRecDepth 8000
namespace Go.Proofs.YtbngaajhdaciaaaDoor
open Go.RowKit Plain

/-- May two be divided? An error's number. -/
def mayN (n d : Nat) : Nat := if d = 0 then 5 else if 2 ^ 120 ≤ d then 4 else if d * 2 ^ 128 ≤ n then 4 else 0
theorem mayN_zero {n d : Nat} (h : mayN n d = 0) : 0 < d ∧ d < 2 ^ 120 ∧ n < d * 2 ^ 128 := by
  unfold mayN at h
  by_cases h1 : d = 0
  · rw [if_pos h1] at h
    omega
  rw [if_neg h1] at h
  by_cases h2 : 2 ^ 120 ≤ d
  · rw [if_pos h2] at h
    omega
  rw [if_neg h2] at h
  by_cases h3 : d * 2 ^ 128 ≤ n
  · rw [if_pos h3] at h
    omega
  omega
theorem bitLen_zero {d : Nat} : Go.bitLen d = 0 ↔ d = 0 := by
  constructor
  · intro h
    have := bitLen_lt d
    rw [h] at this
    omega
  · intro h
    rw [h]
    rfl
theorem bitLen_above (d k : Nat) : k < Go.bitLen d ↔ 2 ^ k ≤ d := by
  constructor
  · intro h
    rcases Nat.lt_or_ge d (2 ^ k) with h1 | h1
    · have := bitLen_le d k h1
      omega
    · exact h1
  · intro h
    rcases Nat.lt_or_ge k (Go.bitLen d) with h1 | h1
    · exact h1
    · have h2 := bitLen_lt d
      have h3 : 2 ^ Go.bitLen d ≤ 2 ^ k := Nat.pow_le_pow_right (by decide) h1
      omega
/-- Two wides in boxes, of a call's own. -/
structure TwSt (a b : Nat) (w W : World) : Prop where
  la : LiesF W w.heap.size (dgl a)
  lb : LiesF W (w.heap.size + 1) (dgl b)
  bel : Below w.heap.size w W
theorem TwSt.under {a b : Nat} {w W W' : World} (h : TwSt a b w W) {C : Nat} (hb : Below C W W') (hc : w.heap.size + 1 < C) : TwSt a b w W' :=
  ⟨lies_box h.la hb (by omega), lies_box h.lb hb hc, h.bel.trans (hb.mono (by omega))⟩
theorem TwSt.below {a b : Nat} {w W W' : World} (h : TwSt a b w W) (hb : Below W.heap.size W W') : TwSt a b w W' := h.under hb h.lb.2
theorem twSt_start (a b : Nat) (w : World) (e1 e2 : TypeId) : TwSt a b w ((w.alloc (.cells #[.int .u64 (dgl (a) 0 : Nat), .int .u64 (dgl (a) 1 : Nat), .int .u64 (dgl (a) 2 : Nat), .int .u64 (dgl (a) 3 : Nat), .int .u64 (dgl (a) 4 : Nat), .int .u64 (dgl (a) 5 : Nat), .int .u64 (dgl (a) 6 : Nat), .int .u64 (dgl (a) 7 : Nat)] e1)).alloc (.cells #[.int .u64 (dgl (b) 0 : Nat), .int .u64 (dgl (b) 1 : Nat), .int .u64 (dgl (b) 2 : Nat), .int .u64 (dgl (b) 3 : Nat), .int .u64 (dgl (b) 4 : Nat), .int .u64 (dgl (b) 5 : Nat), .int .u64 (dgl (b) 6 : Nat), .int .u64 (dgl (b) 7 : Nat)] e2)) := by
  have h := liesF_new (w.alloc (.cells #[.int .u64 (dgl (a) 0 : Nat), .int .u64 (dgl (a) 1 : Nat), .int .u64 (dgl (a) 2 : Nat), .int .u64 (dgl (a) 3 : Nat), .int .u64 (dgl (a) 4 : Nat), .int .u64 (dgl (a) 5 : Nat), .int .u64 (dgl (a) 6 : Nat), .int .u64 (dgl (a) 7 : Nat)] e1)) (dgl b) e2
  rw [World.size_alloc] at h
  exact ⟨(liesF_new w (dgl a) e1).alloc _, h, below_trans (below_allocs w _) (below_allocs _ _)⟩

set_option maxHeartbeats 2000000 in
theorem rmay_Z (n d L s : Nat) (q : Int)
    (HBN : Hid (∀ w, Calls Tryd.prog 16 #[.agg #[.int .u64 (dgl (n) 0 : Nat), .int .u64 (dgl (n) 1 : Nat), .int .u64 (dgl (n) 2 : Nat), .int .u64 (dgl (n) 3 : Nat), .int .u64 (dgl (n) 4 : Nat), .int .u64 (dgl (n) 5 : Nat), .int .u64 (dgl (n) 6 : Nat), .int .u64 (dgl (n) 7 : Nat)]] w fun e w' => ∃ v, e = .returned v ∧ BigV w' v n 40 ∧ Below w.heap.size w w'))
    (HBD : Hid (∀ w, Calls Tryd.prog 16 #[.agg #[.int .u64 (dgl (d) 0 : Nat), .int .u64 (dgl (d) 1 : Nat), .int .u64 (dgl (d) 2 : Nat), .int .u64 (dgl (d) 3 : Nat), .int .u64 (dgl (d) 4 : Nat), .int .u64 (dgl (d) 5 : Nat), .int .u64 (dgl (d) 6 : Nat), .int .u64 (dgl (d) 7 : Nat)]] w fun e w' => ∃ v, e = .returned v ∧ BigV w' v d 40 ∧ Below w.heap.size w w'))
    (HLN : Hid (∀ v w, BigV w v d 40 → Calls Tryd.prog 17 #[v] w fun e w' => e = .returned (.int .i64 ((L : Nat) : Int)) ∧ w' = w))
    (hL : L = 0) (w : World) :
    Calls Tryd.prog 11 #[.agg #[.int .u64 (dgl (n) 0 : Nat), .int .u64 (dgl (n) 1 : Nat), .int .u64 (dgl (n) 2 : Nat), .int .u64 (dgl (n) 3 : Nat), .int .u64 (dgl (n) 4 : Nat), .int .u64 (dgl (n) 5 : Nat), .int .u64 (dgl (n) 6 : Nat), .int .u64 (dgl (n) 7 : Nat)], .agg #[.int .u64 (dgl (d) 0 : Nat), .int .u64 (dgl (d) 1 : Nat), .int .u64 (dgl (d) 2 : Nat), .int .u64 (dgl (d) 3 : Nat), .int .u64 (dgl (d) 4 : Nat), .int .u64 (dgl (d) 5 : Nat), .int .u64 (dgl (d) 6 : Nat), .int .u64 (dgl (d) 7 : Nat)]] w fun e w' => e = .returned (.int .i64 5) ∧ Below w.heap.size w w' := by
  have HS := hide (twSt_start n d w 24 24)
  have hl0 : (((L : Nat) : Int) == 0) = true := by rw [beq_iff_eq]; omega
  clear hL
  go_enter Tryd.func11, Tryd.ntmps11
  go_upto_region 1 with fail
  refine wp_gen (fun W => TwSt n d w W) HS.out ?_
  clear HS
  rintro W1 h1
  refine wp_region_grow 6 [(7, .val (.agg #[.int .u64 (dgl (n) 0 : Nat), .int .u64 (dgl (n) 1 : Nat), .int .u64 (dgl (n) 2 : Nat), .int .u64 (dgl (n) 3 : Nat), .int .u64 (dgl (n) 4 : Nat), .int .u64 (dgl (n) 5 : Nat), .int .u64 (dgl (n) 6 : Nat), .int .u64 (dgl (n) 7 : Nat)])), (8, .big n 40), (9, .val (.agg #[.int .u64 (dgl (d) 0 : Nat), .int .u64 (dgl (d) 1 : Nat), .int .u64 (dgl (d) 2 : Nat), .int .u64 (dgl (d) 3 : Nat), .int .u64 (dgl (d) 4 : Nat), .int .u64 (dgl (d) 5 : Nat), .int .u64 (dgl (d) 6 : Nat), .int .u64 (dgl (d) 7 : Nat)])), (10, .big d 40), (5, .big n 40), (6, .big d 40)]
    (fun W => TwSt n d w W) mixedOk (by kernel_rfl) (by kernel_rfl) (h1.below (Below.refl _ _).drew) (fun W W' h hb => h.below hb) ?_ ?_
  · refine gSt (gStep_run rfl ?_) ?_
    · intro ρ W hC hc hf hL
      have e2 : ρ (.tmp 2) = .pointer (some ⟨w.heap.size, 0, none⟩) := hL 2 (by decide +kernel)
      have hl := hC.la.1
      simp [go_sem, hc, hf, e2, hl]
      exact ⟨Below.refl _ _, rfl⟩
    refine gSt (gStep_run rfl ?_) ?_
    · intro ρ W hC hc hf hL
      have e7 : ρ (.tmp 7) = .agg #[.int .u64 (dgl (n) 0 : Nat), .int .u64 (dgl (n) 1 : Nat), .int .u64 (dgl (n) 2 : Nat), .int .u64 (dgl (n) 3 : Nat), .int .u64 (dgl (n) 4 : Nat), .int .u64 (dgl (n) 5 : Nat), .int .u64 (dgl (n) 6 : Nat), .int .u64 (dgl (n) 7 : Nat)] := hL 7 (by decide +kernel)
      simp [go_sem, hc, hf, e7]
      refine (HBN.out W).mono ?_
      rintro e w' ⟨v, rfl, hv, hb⟩
      exact ⟨_, rfl, hb, hv⟩
    refine gSt (gStep_run rfl ?_) ?_
    · intro ρ W hC hc hf hL
      have e3 : ρ (.tmp 3) = .pointer (some ⟨w.heap.size + 1, 0, none⟩) := hL 3 (by decide +kernel)
      have hl := hC.lb.1
      simp [go_sem, hc, hf, e3, hl]
      exact ⟨Below.refl _ _, rfl⟩
    refine gSt (gStep_run rfl ?_) ?_
    · intro ρ W hC hc hf hL
      have e9 : ρ (.tmp 9) = .agg #[.int .u64 (dgl (d) 0 : Nat), .int .u64 (dgl (d) 1 : Nat), .int .u64 (dgl (d) 2 : Nat), .int .u64 (dgl (d) 3 : Nat), .int .u64 (dgl (d) 4 : Nat), .int .u64 (dgl (d) 5 : Nat), .int .u64 (dgl (d) 6 : Nat), .int .u64 (dgl (d) 7 : Nat)] := hL 9 (by decide +kernel)
      simp [go_sem, hc, hf, e9]
      refine (HBD.out W).mono ?_
      rintro e w' ⟨v, rfl, hv, hb⟩
      exact ⟨_, rfl, hb, hv⟩
    refine gSt (gStep_run rfl (gRun_move 8 5 (.inr rfl) rfl (by decide +kernel) (fun v w h => h))) ?_
    refine gSt (gStep_run rfl (gRun_move 10 6 (.inr rfl) rfl (by decide +kernel) (fun v w h => h))) ?_
    exact gSt0
  · intro W hC
    refine gFi 7 rfl ?_
    rintro _ rfl
    refine gFi 8 rfl ?_
    rintro u8 b8
    refine gFi 9 rfl ?_
    rintro _ rfl
    refine gFi 10 rfl ?_
    rintro u10 b10
    refine gFi 5 rfl ?_
    rintro u5 b5
    refine gFi 6 rfl ?_
    rintro u6 b6
    refine gFi0 ?_
    simp only [List.drop_succ_cons, List.drop_zero, Act.put, List.setIfInBounds_toArray, List.set_cons_succ, List.set_cons_zero]
    have HS := hide hC
    clear hC h1
    go_wp2_with fail
    refine (HLN.out _ _ b6).mono ?_
    rintro e wl ⟨rfl, hw⟩
    subst wl
    have HB := hide HS.out.bel
    clear HS
    go_wp2
    go_ret
    exact ⟨rfl, HB.out⟩

set_option maxHeartbeats 2000000 in
theorem rmay_B (n d L s : Nat) (q : Int)
    (HBN : Hid (∀ w, Calls Tryd.prog 16 #[.agg #[.int .u64 (dgl (n) 0 : Nat), .int .u64 (dgl (n) 1 : Nat), .int .u64 (dgl (n) 2 : Nat), .int .u64 (dgl (n) 3 : Nat), .int .u64 (dgl (n) 4 : Nat), .int .u64 (dgl (n) 5 : Nat), .int .u64 (dgl (n) 6 : Nat), .int .u64 (dgl (n) 7 : Nat)]] w fun e w' => ∃ v, e = .returned v ∧ BigV w' v n 40 ∧ Below w.heap.size w w'))
    (HBD : Hid (∀ w, Calls Tryd.prog 16 #[.agg #[.int .u64 (dgl (d) 0 : Nat), .int .u64 (dgl (d) 1 : Nat), .int .u64 (dgl (d) 2 : Nat), .int .u64 (dgl (d) 3 : Nat), .int .u64 (dgl (d) 4 : Nat), .int .u64 (dgl (d) 5 : Nat), .int .u64 (dgl (d) 6 : Nat), .int .u64 (dgl (d) 7 : Nat)]] w fun e w' => ∃ v, e = .returned v ∧ BigV w' v d 40 ∧ Below w.heap.size w w'))
    (HLN : Hid (∀ v w, BigV w v d 40 → Calls Tryd.prog 17 #[v] w fun e w' => e = .returned (.int .i64 ((L : Nat) : Int)) ∧ w' = w))
    (hL : 120 < L) (w : World) :
    Calls Tryd.prog 11 #[.agg #[.int .u64 (dgl (n) 0 : Nat), .int .u64 (dgl (n) 1 : Nat), .int .u64 (dgl (n) 2 : Nat), .int .u64 (dgl (n) 3 : Nat), .int .u64 (dgl (n) 4 : Nat), .int .u64 (dgl (n) 5 : Nat), .int .u64 (dgl (n) 6 : Nat), .int .u64 (dgl (n) 7 : Nat)], .agg #[.int .u64 (dgl (d) 0 : Nat), .int .u64 (dgl (d) 1 : Nat), .int .u64 (dgl (d) 2 : Nat), .int .u64 (dgl (d) 3 : Nat), .int .u64 (dgl (d) 4 : Nat), .int .u64 (dgl (d) 5 : Nat), .int .u64 (dgl (d) 6 : Nat), .int .u64 (dgl (d) 7 : Nat)]] w fun e w' => e = .returned (.int .i64 4) ∧ Below w.heap.size w w' := by
  have HS := hide (twSt_start n d w 24 24)
  have hl0 : (((L : Nat) : Int) == 0) = false := by rw [beq_eq_false_iff_ne]; omega
  have hl1 : (120 : Int) < (L : Int) := by omega
  clear hL
  go_enter Tryd.func11, Tryd.ntmps11
  go_upto_region 1 with fail
  refine wp_gen (fun W => TwSt n d w W) HS.out ?_
  clear HS
  rintro W1 h1
  refine wp_region_grow 6 [(7, .val (.agg #[.int .u64 (dgl (n) 0 : Nat), .int .u64 (dgl (n) 1 : Nat), .int .u64 (dgl (n) 2 : Nat), .int .u64 (dgl (n) 3 : Nat), .int .u64 (dgl (n) 4 : Nat), .int .u64 (dgl (n) 5 : Nat), .int .u64 (dgl (n) 6 : Nat), .int .u64 (dgl (n) 7 : Nat)])), (8, .big n 40), (9, .val (.agg #[.int .u64 (dgl (d) 0 : Nat), .int .u64 (dgl (d) 1 : Nat), .int .u64 (dgl (d) 2 : Nat), .int .u64 (dgl (d) 3 : Nat), .int .u64 (dgl (d) 4 : Nat), .int .u64 (dgl (d) 5 : Nat), .int .u64 (dgl (d) 6 : Nat), .int .u64 (dgl (d) 7 : Nat)])), (10, .big d 40), (5, .big n 40), (6, .big d 40)]
    (fun W => TwSt n d w W) mixedOk (by kernel_rfl) (by kernel_rfl) (h1.below (Below.refl _ _).drew) (fun W W' h hb => h.below hb) ?_ ?_
  · refine gSt (gStep_run rfl ?_) ?_
    · intro ρ W hC hc hf hL
      have e2 : ρ (.tmp 2) = .pointer (some ⟨w.heap.size, 0, none⟩) := hL 2 (by decide +kernel)
      have hl := hC.la.1
      simp [go_sem, hc, hf, e2, hl]
      exact ⟨Below.refl _ _, rfl⟩
    refine gSt (gStep_run rfl ?_) ?_
    · intro ρ W hC hc hf hL
      have e7 : ρ (.tmp 7) = .agg #[.int .u64 (dgl (n) 0 : Nat), .int .u64 (dgl (n) 1 : Nat), .int .u64 (dgl (n) 2 : Nat), .int .u64 (dgl (n) 3 : Nat), .int .u64 (dgl (n) 4 : Nat), .int .u64 (dgl (n) 5 : Nat), .int .u64 (dgl (n) 6 : Nat), .int .u64 (dgl (n) 7 : Nat)] := hL 7 (by decide +kernel)
      simp [go_sem, hc, hf, e7]
      refine (HBN.out W).mono ?_
      rintro e w' ⟨v, rfl, hv, hb⟩
      exact ⟨_, rfl, hb, hv⟩
    refine gSt (gStep_run rfl ?_) ?_
    · intro ρ W hC hc hf hL
      have e3 : ρ (.tmp 3) = .pointer (some ⟨w.heap.size + 1, 0, none⟩) := hL 3 (by decide +kernel)
      have hl := hC.lb.1
      simp [go_sem, hc, hf, e3, hl]
      exact ⟨Below.refl _ _, rfl⟩
    refine gSt (gStep_run rfl ?_) ?_
    · intro ρ W hC hc hf hL
      have e9 : ρ (.tmp 9) = .agg #[.int .u64 (dgl (d) 0 : Nat), .int .u64 (dgl (d) 1 : Nat), .int .u64 (dgl (d) 2 : Nat), .int .u64 (dgl (d) 3 : Nat), .int .u64 (dgl (d) 4 : Nat), .int .u64 (dgl (d) 5 : Nat), .int .u64 (dgl (d) 6 : Nat), .int .u64 (dgl (d) 7 : Nat)] := hL 9 (by decide +kernel)
      simp [go_sem, hc, hf, e9]
      refine (HBD.out W).mono ?_
      rintro e w' ⟨v, rfl, hv, hb⟩
      exact ⟨_, rfl, hb, hv⟩
    refine gSt (gStep_run rfl (gRun_move 8 5 (.inr rfl) rfl (by decide +kernel) (fun v w h => h))) ?_
    refine gSt (gStep_run rfl (gRun_move 10 6 (.inr rfl) rfl (by decide +kernel) (fun v w h => h))) ?_
    exact gSt0
  · intro W hC
    refine gFi 7 rfl ?_
    rintro _ rfl
    refine gFi 8 rfl ?_
    rintro u8 b8
    refine gFi 9 rfl ?_
    rintro _ rfl
    refine gFi 10 rfl ?_
    rintro u10 b10
    refine gFi 5 rfl ?_
    rintro u5 b5
    refine gFi 6 rfl ?_
    rintro u6 b6
    refine gFi0 ?_
    simp only [List.drop_succ_cons, List.drop_zero, Act.put, List.setIfInBounds_toArray, List.set_cons_succ, List.set_cons_zero]
    have HS := hide hC
    clear hC h1
    go_wp2_with fail
    refine (HLN.out _ _ b6).mono ?_
    rintro e wl ⟨rfl, hw⟩
    subst wl
    go_wp2_with fail
    refine (HLN.out _ _ b6).mono ?_
    rintro e wl ⟨rfl, hw⟩
    subst wl
    have HB := hide HS.out.bel
    clear HS
    go_wp2
    go_ret
    exact ⟨rfl, HB.out⟩

set_option maxHeartbeats 2000000 in
theorem rmay_G (n d L s : Nat) (q : Int)
    (HBN : Hid (∀ w, Calls Tryd.prog 16 #[.agg #[.int .u64 (dgl (n) 0 : Nat), .int .u64 (dgl (n) 1 : Nat), .int .u64 (dgl (n) 2 : Nat), .int .u64 (dgl (n) 3 : Nat), .int .u64 (dgl (n) 4 : Nat), .int .u64 (dgl (n) 5 : Nat), .int .u64 (dgl (n) 6 : Nat), .int .u64 (dgl (n) 7 : Nat)]] w fun e w' => ∃ v, e = .returned v ∧ BigV w' v n 40 ∧ Below w.heap.size w w'))
    (HBD : Hid (∀ w, Calls Tryd.prog 16 #[.agg #[.int .u64 (dgl (d) 0 : Nat), .int .u64 (dgl (d) 1 : Nat), .int .u64 (dgl (d) 2 : Nat), .int .u64 (dgl (d) 3 : Nat), .int .u64 (dgl (d) 4 : Nat), .int .u64 (dgl (d) 5 : Nat), .int .u64 (dgl (d) 6 : Nat), .int .u64 (dgl (d) 7 : Nat)]] w fun e w' => ∃ v, e = .returned v ∧ BigV w' v d 40 ∧ Below w.heap.size w w'))
    (HLN : Hid (∀ v w, BigV w v d 40 → Calls Tryd.prog 17 #[v] w fun e w' => e = .returned (.int .i64 ((L : Nat) : Int)) ∧ w' = w))
    (hL : 0 < L) (hL2 : L ≤ 120)
    (HSH : Hid (∀ v w, BigV w v d 40 → Calls Tryd.prog 19 #[v, .int .i64 128] w fun e w' => ∃ v', e = .returned v' ∧ BigV w' v' s 50 ∧ Below w.heap.size w w'))
    (HCM : Hid (∀ u v w, BigV w u n 40 → BigV w v s 50 → Calls Tryd.prog 20 #[u, v] w fun e w' => e = .returned (.int .i64 q) ∧ w' = w))
    (hq : 0 ≤ q) (w : World) :
    Calls Tryd.prog 11 #[.agg #[.int .u64 (dgl (n) 0 : Nat), .int .u64 (dgl (n) 1 : Nat), .int .u64 (dgl (n) 2 : Nat), .int .u64 (dgl (n) 3 : Nat), .int .u64 (dgl (n) 4 : Nat), .int .u64 (dgl (n) 5 : Nat), .int .u64 (dgl (n) 6 : Nat), .int .u64 (dgl (n) 7 : Nat)], .agg #[.int .u64 (dgl (d) 0 : Nat), .int .u64 (dgl (d) 1 : Nat), .int .u64 (dgl (d) 2 : Nat), .int .u64 (dgl (d) 3 : Nat), .int .u64 (dgl (d) 4 : Nat), .int .u64 (dgl (d) 5 : Nat), .int .u64 (dgl (d) 6 : Nat), .int .u64 (dgl (d) 7 : Nat)]] w fun e w' => e = .returned (.int .i64 4) ∧ Below w.heap.size w w' := by
  have HS := hide (twSt_start n d w 24 24)
  have hl0 : (((L : Nat) : Int) == 0) = false := by rw [beq_eq_false_iff_ne]; omega
  have hl1 : ¬ (120 : Int) < (L : Int) := by omega
  clear hL
  go_enter Tryd.func11, Tryd.ntmps11
  go_upto_region 1 with fail
  refine wp_gen (fun W => TwSt n d w W) HS.out ?_
  clear HS
  rintro W1 h1
  refine wp_region_grow 6 [(7, .val (.agg #[.int .u64 (dgl (n) 0 : Nat), .int .u64 (dgl (n) 1 : Nat), .int .u64 (dgl (n) 2 : Nat), .int .u64 (dgl (n) 3 : Nat), .int .u64 (dgl (n) 4 : Nat), .int .u64 (dgl (n) 5 : Nat), .int .u64 (dgl (n) 6 : Nat), .int .u64 (dgl (n) 7 : Nat)])), (8, .big n 40), (9, .val (.agg #[.int .u64 (dgl (d) 0 : Nat), .int .u64 (dgl (d) 1 : Nat), .int .u64 (dgl (d) 2 : Nat), .int .u64 (dgl (d) 3 : Nat), .int .u64 (dgl (d) 4 : Nat), .int .u64 (dgl (d) 5 : Nat), .int .u64 (dgl (d) 6 : Nat), .int .u64 (dgl (d) 7 : Nat)])), (10, .big d 40), (5, .big n 40), (6, .big d 40)]
    (fun W => TwSt n d w W) mixedOk (by kernel_rfl) (by kernel_rfl) (h1.below (Below.refl _ _).drew) (fun W W' h hb => h.below hb) ?_ ?_
  · refine gSt (gStep_run rfl ?_) ?_
    · intro ρ W hC hc hf hL
      have e2 : ρ (.tmp 2) = .pointer (some ⟨w.heap.size, 0, none⟩) := hL 2 (by decide +kernel)
      have hl := hC.la.1
      simp [go_sem, hc, hf, e2, hl]
      exact ⟨Below.refl _ _, rfl⟩
    refine gSt (gStep_run rfl ?_) ?_
    · intro ρ W hC hc hf hL
      have e7 : ρ (.tmp 7) = .agg #[.int .u64 (dgl (n) 0 : Nat), .int .u64 (dgl (n) 1 : Nat), .int .u64 (dgl (n) 2 : Nat), .int .u64 (dgl (n) 3 : Nat), .int .u64 (dgl (n) 4 : Nat), .int .u64 (dgl (n) 5 : Nat), .int .u64 (dgl (n) 6 : Nat), .int .u64 (dgl (n) 7 : Nat)] := hL 7 (by decide +kernel)
      simp [go_sem, hc, hf, e7]
      refine (HBN.out W).mono ?_
      rintro e w' ⟨v, rfl, hv, hb⟩
      exact ⟨_, rfl, hb, hv⟩
    refine gSt (gStep_run rfl ?_) ?_
    · intro ρ W hC hc hf hL
      have e3 : ρ (.tmp 3) = .pointer (some ⟨w.heap.size + 1, 0, none⟩) := hL 3 (by decide +kernel)
      have hl := hC.lb.1
      simp [go_sem, hc, hf, e3, hl]
      exact ⟨Below.refl _ _, rfl⟩
    refine gSt (gStep_run rfl ?_) ?_
    · intro ρ W hC hc hf hL
      have e9 : ρ (.tmp 9) = .agg #[.int .u64 (dgl (d) 0 : Nat), .int .u64 (dgl (d) 1 : Nat), .int .u64 (dgl (d) 2 : Nat), .int .u64 (dgl (d) 3 : Nat), .int .u64 (dgl (d) 4 : Nat), .int .u64 (dgl (d) 5 : Nat), .int .u64 (dgl (d) 6 : Nat), .int .u64 (dgl (d) 7 : Nat)] := hL 9 (by decide +kernel)
      simp [go_sem, hc, hf, e9]
      refine (HBD.out W).mono ?_
      rintro e w' ⟨v, rfl, hv, hb⟩
      exact ⟨_, rfl, hb, hv⟩
    refine gSt (gStep_run rfl (gRun_move 8 5 (.inr rfl) rfl (by decide +kernel) (fun v w h => h))) ?_
    refine gSt (gStep_run rfl (gRun_move 10 6 (.inr rfl) rfl (by decide +kernel) (fun v w h => h))) ?_
    exact gSt0
  · intro W hC
    refine gFi 7 rfl ?_
    rintro _ rfl
    refine gFi 8 rfl ?_
    rintro u8 b8
    refine gFi 9 rfl ?_
    rintro _ rfl
    refine gFi 10 rfl ?_
    rintro u10 b10
    refine gFi 5 rfl ?_
    rintro u5 b5
    refine gFi 6 rfl ?_
    rintro u6 b6
    refine gFi0 ?_
    simp only [List.drop_succ_cons, List.drop_zero, Act.put, List.setIfInBounds_toArray, List.set_cons_succ, List.set_cons_zero]
    have HS := hide hC
    clear hC h1
    go_wp2_with fail
    refine (HLN.out _ _ b6).mono ?_
    rintro e wl ⟨rfl, hw⟩
    subst wl
    go_wp2_with fail
    refine (HLN.out _ _ b6).mono ?_
    rintro e wl ⟨rfl, hw⟩
    subst wl
    go_wp2_with fail
    refine (HSH.out _ _ b6).mono ?_
    rintro e w2 ⟨vs, rfl, hvs, hb2⟩
    replace b5 := BigV.below b5 hb2
    replace HS := hide (HS.out.below hb2)
    clear hb2 b6
    go_wp2_with fail
    refine (HCM.out _ _ _ b5 hvs).mono ?_
    rintro e wl ⟨rfl, hw⟩
    subst wl
    have HB := hide HS.out.bel
    clear HS
    go_wp2
    go_ret
    exact ⟨rfl, HB.out⟩

set_option maxHeartbeats 2000000 in
theorem rmay_N (n d L s : Nat) (q : Int)
    (HBN : Hid (∀ w, Calls Tryd.prog 16 #[.agg #[.int .u64 (dgl (n) 0 : Nat), .int .u64 (dgl (n) 1 : Nat), .int .u64 (dgl (n) 2 : Nat), .int .u64 (dgl (n) 3 : Nat), .int .u64 (dgl (n) 4 : Nat), .int .u64 (dgl (n) 5 : Nat), .int .u64 (dgl (n) 6 : Nat), .int .u64 (dgl (n) 7 : Nat)]] w fun e w' => ∃ v, e = .returned v ∧ BigV w' v n 40 ∧ Below w.heap.size w w'))
    (HBD : Hid (∀ w, Calls Tryd.prog 16 #[.agg #[.int .u64 (dgl (d) 0 : Nat), .int .u64 (dgl (d) 1 : Nat), .int .u64 (dgl (d) 2 : Nat), .int .u64 (dgl (d) 3 : Nat), .int .u64 (dgl (d) 4 : Nat), .int .u64 (dgl (d) 5 : Nat), .int .u64 (dgl (d) 6 : Nat), .int .u64 (dgl (d) 7 : Nat)]] w fun e w' => ∃ v, e = .returned v ∧ BigV w' v d 40 ∧ Below w.heap.size w w'))
    (HLN : Hid (∀ v w, BigV w v d 40 → Calls Tryd.prog 17 #[v] w fun e w' => e = .returned (.int .i64 ((L : Nat) : Int)) ∧ w' = w))
    (hL : 0 < L) (hL2 : L ≤ 120)
    (HSH : Hid (∀ v w, BigV w v d 40 → Calls Tryd.prog 19 #[v, .int .i64 128] w fun e w' => ∃ v', e = .returned v' ∧ BigV w' v' s 50 ∧ Below w.heap.size w w'))
    (HCM : Hid (∀ u v w, BigV w u n 40 → BigV w v s 50 → Calls Tryd.prog 20 #[u, v] w fun e w' => e = .returned (.int .i64 q) ∧ w' = w))
    (hq : ¬ 0 ≤ q) (w : World) :
    Calls Tryd.prog 11 #[.agg #[.int .u64 (dgl (n) 0 : Nat), .int .u64 (dgl (n) 1 : Nat), .int .u64 (dgl (n) 2 : Nat), .int .u64 (dgl (n) 3 : Nat), .int .u64 (dgl (n) 4 : Nat), .int .u64 (dgl (n) 5 : Nat), .int .u64 (dgl (n) 6 : Nat), .int .u64 (dgl (n) 7 : Nat)], .agg #[.int .u64 (dgl (d) 0 : Nat), .int .u64 (dgl (d) 1 : Nat), .int .u64 (dgl (d) 2 : Nat), .int .u64 (dgl (d) 3 : Nat), .int .u64 (dgl (d) 4 : Nat), .int .u64 (dgl (d) 5 : Nat), .int .u64 (dgl (d) 6 : Nat), .int .u64 (dgl (d) 7 : Nat)]] w fun e w' => e = .returned (.int .i64 0) ∧ Below w.heap.size w w' := by
  have HS := hide (twSt_start n d w 24 24)
  have hl0 : (((L : Nat) : Int) == 0) = false := by rw [beq_eq_false_iff_ne]; omega
  have hl1 : ¬ (120 : Int) < (L : Int) := by omega
  clear hL
  go_enter Tryd.func11, Tryd.ntmps11
  go_upto_region 1 with fail
  refine wp_gen (fun W => TwSt n d w W) HS.out ?_
  clear HS
  rintro W1 h1
  refine wp_region_grow 6 [(7, .val (.agg #[.int .u64 (dgl (n) 0 : Nat), .int .u64 (dgl (n) 1 : Nat), .int .u64 (dgl (n) 2 : Nat), .int .u64 (dgl (n) 3 : Nat), .int .u64 (dgl (n) 4 : Nat), .int .u64 (dgl (n) 5 : Nat), .int .u64 (dgl (n) 6 : Nat), .int .u64 (dgl (n) 7 : Nat)])), (8, .big n 40), (9, .val (.agg #[.int .u64 (dgl (d) 0 : Nat), .int .u64 (dgl (d) 1 : Nat), .int .u64 (dgl (d) 2 : Nat), .int .u64 (dgl (d) 3 : Nat), .int .u64 (dgl (d) 4 : Nat), .int .u64 (dgl (d) 5 : Nat), .int .u64 (dgl (d) 6 : Nat), .int .u64 (dgl (d) 7 : Nat)])), (10, .big d 40), (5, .big n 40), (6, .big d 40)]
    (fun W => TwSt n d w W) mixedOk (by kernel_rfl) (by kernel_rfl) (h1.below (Below.refl _ _).drew) (fun W W' h hb => h.below hb) ?_ ?_
  · refine gSt (gStep_run rfl ?_) ?_
    · intro ρ W hC hc hf hL
      have e2 : ρ (.tmp 2) = .pointer (some ⟨w.heap.size, 0, none⟩) := hL 2 (by decide +kernel)
      have hl := hC.la.1
      simp [go_sem, hc, hf, e2, hl]
      exact ⟨Below.refl _ _, rfl⟩
    refine gSt (gStep_run rfl ?_) ?_
    · intro ρ W hC hc hf hL
      have e7 : ρ (.tmp 7) = .agg #[.int .u64 (dgl (n) 0 : Nat), .int .u64 (dgl (n) 1 : Nat), .int .u64 (dgl (n) 2 : Nat), .int .u64 (dgl (n) 3 : Nat), .int .u64 (dgl (n) 4 : Nat), .int .u64 (dgl (n) 5 : Nat), .int .u64 (dgl (n) 6 : Nat), .int .u64 (dgl (n) 7 : Nat)] := hL 7 (by decide +kernel)
      simp [go_sem, hc, hf, e7]
      refine (HBN.out W).mono ?_
      rintro e w' ⟨v, rfl, hv, hb⟩
      exact ⟨_, rfl, hb, hv⟩
    refine gSt (gStep_run rfl ?_) ?_
    · intro ρ W hC hc hf hL
      have e3 : ρ (.tmp 3) = .pointer (some ⟨w.heap.size + 1, 0, none⟩) := hL 3 (by decide +kernel)
      have hl := hC.lb.1
      simp [go_sem, hc, hf, e3, hl]
      exact ⟨Below.refl _ _, rfl⟩
    refine gSt (gStep_run rfl ?_) ?_
    · intro ρ W hC hc hf hL
      have e9 : ρ (.tmp 9) = .agg #[.int .u64 (dgl (d) 0 : Nat), .int .u64 (dgl (d) 1 : Nat), .int .u64 (dgl (d) 2 : Nat), .int .u64 (dgl (d) 3 : Nat), .int .u64 (dgl (d) 4 : Nat), .int .u64 (dgl (d) 5 : Nat), .int .u64 (dgl (d) 6 : Nat), .int .u64 (dgl (d) 7 : Nat)] := hL 9 (by decide +kernel)
      simp [go_sem, hc, hf, e9]
      refine (HBD.out W).mono ?_
      rintro e w' ⟨v, rfl, hv, hb⟩
      exact ⟨_, rfl, hb, hv⟩
    refine gSt (gStep_run rfl (gRun_move 8 5 (.inr rfl) rfl (by decide +kernel) (fun v w h => h))) ?_
    refine gSt (gStep_run rfl (gRun_move 10 6 (.inr rfl) rfl (by decide +kernel) (fun v w h => h))) ?_
    exact gSt0
  · intro W hC
    refine gFi 7 rfl ?_
    rintro _ rfl
    refine gFi 8 rfl ?_
    rintro u8 b8
    refine gFi 9 rfl ?_
    rintro _ rfl
    refine gFi 10 rfl ?_
    rintro u10 b10
    refine gFi 5 rfl ?_
    rintro u5 b5
    refine gFi 6 rfl ?_
    rintro u6 b6
    refine gFi0 ?_
    simp only [List.drop_succ_cons, List.drop_zero, Act.put, List.setIfInBounds_toArray, List.set_cons_succ, List.set_cons_zero]
    have HS := hide hC
    clear hC h1
    go_wp2_with fail
    refine (HLN.out _ _ b6).mono ?_
    rintro e wl ⟨rfl, hw⟩
    subst wl
    go_wp2_with fail
    refine (HLN.out _ _ b6).mono ?_
    rintro e wl ⟨rfl, hw⟩
    subst wl
    go_wp2_with fail
    refine (HSH.out _ _ b6).mono ?_
    rintro e w2 ⟨vs, rfl, hvs, hb2⟩
    replace b5 := BigV.below b5 hb2
    replace HS := hide (HS.out.below hb2)
    clear hb2 b6
    go_wp2_with fail
    refine (HCM.out _ _ _ b5 hvs).mono ?_
    rintro e wl ⟨rfl, hw⟩
    subst wl
    have HB := hide HS.out.bel
    clear HS
    go_wp2
    go_ret
    exact ⟨rfl, HB.out⟩

theorem rmay_any (n d : Nat) (hn : n < QQ) (hd : d < QQ) (w : World) : Calls Tryd.prog 11 #[.agg #[.int .u64 (dgl (n) 0 : Nat), .int .u64 (dgl (n) 1 : Nat), .int .u64 (dgl (n) 2 : Nat), .int .u64 (dgl (n) 3 : Nat), .int .u64 (dgl (n) 4 : Nat), .int .u64 (dgl (n) 5 : Nat), .int .u64 (dgl (n) 6 : Nat), .int .u64 (dgl (n) 7 : Nat)], .agg #[.int .u64 (dgl (d) 0 : Nat), .int .u64 (dgl (d) 1 : Nat), .int .u64 (dgl (d) 2 : Nat), .int .u64 (dgl (d) 3 : Nat), .int .u64 (dgl (d) 4 : Nat), .int .u64 (dgl (d) 5 : Nat), .int .u64 (dgl (d) 6 : Nat), .int .u64 (dgl (d) 7 : Nat)]] w fun e w' => e = .returned (.int .i64 ((mayN n d : Nat) : Int)) ∧ Below w.heap.size w w' := by
  have HBN := fun w => refBig_any n hn w
  have HBD := fun w => refBig_any d hd w
  have HLN := fun v w (h : BigV w v d 40) => refLen_any d 40 v w h (by decide)
  unfold mayN
  by_cases h1 : d = 0
  · rw [if_pos h1]
    exact rmay_Z n d _ 0 0 HBN HBD HLN (bitLen_zero.2 h1) w
  rw [if_neg h1]
  by_cases h2 : 2 ^ 120 ≤ d
  · rw [if_pos h2]
    exact rmay_B n d _ 0 0 HBN HBD HLN ((bitLen_above d 120).2 h2) w
  rw [if_neg h2]
  have hL : 0 < Go.bitLen d := by
    rcases Nat.eq_zero_or_pos (Go.bitLen d) with h | h
    · exact absurd (bitLen_zero.1 h) h1
    · exact h
  have hL2 : Go.bitLen d ≤ 120 := by
    rcases Nat.lt_or_ge 120 (Go.bitLen d) with h | h
    · exact absurd ((bitLen_above d 120).1 h) h2
    · exact h
  have HSH : ∀ v w, BigV w v d 40 → Calls Tryd.prog 19 #[v, .int .i64 128] w fun e w' => ∃ v', e = .returned v' ∧ BigV w' v' (d * 2 ^ 128) 50 ∧ Below w.heap.size w w' := by
    intro v w h
    refine (refShl_int d 40 128 128 v w h (by decide) (by decide) rfl).mono ?_
    rintro e w' ⟨v', e1, e2, e3⟩
    exact ⟨v', e1, e2.mono (by decide), e3⟩
  generalize d * 2 ^ 128 = s at *
  have HCM : ∀ u v w, BigV w u n 40 → BigV w v s 50 → Calls Tryd.prog 20 #[u, v] w fun e w' => e = .returned (.int .i64 (cmpN n s)) ∧ w' = w := fun u v w h1 h2 => cmp_any n s 40 50 u v w h1 h2
  by_cases h3 : s ≤ n
  · rw [if_pos h3]
    exact rmay_G n d _ _ _ HBN HBD HLN hL hL2 HSH HCM (by unfold cmpN; split <;> omega) w
  · rw [if_neg h3]
    exact rmay_N n d _ _ _ HBN HBD HLN hL hL2 HSH HCM (by unfold cmpN; split <;> omega) w

set_option maxHeartbeats 2000000 in
theorem refQuotient_any (n d K D : Nat) (vn vd : Value) (hK : K ≤ 1000) (hD : D ≤ 1000) (hd : 0 < d) (hq : n / d < 2 ^ 131) (w : World) (hvn : BigV w vn n K) (hvd : BigV w vd d D) :
    Calls Tryd.prog 69 #[vn, vd] w fun e w' => ∃ v, e = .returned v ∧ BigV w' v (n / d) 200 ∧ Below w.heap.size w w' := by
  have HN := hide hvn
  have HD := hide hvd
  have HPW : Hid (∀ i : Nat, i < 131 → ∀ w, Calls Tryd.prog 88 #[.int .i64 (i : Nat)] w fun e w' => ∃ v, e = .returned v ∧ BigV w' v (2 ^ i) 8 ∧ Below w.heap.size w w') := fun i hi w =>
    (refPower_any i (2 ^ i) (by omega) rfl w).mono fun e w' ⟨v, e1, e2, e3⟩ => ⟨v, e1, e2.mono (by omega), e3⟩
  have HADD : Hid (∀ (a b C : Nat) u v w, C ≤ 200 → 8 ≤ C → BigV w u a C → BigV w v b 8 → Calls Tryd.prog 45 #[u, v] w fun e w' => ∃ v, e = .returned v ∧ BigV w' v (a + b) (C + 1) ∧ Below w.heap.size w w') := fun a b C u v w hC h8 hu hv =>
    (refAdd_any a b C 8 u v w hu hv (by omega) (by omega)).mono fun e w' ⟨v, e1, e2, e3⟩ => ⟨v, e1, e2.mono (by omega), e3⟩
  have HMU : Hid (∀ (a C : Nat) u w, C ≤ 200 → BigV w u a C → BigV w vd d D → Calls Tryd.prog 22 #[u, vd] w fun e w' => ∃ v, e = .returned v ∧ BigV w' v (a * d) (C + D) ∧ Below w.heap.size w w') := fun a C u w hC hu hv =>
    refMul_any a d C D u vd w hu hv (by omega) (by omega)
  have HCM : Hid (∀ (a C : Nat) u w, BigV w u a C → BigV w vn n K → Calls Tryd.prog 20 #[u, vn] w fun e w' => e = .returned (.int .i64 (cmpN a n)) ∧ w' = w) := fun a C u w hu hv => cmp_any a n C K u vn w hu hv
  have HIF : Hid (∀ c, cmpN ((hiN (n / d) (c + 1) + 2 ^ c) * d) n ≤ 0 ↔ n / d / 2 ^ c % 2 = 1) := by
    intro c
    rw [← quo_iff hd]
    unfold cmpN
    split
    · omega
    · split <;> omega
  have HQ0 : Hid (hiN (n / d) 131 = 0) := hiN_top hq
  clear hvn hvd hd hq hK hD
  generalize n / d = Q at *
  go_enter Tryd.func69, Tryd.ntmps69
  go_wp2
  go_loopw [5, 6] (fun q i wr => ∃ (c : Nat) (zi : Int), c ≤ 131 ∧ Hid (zi = (c : Int) - 1) ∧ i = .int .i64 zi ∧ Hid (BigV wr q (hiN Q c) (141 - c)) ∧ Hid (Below w.heap.size w wr))
    (fun _ i _ => (intOf i + 1).toNat)
  case atStart =>
    exact ⟨131, 130, by omega, hide rfl, rfl, by rw [HQ0.out]; exact (mk0_big _ _).mono (by omega), below_allocs _ _⟩
  case round =>
    obtain ⟨c, zi, hc, hzi, rfl, HBQ, HB⟩ := hrel
    rename_i qv _
    by_cases hz0 : 0 ≤ zi
    · obtain ⟨p, rfl⟩ : ∃ p : Nat, zi = (p : Int) := ⟨zi.toNat, by omega⟩
      obtain rfl : c = p + 1 := by have := hzi.out; omega
      have hp : p < 131 := hc
      clear hzi hc
      go_wp2_with fail
      refine (HPW.out p hp _).mono ?_
      rintro e w1 ⟨vp, rfl, hvp, hb1⟩
      replace HBQ := hide (HBQ.out.below hb1)
      replace HB := hide (below_trans HB.out hb1)
      clear hb1
      go_wp2_with fail
      refine (HADD.out _ _ _ _ _ _ (by omega) (by omega) HBQ.out hvp).mono ?_
      rintro e w2 ⟨vm, rfl, hvm, hb2⟩
      replace HBQ := hide (HBQ.out.below hb2)
      replace HB := hide (below_trans HB.out hb2)
      clear hb2 hvp
      go_wp2_with fail
      refine (HMU.out _ _ _ _ (by omega) hvm (HD.out.below HB.out)).mono ?_
      rintro e w3 ⟨vx, rfl, hvx, hb3⟩
      replace HBQ := hide (HBQ.out.below hb3)
      have HVM := hide (BigV.below hvm hb3)
      replace HB := hide (below_trans HB.out hb3)
      clear hb3 hvm
      go_wp2_with fail
      refine (HCM.out _ _ _ _ hvx (HN.out.below HB.out)).mono ?_
      rintro e wl ⟨rfl, hw⟩
      subst wl
      clear hvx
      have HI := hide (HIF.out p)
      have HON : Hid (Q / 2 ^ p % 2 = 1 → hiN Q p = hiN Q (p + 1) + 2 ^ p) := hiN_on
      have HOF : Hid (Q / 2 ^ p % 2 = 0 → hiN Q p = hiN Q (p + 1)) := hiN_off
      have HBC := hide (bitN_cases Q p)
      generalize cmpN ((hiN Q (p + 1) + 2 ^ p) * d) n = z at *
      have hw : IntKind.i64.wrap ((p : Int) - 1) = (p : Int) - 1 := by rw [IntKind.wrap_i64]; omega
      by_cases hz : z ≤ 0
      · have HE := hide (HON.out (HI.out.1 hz))
        clear HON HOF HI HBC
        go_wp2
        go_roundw
        case rel => exact ⟨p, (p : Int) - 1, by omega, hide rfl, rfl, by rw [HE.out]; exact HVM.out.mono (by omega), HB⟩
        case measure => first | (simp [intOf]; done) | (simp [intOf]; omega)
      · have HE := hide (HOF.out (by rcases HBC.out with h | h; exact h; exact absurd (HI.out.2 h) hz))
        clear HON HOF HI HBC
        go_wp2
        go_roundw
        case rel => exact ⟨p, (p : Int) - 1, by omega, hide rfl, rfl, by rw [HE.out]; exact HBQ.out.mono (by omega), HB⟩
        case measure => first | (simp [intOf]; done) | (simp [intOf]; omega)
    · obtain rfl : zi = -1 := by have := hzi.out; omega
      obtain rfl : c = 0 := by have := hzi.out; omega
      rw [hiN_zero] at HBQ
      go_wp2
      go_ret
      exact ⟨_, rfl, HBQ.out.mono (by decide), HB.out⟩

end Go.Proofs.YtbngaajhdaciaaaDoor

/- Contracts: fly.known, behind, New, Next. -/
set_option linter.unusedVariables false
set_option linter.unusedSimpArgs false
set_option maxRecDepth 8000
namespace Go.Proofs.YtbngaajhdaciaaaDoor
open Go.RowKit Plain

theorem known_any (d : Int) (w : World) : Calls Tryd.prog 55 #[.int .i64 d] w fun e w' => e = .returned (.bool (isD d)) ∧ w' = w := by
  have HR : Hid (∀ b, decide (-3 ≤ d) = b → isD d = (b && decide (d ≤ 3))) := fun b hb => by rw [← hb]; rfl
  go_enter Tryd.func55, Tryd.ntmps55
  by_cases h : -3 ≤ d
  · have HF := hide (HR.out true (decide_eq_true h))
    go_wp2
    go_ret
    exact ⟨ret_bool HF.out.symm, rfl⟩
  · have HF := hide (HR.out false (decide_eq_false h))
    go_wp2
    go_ret
    exact ⟨ret_bool HF.out.symm, rfl⟩

theorem kclo_any (d : Int) (w : World) : Calls Tryd.prog 54 #[.int .i64 d] w fun e w' => e = .returned (.bool (!isD d)) ∧ w' = w := by
  have HK := hide (fun w => known_any d w)
  go_enter Tryd.func54, Tryd.ntmps54
  go_wp2_with fail
  refine (HK.out _).mono ?_
  rintro e w' ⟨rfl, hw⟩
  subst hw
  go_wp2
  go_ret
  exact ⟨rfl, rfl⟩

/-- A state lies in a block. -/
structure StB (W : World) (p q l : Nat) : Prop where
  lo : ∀ i, i < 8 → W.cell? ⟨p, i, none⟩ = some (.int .u64 (dgl q i : Nat))
  h0 : W.cell? ⟨p, 8, none⟩ = some (.int .u64 (dgl l 0 : Nat))
  h1 : W.cell? ⟨p, 9, none⟩ = some (.int .u64 (dgl l 1 : Nat))
  h2 : W.cell? ⟨p, 10, none⟩ = some (.int .u64 (dgl l 2 : Nat))
  h3 : W.cell? ⟨p, 11, none⟩ = some (.int .u64 (dgl l 3 : Nat))
  h4 : W.cell? ⟨p, 12, none⟩ = some (.int .u64 (dgl l 4 : Nat))
  h5 : W.cell? ⟨p, 13, none⟩ = some (.int .u64 (dgl l 5 : Nat))
  h6 : W.cell? ⟨p, 14, none⟩ = some (.int .u64 (dgl l 6 : Nat))
  h7 : W.cell? ⟨p, 15, none⟩ = some (.int .u64 (dgl l 7 : Nat))
  lt : p < W.heap.size
theorem StB.under {W W' : World} {p q l : Nat} (h : StB W p q l) {C : Nat} (hb : Below C W W') (hc : p < C) : StB W' p q l :=
  ⟨fun i hi => (hb.cell (p := ⟨p, i, none⟩) hc).trans (h.lo i hi), (hb.cell (p := ⟨p, 8, none⟩) hc).trans h.h0, (hb.cell (p := ⟨p, 9, none⟩) hc).trans h.h1, (hb.cell (p := ⟨p, 10, none⟩) hc).trans h.h2, (hb.cell (p := ⟨p, 11, none⟩) hc).trans h.h3, (hb.cell (p := ⟨p, 12, none⟩) hc).trans h.h4, (hb.cell (p := ⟨p, 13, none⟩) hc).trans h.h5, (hb.cell (p := ⟨p, 14, none⟩) hc).trans h.h6, (hb.cell (p := ⟨p, 15, none⟩) hc).trans h.h7, Nat.lt_of_lt_of_le h.lt hb.size⟩
theorem StB.below {W W' : World} {p q l : Nat} (h : StB W p q l) (hb : Below W.heap.size W W') : StB W' p q l := h.under hb h.lt
theorem stB_new (w : World) (q l : Nat) (e : TypeId) : StB (w.alloc (.cells #[.int .u64 (dgl (q) 0 : Nat), .int .u64 (dgl (q) 1 : Nat), .int .u64 (dgl (q) 2 : Nat), .int .u64 (dgl (q) 3 : Nat), .int .u64 (dgl (q) 4 : Nat), .int .u64 (dgl (q) 5 : Nat), .int .u64 (dgl (q) 6 : Nat), .int .u64 (dgl (q) 7 : Nat), .int .u64 (dgl (l) 0 : Nat), .int .u64 (dgl (l) 1 : Nat), .int .u64 (dgl (l) 2 : Nat), .int .u64 (dgl (l) 3 : Nat), .int .u64 (dgl (l) 4 : Nat), .int .u64 (dgl (l) 5 : Nat), .int .u64 (dgl (l) 6 : Nat), .int .u64 (dgl (l) 7 : Nat)] e)) w.heap.size q l := by
  refine ⟨fun i hi => ?_, by simp [go_sem], by simp [go_sem], by simp [go_sem], by simp [go_sem], by simp [go_sem], by simp [go_sem], by simp [go_sem], by simp [go_sem], by simp⟩
  rcases (show i = 0 ∨ i = 1 ∨ i = 2 ∨ i = 3 ∨ i = 4 ∨ i = 5 ∨ i = 6 ∨ i = 7 by omega) with rfl | rfl | rfl | rfl | rfl | rfl | rfl | rfl <;> simp [go_sem]

/-- What behind goes by: what it starts from, and its result. -/
structure BhSt (x : Nat) (w W : World) : Prop where
  lx : LiesF W (w.heap.size + 2) (dgl x)
  lr : LiesF W (w.heap.size + 1) (fun _ => 0)
  fr : ∀ i, W.frozen? ⟨w.heap.size + 1, i, none⟩ = false
  bel : Below w.heap.size w W
theorem BhSt.below {x : Nat} {w W W' : World} (h : BhSt x w W) (hb : Below W.heap.size W W') : BhSt x w W' :=
  ⟨h.lx.below hb, h.lr.below hb, fun i => (hb.frozen (p := ⟨w.heap.size + 1, i, none⟩) h.lr.2).trans (h.fr i), below_trans h.bel hb⟩

theorem bh_start (w : World) (x y z : Nat) (e1 e2 e3 : TypeId) : BhSt z w (((w.alloc (.cells #[.int .u64 (dgl (x) 0 : Nat), .int .u64 (dgl (x) 1 : Nat), .int .u64 (dgl (x) 2 : Nat), .int .u64 (dgl (x) 3 : Nat), .int .u64 (dgl (x) 4 : Nat), .int .u64 (dgl (x) 5 : Nat), .int .u64 (dgl (x) 6 : Nat), .int .u64 (dgl (x) 7 : Nat), .int .u64 (dgl (y) 0 : Nat), .int .u64 (dgl (y) 1 : Nat), .int .u64 (dgl (y) 2 : Nat), .int .u64 (dgl (y) 3 : Nat), .int .u64 (dgl (y) 4 : Nat), .int .u64 (dgl (y) 5 : Nat), .int .u64 (dgl (y) 6 : Nat), .int .u64 (dgl (y) 7 : Nat)] e1)).alloc (.cells #[.int .u64 0, .int .u64 0, .int .u64 0, .int .u64 0, .int .u64 0, .int .u64 0, .int .u64 0, .int .u64 0] e2)).alloc (.cells #[.int .u64 (dgl (z) 0 : Nat), .int .u64 (dgl (z) 1 : Nat), .int .u64 (dgl (z) 2 : Nat), .int .u64 (dgl (z) 3 : Nat), .int .u64 (dgl (z) 4 : Nat), .int .u64 (dgl (z) 5 : Nat), .int .u64 (dgl (z) 6 : Nat), .int .u64 (dgl (z) 7 : Nat)] e3)) := by
  have h1 := liesF_new ((w.alloc (.cells #[.int .u64 (dgl (x) 0 : Nat), .int .u64 (dgl (x) 1 : Nat), .int .u64 (dgl (x) 2 : Nat), .int .u64 (dgl (x) 3 : Nat), .int .u64 (dgl (x) 4 : Nat), .int .u64 (dgl (x) 5 : Nat), .int .u64 (dgl (x) 6 : Nat), .int .u64 (dgl (x) 7 : Nat), .int .u64 (dgl (y) 0 : Nat), .int .u64 (dgl (y) 1 : Nat), .int .u64 (dgl (y) 2 : Nat), .int .u64 (dgl (y) 3 : Nat), .int .u64 (dgl (y) 4 : Nat), .int .u64 (dgl (y) 5 : Nat), .int .u64 (dgl (y) 6 : Nat), .int .u64 (dgl (y) 7 : Nat)] e1)).alloc (.cells #[.int .u64 0, .int .u64 0, .int .u64 0, .int .u64 0, .int .u64 0, .int .u64 0, .int .u64 0, .int .u64 0] e2)) (dgl z) e3
  have h2 := (liesF_new (w.alloc (.cells #[.int .u64 (dgl (x) 0 : Nat), .int .u64 (dgl (x) 1 : Nat), .int .u64 (dgl (x) 2 : Nat), .int .u64 (dgl (x) 3 : Nat), .int .u64 (dgl (x) 4 : Nat), .int .u64 (dgl (x) 5 : Nat), .int .u64 (dgl (x) 6 : Nat), .int .u64 (dgl (x) 7 : Nat), .int .u64 (dgl (y) 0 : Nat), .int .u64 (dgl (y) 1 : Nat), .int .u64 (dgl (y) 2 : Nat), .int .u64 (dgl (y) 3 : Nat), .int .u64 (dgl (y) 4 : Nat), .int .u64 (dgl (y) 5 : Nat), .int .u64 (dgl (y) 6 : Nat), .int .u64 (dgl (y) 7 : Nat)] e1)) (fun _ => 0) e2).alloc (.cells #[.int .u64 (dgl (z) 0 : Nat), .int .u64 (dgl (z) 1 : Nat), .int .u64 (dgl (z) 2 : Nat), .int .u64 (dgl (z) 3 : Nat), .int .u64 (dgl (z) 4 : Nat), .int .u64 (dgl (z) 5 : Nat), .int .u64 (dgl (z) 6 : Nat), .int .u64 (dgl (z) 7 : Nat)] e3)
  rw [World.size_alloc, World.size_alloc] at h1
  rw [World.size_alloc] at h2
  exact ⟨h1, h2, fun i => by simp [go_sem], below_trans (below_trans (below_allocs _ _) (below_allocs _ _)) (below_allocs _ _)⟩

set_option maxHeartbeats 1000000 in
theorem behind_P (z m : Int) (hm : 0 ≤ m ∧ m ≤ 3) (w : World) :
    Calls Tryd.prog 66 #[.agg #[.int .u64 (dgl (qz z) 0 : Nat), .int .u64 (dgl (qz z) 1 : Nat), .int .u64 (dgl (qz z) 2 : Nat), .int .u64 (dgl (qz z) 3 : Nat), .int .u64 (dgl (qz z) 4 : Nat), .int .u64 (dgl (qz z) 5 : Nat), .int .u64 (dgl (qz z) 6 : Nat), .int .u64 (dgl (qz z) 7 : Nat), .int .u64 (dgl (qz (z - 1)) 0 : Nat), .int .u64 (dgl (qz (z - 1)) 1 : Nat), .int .u64 (dgl (qz (z - 1)) 2 : Nat), .int .u64 (dgl (qz (z - 1)) 3 : Nat), .int .u64 (dgl (qz (z - 1)) 4 : Nat), .int .u64 (dgl (qz (z - 1)) 5 : Nat), .int .u64 (dgl (qz (z - 1)) 6 : Nat), .int .u64 (dgl (qz (z - 1)) 7 : Nat)], .int .i64 m] w fun e w' => e = .returned (.agg #[.int .u64 (dgl (qz (4 * z + m)) 0 : Nat), .int .u64 (dgl (qz (4 * z + m)) 1 : Nat), .int .u64 (dgl (qz (4 * z + m)) 2 : Nat), .int .u64 (dgl (qz (4 * z + m)) 3 : Nat), .int .u64 (dgl (qz (4 * z + m)) 4 : Nat), .int .u64 (dgl (qz (4 * z + m)) 5 : Nat), .int .u64 (dgl (qz (4 * z + m)) 6 : Nat), .int .u64 (dgl (qz (4 * z + m)) 7 : Nat)]) ∧ Below w.heap.size w w' := by
  obtain ⟨y, hy⟩ : ∃ y : Nat, (y : Int) = m := ⟨(m).toNat, by omega⟩
  have hy4 : y < 4 := by omega
  have HF : Hid ((#[.int .u64 (dgl (qz z * 2 ^ 2 % QQ + y) 0 : Nat), .int .u64 (dgl (qz z * 2 ^ 2 % QQ + y) 1 : Nat), .int .u64 (dgl (qz z * 2 ^ 2 % QQ + y) 2 : Nat), .int .u64 (dgl (qz z * 2 ^ 2 % QQ + y) 3 : Nat), .int .u64 (dgl (qz z * 2 ^ 2 % QQ + y) 4 : Nat), .int .u64 (dgl (qz z * 2 ^ 2 % QQ + y) 5 : Nat), .int .u64 (dgl (qz z * 2 ^ 2 % QQ + y) 6 : Nat), .int .u64 (dgl (qz z * 2 ^ 2 % QQ + y) 7 : Nat)] : Array Value) = #[.int .u64 (dgl (qz (4 * z + m)) 0 : Nat), .int .u64 (dgl (qz (4 * z + m)) 1 : Nat), .int .u64 (dgl (qz (4 * z + m)) 2 : Nat), .int .u64 (dgl (qz (4 * z + m)) 3 : Nat), .int .u64 (dgl (qz (4 * z + m)) 4 : Nat), .int .u64 (dgl (qz (4 * z + m)) 5 : Nat), .int .u64 (dgl (qz (4 * z + m)) 6 : Nat), .int .u64 (dgl (qz (4 * z + m)) 7 : Nat)]) := w8_qz _ _ _ (by omega)
  have HC : Hid (IntKind.u64.wrap ((y : Int)) = (y : Int)) := by apply hide; rw [IntKind.wrap_u64]; omega
  have HSH : Hid (∀ w, Calls Tryd.prog 29 #[.agg #[.int .u64 (dgl (qz z) 0 : Nat), .int .u64 (dgl (qz z) 1 : Nat), .int .u64 (dgl (qz z) 2 : Nat), .int .u64 (dgl (qz z) 3 : Nat), .int .u64 (dgl (qz z) 4 : Nat), .int .u64 (dgl (qz z) 5 : Nat), .int .u64 (dgl (qz z) 6 : Nat), .int .u64 (dgl (qz z) 7 : Nat)], .int .i64 2] w fun e w' => e = .returned (.agg #[.int .u64 (dgl (qz z * 2 ^ 2 % QQ) 0 : Nat), .int .u64 (dgl (qz z * 2 ^ 2 % QQ) 1 : Nat), .int .u64 (dgl (qz z * 2 ^ 2 % QQ) 2 : Nat), .int .u64 (dgl (qz z * 2 ^ 2 % QQ) 3 : Nat), .int .u64 (dgl (qz z * 2 ^ 2 % QQ) 4 : Nat), .int .u64 (dgl (qz z * 2 ^ 2 % QQ) 5 : Nat), .int .u64 (dgl (qz z * 2 ^ 2 % QQ) 6 : Nat), .int .u64 (dgl (qz z * 2 ^ 2 % QQ) 7 : Nat)]) ∧ Below w.heap.size w w') := by
    intro w
    have h := wideShl_any (qz z) 2 (qz_lt _) w
    rw [show roomI 2 = ((2 : Nat) : Int) by decide, sh_up, w8_mod1 (qz z * 2 ^ 2)] at h
    exact h
  have HOF : Hid (∀ w, Calls Tryd.prog 52 #[.slice (some ⟨w.heap.size, 0, none⟩) 1 1] (w.alloc (.cells #[.int .u64 ((y : Int))] 22)) fun e w' => e = .returned (.agg #[.int .u64 (dgl (y) 0 : Nat), .int .u64 (dgl (y) 1 : Nat), .int .u64 (dgl (y) 2 : Nat), .int .u64 (dgl (y) 3 : Nat), .int .u64 (dgl (y) 4 : Nat), .int .u64 (dgl (y) 5 : Nat), .int .u64 (dgl (y) 6 : Nat), .int .u64 (dgl (y) 7 : Nat)]) ∧ Below w.heap.size w w') := by
    intro w
    try rw [← hy]
    refine (wideOf_any [y] y _ _ (Rd.lit (mk := mk64) w 22 [.int .u64 (y : Nat)] [y] rfl 1 (Nat.le_refl 1) (by decide)) (fun i hi => (dig_one (β := 18446744073709551616) (by omega)).2 i)).mono ?_
    rintro e w' ⟨rfl, hb⟩
    exact ⟨rfl, (below_allocs w _).trans (hb.mono (by simp))⟩
  have HAD : Hid (∀ w, Calls Tryd.prog 68 #[.agg #[.int .u64 (dgl (qz z * 2 ^ 2 % QQ) 0 : Nat), .int .u64 (dgl (qz z * 2 ^ 2 % QQ) 1 : Nat), .int .u64 (dgl (qz z * 2 ^ 2 % QQ) 2 : Nat), .int .u64 (dgl (qz z * 2 ^ 2 % QQ) 3 : Nat), .int .u64 (dgl (qz z * 2 ^ 2 % QQ) 4 : Nat), .int .u64 (dgl (qz z * 2 ^ 2 % QQ) 5 : Nat), .int .u64 (dgl (qz z * 2 ^ 2 % QQ) 6 : Nat), .int .u64 (dgl (qz z * 2 ^ 2 % QQ) 7 : Nat)], .agg #[.int .u64 (dgl (y) 0 : Nat), .int .u64 (dgl (y) 1 : Nat), .int .u64 (dgl (y) 2 : Nat), .int .u64 (dgl (y) 3 : Nat), .int .u64 (dgl (y) 4 : Nat), .int .u64 (dgl (y) 5 : Nat), .int .u64 (dgl (y) 6 : Nat), .int .u64 (dgl (y) 7 : Nat)]] w fun e w' => e = .returned (.tuple #[.agg #[.int .u64 (dgl (qz (4 * z + m)) 0 : Nat), .int .u64 (dgl (qz (4 * z + m)) 1 : Nat), .int .u64 (dgl (qz (4 * z + m)) 2 : Nat), .int .u64 (dgl (qz (4 * z + m)) 3 : Nat), .int .u64 (dgl (qz (4 * z + m)) 4 : Nat), .int .u64 (dgl (qz (4 * z + m)) 5 : Nat), .int .u64 (dgl (qz (4 * z + m)) 6 : Nat), .int .u64 (dgl (qz (4 * z + m)) 7 : Nat)], .bool (decide (QQ ≤ qz z * 2 ^ 2 % QQ + y))]) ∧ Below w.heap.size w w') := by
    intro w
    have h := wideAdd_any (qz z * 2 ^ 2 % QQ) y (Nat.mod_lt _ qq_pos) (by have := qq_big; omega) w
    rw [HF.out] at h
    exact h
  clear HF hy4
  generalize qz z * 2 ^ 2 % QQ = s at *
  generalize qz (4 * z + m) = r at *
  generalize hov : decide (QQ ≤ s + y) = ov at *
  clear hov
  obtain rfl : m = (y : Int) := by omega
  have HS := hide (bh_start w (qz z) (qz (z - 1)) (qz z) 60 24 24)
  generalize qz z = x at *
  generalize qz (z - 1) = x1 at *
  go_enter Tryd.func66, Tryd.ntmps66
  have hcu := HC.out
  go_upto_region 4 with fail
  refine wp_gen (fun W => BhSt x w W) ?_ ?_
  · exact HS.out
  clear HS
  rintro W4 h4
  have HS := hide h4
  have hl := h4.lx.1
  clear h4
  go_wp2_with fail
  refine (HSH.out _).mono ?_
  rintro e w5 ⟨rfl, hb5⟩
  replace HS := hide (HS.out.below hb5)
  clear hb5 hl
  go_wp2_with fail
  refine (HOF.out _).mono ?_
  rintro e w6 ⟨rfl, hb6⟩
  replace HS := hide (HS.out.below hb6)
  clear hb6
  go_wp2_with fail
  refine (HAD.out _).mono ?_
  rintro e w7 ⟨rfl, hb7⟩
  replace HS := hide (HS.out.below hb7)
  clear hb7
  have hr1 := HS.out.lr.1
  have hrl1 := HS.out.lr.2
  have hrf1 := HS.out.fr
  have HBE := hide HS.out.bel
  clear HS
  go_wp2
  exact bodyPost_ret (v := .agg #[.int .u64 (dgl (r) 0 : Nat), .int .u64 (dgl (r) 1 : Nat), .int .u64 (dgl (r) 2 : Nat), .int .u64 (dgl (r) 3 : Nat), .int .u64 (dgl (r) 4 : Nat), .int .u64 (dgl (r) 5 : Nat), .int .u64 (dgl (r) 6 : Nat), .int .u64 (dgl (r) 7 : Nat)]) (by simp [results, Tryd.results66, go_sem, hr1, hrl1]) rfl ⟨rfl, below_trans (below_set8 HBE.out _ (by omega) _ _ _ _ _ _ _ _) (below_allocs _ _)⟩

set_option maxHeartbeats 1000000 in
theorem behind_N (z m : Int) (hm : -4 ≤ m ∧ m < 0) (w : World) :
    Calls Tryd.prog 66 #[.agg #[.int .u64 (dgl (qz z) 0 : Nat), .int .u64 (dgl (qz z) 1 : Nat), .int .u64 (dgl (qz z) 2 : Nat), .int .u64 (dgl (qz z) 3 : Nat), .int .u64 (dgl (qz z) 4 : Nat), .int .u64 (dgl (qz z) 5 : Nat), .int .u64 (dgl (qz z) 6 : Nat), .int .u64 (dgl (qz z) 7 : Nat), .int .u64 (dgl (qz (z - 1)) 0 : Nat), .int .u64 (dgl (qz (z - 1)) 1 : Nat), .int .u64 (dgl (qz (z - 1)) 2 : Nat), .int .u64 (dgl (qz (z - 1)) 3 : Nat), .int .u64 (dgl (qz (z - 1)) 4 : Nat), .int .u64 (dgl (qz (z - 1)) 5 : Nat), .int .u64 (dgl (qz (z - 1)) 6 : Nat), .int .u64 (dgl (qz (z - 1)) 7 : Nat)], .int .i64 m] w fun e w' => e = .returned (.agg #[.int .u64 (dgl (qz (4 * z + m)) 0 : Nat), .int .u64 (dgl (qz (4 * z + m)) 1 : Nat), .int .u64 (dgl (qz (4 * z + m)) 2 : Nat), .int .u64 (dgl (qz (4 * z + m)) 3 : Nat), .int .u64 (dgl (qz (4 * z + m)) 4 : Nat), .int .u64 (dgl (qz (4 * z + m)) 5 : Nat), .int .u64 (dgl (qz (4 * z + m)) 6 : Nat), .int .u64 (dgl (qz (4 * z + m)) 7 : Nat)]) ∧ Below w.heap.size w w' := by
  obtain ⟨y, hy⟩ : ∃ y : Nat, (y : Int) = m + 4 := ⟨(m + 4).toNat, by omega⟩
  have hy4 : y < 4 := by omega
  have HF : Hid ((#[.int .u64 (dgl (qz (z - 1) * 2 ^ 2 % QQ + y) 0 : Nat), .int .u64 (dgl (qz (z - 1) * 2 ^ 2 % QQ + y) 1 : Nat), .int .u64 (dgl (qz (z - 1) * 2 ^ 2 % QQ + y) 2 : Nat), .int .u64 (dgl (qz (z - 1) * 2 ^ 2 % QQ + y) 3 : Nat), .int .u64 (dgl (qz (z - 1) * 2 ^ 2 % QQ + y) 4 : Nat), .int .u64 (dgl (qz (z - 1) * 2 ^ 2 % QQ + y) 5 : Nat), .int .u64 (dgl (qz (z - 1) * 2 ^ 2 % QQ + y) 6 : Nat), .int .u64 (dgl (qz (z - 1) * 2 ^ 2 % QQ + y) 7 : Nat)] : Array Value) = #[.int .u64 (dgl (qz (4 * z + m)) 0 : Nat), .int .u64 (dgl (qz (4 * z + m)) 1 : Nat), .int .u64 (dgl (qz (4 * z + m)) 2 : Nat), .int .u64 (dgl (qz (4 * z + m)) 3 : Nat), .int .u64 (dgl (qz (4 * z + m)) 4 : Nat), .int .u64 (dgl (qz (4 * z + m)) 5 : Nat), .int .u64 (dgl (qz (4 * z + m)) 6 : Nat), .int .u64 (dgl (qz (4 * z + m)) 7 : Nat)]) := w8_qz _ _ _ (by omega)
  have HC : Hid (IntKind.u64.wrap ((y : Int)) = (y : Int)) := by apply hide; rw [IntKind.wrap_u64]; omega
  have hw4 : IntKind.i64.wrap (m + 4) = (y : Int) := by rw [IntKind.wrap_i64]; omega
  have HSH : Hid (∀ w, Calls Tryd.prog 29 #[.agg #[.int .u64 (dgl (qz (z - 1)) 0 : Nat), .int .u64 (dgl (qz (z - 1)) 1 : Nat), .int .u64 (dgl (qz (z - 1)) 2 : Nat), .int .u64 (dgl (qz (z - 1)) 3 : Nat), .int .u64 (dgl (qz (z - 1)) 4 : Nat), .int .u64 (dgl (qz (z - 1)) 5 : Nat), .int .u64 (dgl (qz (z - 1)) 6 : Nat), .int .u64 (dgl (qz (z - 1)) 7 : Nat)], .int .i64 2] w fun e w' => e = .returned (.agg #[.int .u64 (dgl (qz (z - 1) * 2 ^ 2 % QQ) 0 : Nat), .int .u64 (dgl (qz (z - 1) * 2 ^ 2 % QQ) 1 : Nat), .int .u64 (dgl (qz (z - 1) * 2 ^ 2 % QQ) 2 : Nat), .int .u64 (dgl (qz (z - 1) * 2 ^ 2 % QQ) 3 : Nat), .int .u64 (dgl (qz (z - 1) * 2 ^ 2 % QQ) 4 : Nat), .int .u64 (dgl (qz (z - 1) * 2 ^ 2 % QQ) 5 : Nat), .int .u64 (dgl (qz (z - 1) * 2 ^ 2 % QQ) 6 : Nat), .int .u64 (dgl (qz (z - 1) * 2 ^ 2 % QQ) 7 : Nat)]) ∧ Below w.heap.size w w') := by
    intro w
    have h := wideShl_any (qz (z - 1)) 2 (qz_lt _) w
    rw [show roomI 2 = ((2 : Nat) : Int) by decide, sh_up, w8_mod1 (qz (z - 1) * 2 ^ 2)] at h
    exact h
  have HOF : Hid (∀ w, Calls Tryd.prog 52 #[.slice (some ⟨w.heap.size, 0, none⟩) 1 1] (w.alloc (.cells #[.int .u64 (m + 4)] 22)) fun e w' => e = .returned (.agg #[.int .u64 (dgl (y) 0 : Nat), .int .u64 (dgl (y) 1 : Nat), .int .u64 (dgl (y) 2 : Nat), .int .u64 (dgl (y) 3 : Nat), .int .u64 (dgl (y) 4 : Nat), .int .u64 (dgl (y) 5 : Nat), .int .u64 (dgl (y) 6 : Nat), .int .u64 (dgl (y) 7 : Nat)]) ∧ Below w.heap.size w w') := by
    intro w
    try rw [← hy]
    refine (wideOf_any [y] y _ _ (Rd.lit (mk := mk64) w 22 [.int .u64 (y : Nat)] [y] rfl 1 (Nat.le_refl 1) (by decide)) (fun i hi => (dig_one (β := 18446744073709551616) (by omega)).2 i)).mono ?_
    rintro e w' ⟨rfl, hb⟩
    exact ⟨rfl, (below_allocs w _).trans (hb.mono (by simp))⟩
  have HAD : Hid (∀ w, Calls Tryd.prog 68 #[.agg #[.int .u64 (dgl (qz (z - 1) * 2 ^ 2 % QQ) 0 : Nat), .int .u64 (dgl (qz (z - 1) * 2 ^ 2 % QQ) 1 : Nat), .int .u64 (dgl (qz (z - 1) * 2 ^ 2 % QQ) 2 : Nat), .int .u64 (dgl (qz (z - 1) * 2 ^ 2 % QQ) 3 : Nat), .int .u64 (dgl (qz (z - 1) * 2 ^ 2 % QQ) 4 : Nat), .int .u64 (dgl (qz (z - 1) * 2 ^ 2 % QQ) 5 : Nat), .int .u64 (dgl (qz (z - 1) * 2 ^ 2 % QQ) 6 : Nat), .int .u64 (dgl (qz (z - 1) * 2 ^ 2 % QQ) 7 : Nat)], .agg #[.int .u64 (dgl (y) 0 : Nat), .int .u64 (dgl (y) 1 : Nat), .int .u64 (dgl (y) 2 : Nat), .int .u64 (dgl (y) 3 : Nat), .int .u64 (dgl (y) 4 : Nat), .int .u64 (dgl (y) 5 : Nat), .int .u64 (dgl (y) 6 : Nat), .int .u64 (dgl (y) 7 : Nat)]] w fun e w' => e = .returned (.tuple #[.agg #[.int .u64 (dgl (qz (4 * z + m)) 0 : Nat), .int .u64 (dgl (qz (4 * z + m)) 1 : Nat), .int .u64 (dgl (qz (4 * z + m)) 2 : Nat), .int .u64 (dgl (qz (4 * z + m)) 3 : Nat), .int .u64 (dgl (qz (4 * z + m)) 4 : Nat), .int .u64 (dgl (qz (4 * z + m)) 5 : Nat), .int .u64 (dgl (qz (4 * z + m)) 6 : Nat), .int .u64 (dgl (qz (4 * z + m)) 7 : Nat)], .bool (decide (QQ ≤ qz (z - 1) * 2 ^ 2 % QQ + y))]) ∧ Below w.heap.size w w') := by
    intro w
    have h := wideAdd_any (qz (z - 1) * 2 ^ 2 % QQ) y (Nat.mod_lt _ qq_pos) (by have := qq_big; omega) w
    rw [HF.out] at h
    exact h
  clear HF hy4
  generalize qz (z - 1) * 2 ^ 2 % QQ = s at *
  generalize qz (4 * z + m) = r at *
  generalize hov : decide (QQ ≤ s + y) = ov at *
  clear hov
  have HS := hide (bh_start w (qz z) (qz (z - 1)) (qz (z - 1)) 60 24 24)
  generalize qz z = x at *
  generalize qz (z - 1) = x1 at *
  go_enter Tryd.func66, Tryd.ntmps66
  have hcu := HC.out
  go_upto_region 4 with fail
  refine wp_gen (fun W => BhSt x1 w W) ?_ ?_
  · exact HS.out
  clear HS
  rintro W4 h4
  have HS := hide h4
  have hl := h4.lx.1
  clear h4
  go_wp2_with fail
  refine (HSH.out _).mono ?_
  rintro e w5 ⟨rfl, hb5⟩
  replace HS := hide (HS.out.below hb5)
  clear hb5 hl
  go_wp2_with fail
  refine (HOF.out _).mono ?_
  rintro e w6 ⟨rfl, hb6⟩
  replace HS := hide (HS.out.below hb6)
  clear hb6
  go_wp2_with fail
  refine (HAD.out _).mono ?_
  rintro e w7 ⟨rfl, hb7⟩
  replace HS := hide (HS.out.below hb7)
  clear hb7
  have hr1 := HS.out.lr.1
  have hrl1 := HS.out.lr.2
  have hrf1 := HS.out.fr
  have HBE := hide HS.out.bel
  clear HS
  go_wp2
  exact bodyPost_ret (v := .agg #[.int .u64 (dgl (r) 0 : Nat), .int .u64 (dgl (r) 1 : Nat), .int .u64 (dgl (r) 2 : Nat), .int .u64 (dgl (r) 3 : Nat), .int .u64 (dgl (r) 4 : Nat), .int .u64 (dgl (r) 5 : Nat), .int .u64 (dgl (r) 6 : Nat), .int .u64 (dgl (r) 7 : Nat)]) (by simp [results, Tryd.results66, go_sem, hr1, hrl1]) rfl ⟨rfl, below_trans (below_set8 HBE.out _ (by omega) _ _ _ _ _ _ _ _) (below_allocs _ _)⟩

theorem behind_any (z m : Int) (h1 : -4 ≤ m) (h2 : m ≤ 3) (w : World) :
    Calls Tryd.prog 66 #[.agg #[.int .u64 (dgl (qz z) 0 : Nat), .int .u64 (dgl (qz z) 1 : Nat), .int .u64 (dgl (qz z) 2 : Nat), .int .u64 (dgl (qz z) 3 : Nat), .int .u64 (dgl (qz z) 4 : Nat), .int .u64 (dgl (qz z) 5 : Nat), .int .u64 (dgl (qz z) 6 : Nat), .int .u64 (dgl (qz z) 7 : Nat), .int .u64 (dgl (qz (z - 1)) 0 : Nat), .int .u64 (dgl (qz (z - 1)) 1 : Nat), .int .u64 (dgl (qz (z - 1)) 2 : Nat), .int .u64 (dgl (qz (z - 1)) 3 : Nat), .int .u64 (dgl (qz (z - 1)) 4 : Nat), .int .u64 (dgl (qz (z - 1)) 5 : Nat), .int .u64 (dgl (qz (z - 1)) 6 : Nat), .int .u64 (dgl (qz (z - 1)) 7 : Nat)], .int .i64 m] w fun e w' => e = .returned (.agg #[.int .u64 (dgl (qz (4 * z + m)) 0 : Nat), .int .u64 (dgl (qz (4 * z + m)) 1 : Nat), .int .u64 (dgl (qz (4 * z + m)) 2 : Nat), .int .u64 (dgl (qz (4 * z + m)) 3 : Nat), .int .u64 (dgl (qz (4 * z + m)) 4 : Nat), .int .u64 (dgl (qz (4 * z + m)) 5 : Nat), .int .u64 (dgl (qz (4 * z + m)) 6 : Nat), .int .u64 (dgl (qz (4 * z + m)) 7 : Nat)]) ∧ Below w.heap.size w w' := by
  rcases Int.lt_or_le m 0 with h | h
  · exact behind_N z m ⟨h1, h⟩ w
  · exact behind_P z m ⟨h, h2⟩ w

/-- Two numbers, one behind the other: a state. -/
theorem app88 (x0 x1 x2 x3 x4 x5 x6 x7 y0 y1 y2 y3 y4 y5 y6 y7 : Value) : (#[x0, x1, x2, x3, x4, x5, x6, x7] ++ #[y0, y1, y2, y3, y4, y5, y6, y7] : Array Value) = #[x0, x1, x2, x3, x4, x5, x6, x7, y0, y1, y2, y3, y4, y5, y6, y7] := rfl

end Go.Proofs.YtbngaajhdaciaaaDoor

/- Contracts: fly.New, Next. -/
set_option linter.unusedVariables false
set_option linter.unusedSimpArgs false
set_option maxRecDepth 8000
namespace Go.Proofs.YtbngaajhdaciaaaDoor
open Go.RowKit Plain

theorem below_set16 {B : Nat} {a W : World} (h : Below B a W) (b : Nat) (hb : B ≤ b) (x y : Nat) : Below B a ((((((((((((((((W.setCell ⟨b, 0, none⟩ (.int .u64 (dgl (x) 0 : Nat))).setCell ⟨b, 1, none⟩ (.int .u64 (dgl (x) 1 : Nat))).setCell ⟨b, 2, none⟩ (.int .u64 (dgl (x) 2 : Nat))).setCell ⟨b, 3, none⟩ (.int .u64 (dgl (x) 3 : Nat))).setCell ⟨b, 4, none⟩ (.int .u64 (dgl (x) 4 : Nat))).setCell ⟨b, 5, none⟩ (.int .u64 (dgl (x) 5 : Nat))).setCell ⟨b, 6, none⟩ (.int .u64 (dgl (x) 6 : Nat))).setCell ⟨b, 7, none⟩ (.int .u64 (dgl (x) 7 : Nat))).setCell ⟨b, 8, none⟩ (.int .u64 (dgl (y) 0 : Nat))).setCell ⟨b, 9, none⟩ (.int .u64 (dgl (y) 1 : Nat))).setCell ⟨b, 10, none⟩ (.int .u64 (dgl (y) 2 : Nat))).setCell ⟨b, 11, none⟩ (.int .u64 (dgl (y) 3 : Nat))).setCell ⟨b, 12, none⟩ (.int .u64 (dgl (y) 4 : Nat))).setCell ⟨b, 13, none⟩ (.int .u64 (dgl (y) 5 : Nat))).setCell ⟨b, 14, none⟩ (.int .u64 (dgl (y) 6 : Nat))).setCell ⟨b, 15, none⟩ (.int .u64 (dgl (y) 7 : Nat))) :=
  ((((((((((((((((h.setCell (p := ⟨b, 0, none⟩) (hb) _).setCell (p := ⟨b, 1, none⟩) (hb) _).setCell (p := ⟨b, 2, none⟩) (hb) _).setCell (p := ⟨b, 3, none⟩) (hb) _).setCell (p := ⟨b, 4, none⟩) (hb) _).setCell (p := ⟨b, 5, none⟩) (hb) _).setCell (p := ⟨b, 6, none⟩) (hb) _).setCell (p := ⟨b, 7, none⟩) (hb) _).setCell (p := ⟨b, 8, none⟩) (hb) _).setCell (p := ⟨b, 9, none⟩) (hb) _).setCell (p := ⟨b, 10, none⟩) (hb) _).setCell (p := ⟨b, 11, none⟩) (hb) _).setCell (p := ⟨b, 12, none⟩) (hb) _).setCell (p := ⟨b, 13, none⟩) (hb) _).setCell (p := ⟨b, 14, none⟩) (hb) _).setCell (p := ⟨b, 15, none⟩) (hb) _)
theorem stB_set16 {W : World} {b x0 y0 : Nat} (h : StB W b x0 y0) (x y : Nat) : StB ((((((((((((((((W.setCell ⟨b, 0, none⟩ (.int .u64 (dgl (x) 0 : Nat))).setCell ⟨b, 1, none⟩ (.int .u64 (dgl (x) 1 : Nat))).setCell ⟨b, 2, none⟩ (.int .u64 (dgl (x) 2 : Nat))).setCell ⟨b, 3, none⟩ (.int .u64 (dgl (x) 3 : Nat))).setCell ⟨b, 4, none⟩ (.int .u64 (dgl (x) 4 : Nat))).setCell ⟨b, 5, none⟩ (.int .u64 (dgl (x) 5 : Nat))).setCell ⟨b, 6, none⟩ (.int .u64 (dgl (x) 6 : Nat))).setCell ⟨b, 7, none⟩ (.int .u64 (dgl (x) 7 : Nat))).setCell ⟨b, 8, none⟩ (.int .u64 (dgl (y) 0 : Nat))).setCell ⟨b, 9, none⟩ (.int .u64 (dgl (y) 1 : Nat))).setCell ⟨b, 10, none⟩ (.int .u64 (dgl (y) 2 : Nat))).setCell ⟨b, 11, none⟩ (.int .u64 (dgl (y) 3 : Nat))).setCell ⟨b, 12, none⟩ (.int .u64 (dgl (y) 4 : Nat))).setCell ⟨b, 13, none⟩ (.int .u64 (dgl (y) 5 : Nat))).setCell ⟨b, 14, none⟩ (.int .u64 (dgl (y) 6 : Nat))).setCell ⟨b, 15, none⟩ (.int .u64 (dgl (y) 7 : Nat))) b x y := by
  have hr := h.lo
  have hr0 := h.h0
  have hr1 := h.h1
  have hr2 := h.h2
  have hr3 := h.h3
  have hr4 := h.h4
  have hr5 := h.h5
  have hr6 := h.h6
  have hr7 := h.h7
  have hrl := h.lt
  refine ⟨fun i hi => ?_, by simp [go_sem, hr, hr0, hr1, hr2, hr3, hr4, hr5, hr6, hr7, hrl], by simp [go_sem, hr, hr0, hr1, hr2, hr3, hr4, hr5, hr6, hr7, hrl], by simp [go_sem, hr, hr0, hr1, hr2, hr3, hr4, hr5, hr6, hr7, hrl], by simp [go_sem, hr, hr0, hr1, hr2, hr3, hr4, hr5, hr6, hr7, hrl], by simp [go_sem, hr, hr0, hr1, hr2, hr3, hr4, hr5, hr6, hr7, hrl], by simp [go_sem, hr, hr0, hr1, hr2, hr3, hr4, hr5, hr6, hr7, hrl], by simp [go_sem, hr, hr0, hr1, hr2, hr3, hr4, hr5, hr6, hr7, hrl], by simp [go_sem, hr, hr0, hr1, hr2, hr3, hr4, hr5, hr6, hr7, hrl], by simpa [go_sem] using h.lt⟩
  rcases (show i = 0 ∨ i = 1 ∨ i = 2 ∨ i = 3 ∨ i = 4 ∨ i = 5 ∨ i = 6 ∨ i = 7 by omega) with rfl | rfl | rfl | rfl | rfl | rfl | rfl | rfl <;> simp [go_sem, hr, hr0, hr1, hr2, hr3, hr4, hr5, hr6, hr7, hrl]
theorem stB_other {W : World} {b c q l : Nat} (h : StB W c q l) (hne : c ≠ b) (x y : Nat) : StB ((((((((((((((((W.setCell ⟨b, 0, none⟩ (.int .u64 (dgl (x) 0 : Nat))).setCell ⟨b, 1, none⟩ (.int .u64 (dgl (x) 1 : Nat))).setCell ⟨b, 2, none⟩ (.int .u64 (dgl (x) 2 : Nat))).setCell ⟨b, 3, none⟩ (.int .u64 (dgl (x) 3 : Nat))).setCell ⟨b, 4, none⟩ (.int .u64 (dgl (x) 4 : Nat))).setCell ⟨b, 5, none⟩ (.int .u64 (dgl (x) 5 : Nat))).setCell ⟨b, 6, none⟩ (.int .u64 (dgl (x) 6 : Nat))).setCell ⟨b, 7, none⟩ (.int .u64 (dgl (x) 7 : Nat))).setCell ⟨b, 8, none⟩ (.int .u64 (dgl (y) 0 : Nat))).setCell ⟨b, 9, none⟩ (.int .u64 (dgl (y) 1 : Nat))).setCell ⟨b, 10, none⟩ (.int .u64 (dgl (y) 2 : Nat))).setCell ⟨b, 11, none⟩ (.int .u64 (dgl (y) 3 : Nat))).setCell ⟨b, 12, none⟩ (.int .u64 (dgl (y) 4 : Nat))).setCell ⟨b, 13, none⟩ (.int .u64 (dgl (y) 5 : Nat))).setCell ⟨b, 14, none⟩ (.int .u64 (dgl (y) 6 : Nat))).setCell ⟨b, 15, none⟩ (.int .u64 (dgl (y) 7 : Nat))) c q l := by
  have hb : ∀ (V : World) (i : Nat) (u : Value) (j : Nat), (V.setCell ⟨b, i, none⟩ u).cell? ⟨c, j, none⟩ = V.cell? ⟨c, j, none⟩ := fun V i u j => by simp [go_sem, hne]
  refine ⟨fun i hi => by simp only [hb]; exact h.lo i hi, by simp only [hb]; exact h.h0, by simp only [hb]; exact h.h1, by simp only [hb]; exact h.h2, by simp only [hb]; exact h.h3, by simp only [hb]; exact h.h4, by simp only [hb]; exact h.h5, by simp only [hb]; exact h.h6, by simp only [hb]; exact h.h7, by simpa [go_sem] using h.lt⟩

/-- What Next goes by: a state in a box, and its result. -/
structure NxSt (q l a b : Nat) (w W : World) : Prop where
  x : StB W w.heap.size q l
  r : StB W (w.heap.size + 1) a b
  fr : ∀ i, W.frozen? ⟨w.heap.size + 1, i, none⟩ = false
  bel : Below w.heap.size w W
theorem NxSt.below {q l a b : Nat} {w W W' : World} (h : NxSt q l a b w W) (hb : Below W.heap.size W W') : NxSt q l a b w W' :=
  ⟨h.x.below hb, h.r.below hb, fun i => (hb.frozen (p := ⟨w.heap.size + 1, i, none⟩) h.r.lt).trans (h.fr i), below_trans h.bel hb⟩
theorem NxSt.set {q l a b : Nat} {w W : World} (h : NxSt q l a b w W) (x y : Nat) : NxSt q l x y w ((((((((((((((((W.setCell ⟨w.heap.size + 1, 0, none⟩ (.int .u64 (dgl (x) 0 : Nat))).setCell ⟨w.heap.size + 1, 1, none⟩ (.int .u64 (dgl (x) 1 : Nat))).setCell ⟨w.heap.size + 1, 2, none⟩ (.int .u64 (dgl (x) 2 : Nat))).setCell ⟨w.heap.size + 1, 3, none⟩ (.int .u64 (dgl (x) 3 : Nat))).setCell ⟨w.heap.size + 1, 4, none⟩ (.int .u64 (dgl (x) 4 : Nat))).setCell ⟨w.heap.size + 1, 5, none⟩ (.int .u64 (dgl (x) 5 : Nat))).setCell ⟨w.heap.size + 1, 6, none⟩ (.int .u64 (dgl (x) 6 : Nat))).setCell ⟨w.heap.size + 1, 7, none⟩ (.int .u64 (dgl (x) 7 : Nat))).setCell ⟨w.heap.size + 1, 8, none⟩ (.int .u64 (dgl (y) 0 : Nat))).setCell ⟨w.heap.size + 1, 9, none⟩ (.int .u64 (dgl (y) 1 : Nat))).setCell ⟨w.heap.size + 1, 10, none⟩ (.int .u64 (dgl (y) 2 : Nat))).setCell ⟨w.heap.size + 1, 11, none⟩ (.int .u64 (dgl (y) 3 : Nat))).setCell ⟨w.heap.size + 1, 12, none⟩ (.int .u64 (dgl (y) 4 : Nat))).setCell ⟨w.heap.size + 1, 13, none⟩ (.int .u64 (dgl (y) 5 : Nat))).setCell ⟨w.heap.size + 1, 14, none⟩ (.int .u64 (dgl (y) 6 : Nat))).setCell ⟨w.heap.size + 1, 15, none⟩ (.int .u64 (dgl (y) 7 : Nat))) :=
  ⟨stB_other h.x (by omega) x y, stB_set16 h.r x y, fun i => by simpa [go_sem] using h.fr i, below_set16 h.bel _ (by omega) x y⟩
theorem nxSt_start (w : World) (q l : Nat) (e1 e2 : TypeId) : NxSt q l 0 0 w ((w.alloc (.cells #[.int .u64 (dgl (q) 0 : Nat), .int .u64 (dgl (q) 1 : Nat), .int .u64 (dgl (q) 2 : Nat), .int .u64 (dgl (q) 3 : Nat), .int .u64 (dgl (q) 4 : Nat), .int .u64 (dgl (q) 5 : Nat), .int .u64 (dgl (q) 6 : Nat), .int .u64 (dgl (q) 7 : Nat), .int .u64 (dgl (l) 0 : Nat), .int .u64 (dgl (l) 1 : Nat), .int .u64 (dgl (l) 2 : Nat), .int .u64 (dgl (l) 3 : Nat), .int .u64 (dgl (l) 4 : Nat), .int .u64 (dgl (l) 5 : Nat), .int .u64 (dgl (l) 6 : Nat), .int .u64 (dgl (l) 7 : Nat)] e1)).alloc (.cells #[.int .u64 0, .int .u64 0, .int .u64 0, .int .u64 0, .int .u64 0, .int .u64 0, .int .u64 0, .int .u64 0, .int .u64 0, .int .u64 0, .int .u64 0, .int .u64 0, .int .u64 0, .int .u64 0, .int .u64 0, .int .u64 0] e2)) := by
  have h1 := (stB_new w q l e1).below (below_allocs _ (.cells #[.int .u64 0, .int .u64 0, .int .u64 0, .int .u64 0, .int .u64 0, .int .u64 0, .int .u64 0, .int .u64 0, .int .u64 0, .int .u64 0, .int .u64 0, .int .u64 0, .int .u64 0, .int .u64 0, .int .u64 0, .int .u64 0] e2))
  have h2 := stB_new (w.alloc (.cells #[.int .u64 (dgl (q) 0 : Nat), .int .u64 (dgl (q) 1 : Nat), .int .u64 (dgl (q) 2 : Nat), .int .u64 (dgl (q) 3 : Nat), .int .u64 (dgl (q) 4 : Nat), .int .u64 (dgl (q) 5 : Nat), .int .u64 (dgl (q) 6 : Nat), .int .u64 (dgl (q) 7 : Nat), .int .u64 (dgl (l) 0 : Nat), .int .u64 (dgl (l) 1 : Nat), .int .u64 (dgl (l) 2 : Nat), .int .u64 (dgl (l) 3 : Nat), .int .u64 (dgl (l) 4 : Nat), .int .u64 (dgl (l) 5 : Nat), .int .u64 (dgl (l) 6 : Nat), .int .u64 (dgl (l) 7 : Nat)] e1)) 0 0 e2
  rw [World.size_alloc] at h2
  simp only [dgl_zero] at h2
  refine ⟨h1, ?_, fun i => by simp [go_sem], below_trans (below_allocs _ _) (below_allocs _ _)⟩
  refine ⟨fun i hi => ?_, by rw [dgl_zero]; exact h2.h0, by rw [dgl_zero]; exact h2.h1, by rw [dgl_zero]; exact h2.h2, by rw [dgl_zero]; exact h2.h3, by rw [dgl_zero]; exact h2.h4, by rw [dgl_zero]; exact h2.h5, by rw [dgl_zero]; exact h2.h6, by rw [dgl_zero]; exact h2.h7, h2.lt⟩
  rw [dgl_zero]
  have := h2.lo i hi
  rw [dgl_zero] at this
  exact this

end Go.Proofs.YtbngaajhdaciaaaDoor

/- Contracts: fly.Next. -/
set_option linter.unusedVariables false
set_option linter.unusedSimpArgs false
set_option maxRecDepth 8000
namespace Go.Proofs.YtbngaajhdaciaaaDoor
open Go.RowKit Plain

set_option maxHeartbeats 2000000 in
theorem next_yes (z d : Int) (hd : isD d = true) (w : World) :
    Calls Tryd.prog 31 #[.agg #[.int .u64 (dgl (qz z) 0 : Nat), .int .u64 (dgl (qz z) 1 : Nat), .int .u64 (dgl (qz z) 2 : Nat), .int .u64 (dgl (qz z) 3 : Nat), .int .u64 (dgl (qz z) 4 : Nat), .int .u64 (dgl (qz z) 5 : Nat), .int .u64 (dgl (qz z) 6 : Nat), .int .u64 (dgl (qz z) 7 : Nat), .int .u64 (dgl (qz (z - 1)) 0 : Nat), .int .u64 (dgl (qz (z - 1)) 1 : Nat), .int .u64 (dgl (qz (z - 1)) 2 : Nat), .int .u64 (dgl (qz (z - 1)) 3 : Nat), .int .u64 (dgl (qz (z - 1)) 4 : Nat), .int .u64 (dgl (qz (z - 1)) 5 : Nat), .int .u64 (dgl (qz (z - 1)) 6 : Nat), .int .u64 (dgl (qz (z - 1)) 7 : Nat)], .int .i64 d] w fun e w' => e = .returned (.tuple #[.agg #[.int .u64 (dgl (qz (4 * z + d)) 0 : Nat), .int .u64 (dgl (qz (4 * z + d)) 1 : Nat), .int .u64 (dgl (qz (4 * z + d)) 2 : Nat), .int .u64 (dgl (qz (4 * z + d)) 3 : Nat), .int .u64 (dgl (qz (4 * z + d)) 4 : Nat), .int .u64 (dgl (qz (4 * z + d)) 5 : Nat), .int .u64 (dgl (qz (4 * z + d)) 6 : Nat), .int .u64 (dgl (qz (4 * z + d)) 7 : Nat), .int .u64 (dgl (qz (4 * z + d - 1)) 0 : Nat), .int .u64 (dgl (qz (4 * z + d - 1)) 1 : Nat), .int .u64 (dgl (qz (4 * z + d - 1)) 2 : Nat), .int .u64 (dgl (qz (4 * z + d - 1)) 3 : Nat), .int .u64 (dgl (qz (4 * z + d - 1)) 4 : Nat), .int .u64 (dgl (qz (4 * z + d - 1)) 5 : Nat), .int .u64 (dgl (qz (4 * z + d - 1)) 6 : Nat), .int .u64 (dgl (qz (4 * z + d - 1)) 7 : Nat)], .bool true]) ∧ Below w.heap.size w w' := by
  have hd2 := isD_iff.1 hd
  have HK : Hid (∀ w, Calls Tryd.prog 55 #[.int .i64 d] w fun e w' => e = .returned (.bool true) ∧ w' = w) := fun w => by have h := known_any d w; rw [hd] at h; exact h
  have HB1 := hide (fun w => behind_any z d (by omega) (by omega) w)
  have HB2 := hide (fun w => behind_any z (d - 1) (by omega) (by omega) w)
  rw [show 4 * z + (d - 1) = 4 * z + d - 1 by omega] at HB2
  have HS := hide (nxSt_start w (qz z) (qz (z - 1)) 60 60)
  obtain ⟨d1, hdd⟩ : ∃ d1, d - 1 = d1 := ⟨_, rfl⟩
  have hd1 : IntKind.i64.wrap (d - 1) = d1 := by rw [← hdd, IntKind.wrap_i64]; omega
  rw [hdd] at HB2
  clear hd hd2 hdd
  generalize qz z = x at *
  generalize qz (z - 1) = y at *
  generalize qz (4 * z + d) = a at *
  generalize qz (4 * z + d - 1) = b at *
  go_enter Tryd.func31, Tryd.ntmps31
  go_wp2_with fail
  refine (HK.out _).mono ?_
  rintro e w1 ⟨rfl, hw⟩
  subst hw
  go_upto_region 3 with fail
  refine wp_gen (fun W => NxSt x y 0 0 w W) HS.out ?_
  clear HS
  rintro W2 h2
  refine wp_region_storeK 10 [8] [10, 11, 12, 13, 14, 15, 16, 17, 5] (fun bs => [(10, .val (.agg #[.int .u64 (dgl (x) 0 : Nat), .int .u64 (dgl (x) 1 : Nat), .int .u64 (dgl (x) 2 : Nat), .int .u64 (dgl (x) 3 : Nat), .int .u64 (dgl (x) 4 : Nat), .int .u64 (dgl (x) 5 : Nat), .int .u64 (dgl (x) 6 : Nat), .int .u64 (dgl (x) 7 : Nat), .int .u64 (dgl (y) 0 : Nat), .int .u64 (dgl (y) 1 : Nat), .int .u64 (dgl (y) 2 : Nat), .int .u64 (dgl (y) 3 : Nat), .int .u64 (dgl (y) 4 : Nat), .int .u64 (dgl (y) 5 : Nat), .int .u64 (dgl (y) 6 : Nat), .int .u64 (dgl (y) 7 : Nat)])), (11, .val (.int .i64 d)), (12, .val (.agg #[.int .u64 (dgl (a) 0 : Nat), .int .u64 (dgl (a) 1 : Nat), .int .u64 (dgl (a) 2 : Nat), .int .u64 (dgl (a) 3 : Nat), .int .u64 (dgl (a) 4 : Nat), .int .u64 (dgl (a) 5 : Nat), .int .u64 (dgl (a) 6 : Nat), .int .u64 (dgl (a) 7 : Nat)])), (13, .val (.agg #[.int .u64 (dgl (x) 0 : Nat), .int .u64 (dgl (x) 1 : Nat), .int .u64 (dgl (x) 2 : Nat), .int .u64 (dgl (x) 3 : Nat), .int .u64 (dgl (x) 4 : Nat), .int .u64 (dgl (x) 5 : Nat), .int .u64 (dgl (x) 6 : Nat), .int .u64 (dgl (x) 7 : Nat), .int .u64 (dgl (y) 0 : Nat), .int .u64 (dgl (y) 1 : Nat), .int .u64 (dgl (y) 2 : Nat), .int .u64 (dgl (y) 3 : Nat), .int .u64 (dgl (y) 4 : Nat), .int .u64 (dgl (y) 5 : Nat), .int .u64 (dgl (y) 6 : Nat), .int .u64 (dgl (y) 7 : Nat)])), (14, .val (.int .i64 d)), (15, .val (.int .i64 d1)), (16, .val (.agg #[.int .u64 (dgl (b) 0 : Nat), .int .u64 (dgl (b) 1 : Nat), .int .u64 (dgl (b) 2 : Nat), .int .u64 (dgl (b) 3 : Nat), .int .u64 (dgl (b) 4 : Nat), .int .u64 (dgl (b) 5 : Nat), .int .u64 (dgl (b) 6 : Nat), .int .u64 (dgl (b) 7 : Nat)])), (17, .val (.agg #[.int .u64 (dgl (a) 0 : Nat), .int .u64 (dgl (a) 1 : Nat), .int .u64 (dgl (a) 2 : Nat), .int .u64 (dgl (a) 3 : Nat), .int .u64 (dgl (a) 4 : Nat), .int .u64 (dgl (a) 5 : Nat), .int .u64 (dgl (a) 6 : Nat), .int .u64 (dgl (a) 7 : Nat), .int .u64 (dgl (b) 0 : Nat), .int .u64 (dgl (b) 1 : Nat), .int .u64 (dgl (b) 2 : Nat), .int .u64 (dgl (b) 3 : Nat), .int .u64 (dgl (b) 4 : Nat), .int .u64 (dgl (b) 5 : Nat), .int .u64 (dgl (b) 6 : Nat), .int .u64 (dgl (b) 7 : Nat)])), (5, .val (.bool true))])
    (fun bs W => StB W w.heap.size x y ∧ ∀ c, bs.headD false = c → NxSt x y (bif c then a else 0) (bif c then b else 0) w W) (fun bs => rfl) mixedOk (by kernel_rfl) (by kernel_rfl) (by kernel_rfl) (⟨h2.x.below (Below.refl _ _).drew, fun c hc => by subst hc; exact h2.below (Below.refl _ _).drew⟩) (fun bs W W' h hb => ⟨h.1.below hb, fun c hc => (h.2 c hc).below hb⟩) ?_ ?_
  · refine kSt rfl (fun φ hφ => gStep_run rfl ?_) ?_
    · intro ρ W hC hc hf hL
      have e2 : ρ (.tmp 2) = .pointer (some ⟨w.heap.size, 0, none⟩) := hL 2 (by decide +kernel)
      have hl := hC.1.lo
      have hl0 := hC.1.h0
      have hl1 := hC.1.h1
      have hl2 := hC.1.h2
      have hl3 := hC.1.h3
      have hl4 := hC.1.h4
      have hl5 := hC.1.h5
      have hl6 := hC.1.h6
      have hl7 := hC.1.h7
      simp [go_sem, hc, hf, e2, hl, hl0, hl1, hl2, hl3, hl4, hl5, hl6, hl7]
      exact ⟨Below.refl _ _, rfl⟩
    refine kSt rfl (fun φ hφ => gStep_run rfl (gRun_move 1 11 (.inl rfl) rfl (by decide +kernel) (fun v w h => h))) ?_
    refine kSt rfl (fun φ hφ => gStep_run rfl ?_) ?_
    · intro ρ W hC hc hf hL
      have e10 : ρ (.tmp 10) = .agg #[.int .u64 (dgl (x) 0 : Nat), .int .u64 (dgl (x) 1 : Nat), .int .u64 (dgl (x) 2 : Nat), .int .u64 (dgl (x) 3 : Nat), .int .u64 (dgl (x) 4 : Nat), .int .u64 (dgl (x) 5 : Nat), .int .u64 (dgl (x) 6 : Nat), .int .u64 (dgl (x) 7 : Nat), .int .u64 (dgl (y) 0 : Nat), .int .u64 (dgl (y) 1 : Nat), .int .u64 (dgl (y) 2 : Nat), .int .u64 (dgl (y) 3 : Nat), .int .u64 (dgl (y) 4 : Nat), .int .u64 (dgl (y) 5 : Nat), .int .u64 (dgl (y) 6 : Nat), .int .u64 (dgl (y) 7 : Nat)] := hL 10 (by decide +kernel)
      have e11 : ρ (.tmp 11) = .int .i64 d := hL 11 (by decide +kernel)
      simp [go_sem, hc, hf, e10, e11]
      refine (HB1.out W).mono ?_
      rintro e w' ⟨rfl, hb⟩
      exact ⟨_, rfl, by first | exact hb | (subst hb; exact Below.refl _ _), rfl⟩
    refine kSt rfl (fun φ hφ => gStep_run rfl ?_) ?_
    · intro ρ W hC hc hf hL
      have e2 : ρ (.tmp 2) = .pointer (some ⟨w.heap.size, 0, none⟩) := hL 2 (by decide +kernel)
      have hl := hC.1.lo
      have hl0 := hC.1.h0
      have hl1 := hC.1.h1
      have hl2 := hC.1.h2
      have hl3 := hC.1.h3
      have hl4 := hC.1.h4
      have hl5 := hC.1.h5
      have hl6 := hC.1.h6
      have hl7 := hC.1.h7
      simp [go_sem, hc, hf, e2, hl, hl0, hl1, hl2, hl3, hl4, hl5, hl6, hl7]
      exact ⟨Below.refl _ _, rfl⟩
    refine kSt rfl (fun φ hφ => gStep_run rfl (gRun_move 1 14 (.inl rfl) rfl (by decide +kernel) (fun v w h => h))) ?_
    refine kSt rfl (fun φ hφ => gStep_run rfl ?_) ?_
    · intro ρ W hC hc hf hL
      have e14 : ρ (.tmp 14) = .int .i64 d := hL 14 (by decide +kernel)
      simp [go_sem, hc, hf, e14, hd1]
      exact ⟨Below.refl _ _, rfl⟩
    refine kSt rfl (fun φ hφ => gStep_run rfl ?_) ?_
    · intro ρ W hC hc hf hL
      have e13 : ρ (.tmp 13) = .agg #[.int .u64 (dgl (x) 0 : Nat), .int .u64 (dgl (x) 1 : Nat), .int .u64 (dgl (x) 2 : Nat), .int .u64 (dgl (x) 3 : Nat), .int .u64 (dgl (x) 4 : Nat), .int .u64 (dgl (x) 5 : Nat), .int .u64 (dgl (x) 6 : Nat), .int .u64 (dgl (x) 7 : Nat), .int .u64 (dgl (y) 0 : Nat), .int .u64 (dgl (y) 1 : Nat), .int .u64 (dgl (y) 2 : Nat), .int .u64 (dgl (y) 3 : Nat), .int .u64 (dgl (y) 4 : Nat), .int .u64 (dgl (y) 5 : Nat), .int .u64 (dgl (y) 6 : Nat), .int .u64 (dgl (y) 7 : Nat)] := hL 13 (by decide +kernel)
      have e15 : ρ (.tmp 15) = .int .i64 d1 := hL 15 (by decide +kernel)
      simp [go_sem, hc, hf, e13, e15]
      refine (HB2.out W).mono ?_
      rintro e w' ⟨rfl, hb⟩
      exact ⟨_, rfl, by first | exact hb | (subst hb; exact Below.refl _ _), rfl⟩
    refine kSt rfl (fun φ hφ => gStep_run rfl ?_) ?_
    · intro ρ W hC hc hf hL
      have e12 : ρ (.tmp 12) = .agg #[.int .u64 (dgl (a) 0 : Nat), .int .u64 (dgl (a) 1 : Nat), .int .u64 (dgl (a) 2 : Nat), .int .u64 (dgl (a) 3 : Nat), .int .u64 (dgl (a) 4 : Nat), .int .u64 (dgl (a) 5 : Nat), .int .u64 (dgl (a) 6 : Nat), .int .u64 (dgl (a) 7 : Nat)] := hL 12 (by decide +kernel)
      have e16 : ρ (.tmp 16) = .agg #[.int .u64 (dgl (b) 0 : Nat), .int .u64 (dgl (b) 1 : Nat), .int .u64 (dgl (b) 2 : Nat), .int .u64 (dgl (b) 3 : Nat), .int .u64 (dgl (b) 4 : Nat), .int .u64 (dgl (b) 5 : Nat), .int .u64 (dgl (b) 6 : Nat), .int .u64 (dgl (b) 7 : Nat)] := hL 16 (by decide +kernel)
      simp [go_sem, hc, hf, e12, e16, app88]
      exact ⟨Below.refl _ _, rfl⟩
    refine kStS rfl ⟨rfl, rfl, ?_⟩ ?_
    · intro φ ρ W hφ hC hc hL
      have e4 : ρ (.tmp 4) = .pointer (some ⟨w.heap.size + 1, 0, none⟩) := hL 4 (by decide +kernel)
      have e17 : ρ (.tmp 17) = .agg #[.int .u64 (dgl (a) 0 : Nat), .int .u64 (dgl (a) 1 : Nat), .int .u64 (dgl (a) 2 : Nat), .int .u64 (dgl (a) 3 : Nat), .int .u64 (dgl (a) 4 : Nat), .int .u64 (dgl (a) 5 : Nat), .int .u64 (dgl (a) 6 : Nat), .int .u64 (dgl (a) 7 : Nat), .int .u64 (dgl (b) 0 : Nat), .int .u64 (dgl (b) 1 : Nat), .int .u64 (dgl (b) 2 : Nat), .int .u64 (dgl (b) 3 : Nat), .int .u64 (dgl (b) 4 : Nat), .int .u64 (dgl (b) 5 : Nat), .int .u64 (dgl (b) 6 : Nat), .int .u64 (dgl (b) 7 : Nat)] := hL 17 (by decide +kernel)
      have g : NxSt x y 0 0 w W := hC.2 false (by simp [hφ])
      have hr := g.r.lo
      have hr0 := g.r.h0
      have hr1 := g.r.h1
      have hr2 := g.r.h2
      have hr3 := g.r.h3
      have hr4 := g.r.h4
      have hr5 := g.r.h5
      have hr6 := g.r.h6
      have hr7 := g.r.h7
      have hrl := g.r.lt
      have hrf := g.fr
      refine gUpon_of ((((((((((((((((W.setCell ⟨w.heap.size + 1, 0, none⟩ (.int .u64 (dgl (a) 0 : Nat))).setCell ⟨w.heap.size + 1, 1, none⟩ (.int .u64 (dgl (a) 1 : Nat))).setCell ⟨w.heap.size + 1, 2, none⟩ (.int .u64 (dgl (a) 2 : Nat))).setCell ⟨w.heap.size + 1, 3, none⟩ (.int .u64 (dgl (a) 3 : Nat))).setCell ⟨w.heap.size + 1, 4, none⟩ (.int .u64 (dgl (a) 4 : Nat))).setCell ⟨w.heap.size + 1, 5, none⟩ (.int .u64 (dgl (a) 5 : Nat))).setCell ⟨w.heap.size + 1, 6, none⟩ (.int .u64 (dgl (a) 6 : Nat))).setCell ⟨w.heap.size + 1, 7, none⟩ (.int .u64 (dgl (a) 7 : Nat))).setCell ⟨w.heap.size + 1, 8, none⟩ (.int .u64 (dgl (b) 0 : Nat))).setCell ⟨w.heap.size + 1, 9, none⟩ (.int .u64 (dgl (b) 1 : Nat))).setCell ⟨w.heap.size + 1, 10, none⟩ (.int .u64 (dgl (b) 2 : Nat))).setCell ⟨w.heap.size + 1, 11, none⟩ (.int .u64 (dgl (b) 3 : Nat))).setCell ⟨w.heap.size + 1, 12, none⟩ (.int .u64 (dgl (b) 4 : Nat))).setCell ⟨w.heap.size + 1, 13, none⟩ (.int .u64 (dgl (b) 5 : Nat))).setCell ⟨w.heap.size + 1, 14, none⟩ (.int .u64 (dgl (b) 6 : Nat))).setCell ⟨w.heap.size + 1, 15, none⟩ (.int .u64 (dgl (b) 7 : Nat))) ?_ (fun _ => ?_)
      · simp [go_sem, hc, e4, e17, gUpon, hrf, hrl, hr, hr0, hr1, hr2, hr3, hr4, hr5, hr6, hr7]
      refine ⟨⟨stB_other g.x (by omega) a b, fun c hc => ?_⟩, fun t => ?_⟩
      · have hc1 : c = true := by rw [← hc]; simp
        subst hc1
        exact g.set a b
      refine (tbl_imp rfl (fun _ => val_imp) (tbl_imp rfl (fun _ => val_imp) (tbl_imp rfl (fun _ => val_imp) (tbl_imp rfl (fun _ => val_imp) (tbl_imp rfl (fun _ => val_imp) (tbl_imp rfl (fun _ => val_imp) (tbl_imp rfl (fun _ => val_imp) (tbl_imp rfl (fun _ => val_imp) (tbl_imp rfl (fun _ => val_imp) tbl_nil_imp)))))))))
    refine kSt rfl (fun φ hφ => gStep_run rfl (gRun_const _ 5 (.inr rfl) rfl (fun w => rfl))) ?_
    exact kSt0
  · intro W hC
    refine gFi 10 rfl ?_
    rintro _ rfl
    refine gFi 11 rfl ?_
    rintro _ rfl
    refine gFi 12 rfl ?_
    rintro _ rfl
    refine gFi 13 rfl ?_
    rintro _ rfl
    refine gFi 14 rfl ?_
    rintro _ rfl
    refine gFi 15 rfl ?_
    rintro _ rfl
    refine gFi 16 rfl ?_
    rintro _ rfl
    refine gFi 17 rfl ?_
    rintro _ rfl
    refine gFiN rfl ?_
    refine gFi 5 rfl ?_
    rintro _ rfl
    refine gFi0 ?_
    simp only [List.drop_succ_cons, List.drop_zero, Act.put, List.setIfInBounds_toArray, List.set_cons_succ, List.set_cons_zero]
    have HS := hide (hC.2 true rfl)
    clear hC h2
    have hr := HS.out.r.lo
    have hr0 := HS.out.r.h0
    have hr1 := HS.out.r.h1
    have hr2 := HS.out.r.h2
    have hr3 := HS.out.r.h3
    have hr4 := HS.out.r.h4
    have hr5 := HS.out.r.h5
    have hr6 := HS.out.r.h6
    have hr7 := HS.out.r.h7
    have hrl := HS.out.r.lt
    have hrf := HS.out.fr
    have HBE := hide HS.out.bel
    clear HS
    go_wp2
    exact bodyPost_ret (v := .tuple #[.agg #[.int .u64 (dgl (a) 0 : Nat), .int .u64 (dgl (a) 1 : Nat), .int .u64 (dgl (a) 2 : Nat), .int .u64 (dgl (a) 3 : Nat), .int .u64 (dgl (a) 4 : Nat), .int .u64 (dgl (a) 5 : Nat), .int .u64 (dgl (a) 6 : Nat), .int .u64 (dgl (a) 7 : Nat), .int .u64 (dgl (b) 0 : Nat), .int .u64 (dgl (b) 1 : Nat), .int .u64 (dgl (b) 2 : Nat), .int .u64 (dgl (b) 3 : Nat), .int .u64 (dgl (b) 4 : Nat), .int .u64 (dgl (b) 5 : Nat), .int .u64 (dgl (b) 6 : Nat), .int .u64 (dgl (b) 7 : Nat)], .bool true]) (by simp [results, Tryd.results31, go_sem, hr, hr0, hr1, hr2, hr3, hr4, hr5, hr6, hr7, hrl]) rfl ⟨rfl, HBE.out⟩
    
end Go.Proofs.YtbngaajhdaciaaaDoor

/- Likewise, where a call of the region writes too: what is written may have a slot, and what it waits for is told. -/
set_option linter.unusedVariables false
set_option linter.unusedSimpArgs false
set_option maxRecDepth 8000
namespace Go.Proofs.YtbngaajhdaciaaaDoor
open Go.RowKit Plain

section
variable {P : Program} {ops : Array Oper} {n : Nat} {a : Act} {T : List Bool → List (Nat × SlotIs)} {C : List Bool → World → Prop} {Q : Exit → Act → World → Prop} {ss : List Nat}

def cStore (P : Program) (ops : Array Oper) (a : Act) (T : List Bool → List (Nat × SlotIs)) (C : List Bool → World → Prop) (ss : List Nat) (k : Nat) (o : Oper) : Prop :=
  o.guard = none ∧ ∀ (φ : Nat → Bool) (ρ : Operand → Value) (w : World), φ k = false → (∀ s ∈ ss, Region.waitsFor .any ops s k = true → φ s = false) → (∀ s ∈ ss, Region.waitsFor .any ops k s = true → φ s = true) → C (ss.map φ) w → (∀ c, ρ (.const c) = c) → (∀ f, ρ (.func f) = .func (.func f) #[] #[]) → (∀ t ∈ o.looksAt ops, tbl a t (T (ss.map φ)) (ρ (.tmp t)) w) →
    gUpon P (fun v w' => C (ss.map fun i => φ i || Nat.beq i k) w' ∧ (match o.dst with | some d => tbl a d (T (ss.map fun i => φ i || Nat.beq i k)) v w' | none => True) ∧ ∀ t, tbl a t (T (ss.map φ)) (ρ (.tmp t)) w → tbl a t (T (ss.map fun i => φ i || Nat.beq i k)) (ρ (.tmp t)) w') ((execOp ρ o).run P w)

def cSteps (P : Program) (ops : Array Oper) (a : Act) (T : List Bool → List (Nat × SlotIs)) (C : List Bool → World → Prop) (ss : List Nat) : Nat → List Oper → Prop
  | _, [] => True
  | k, o :: rest => (if ss.contains k then cStore P ops a T C ss k o else kStep P ops a T C ss k o) ∧ cSteps P ops a T C ss (k + 1) rest
theorem cSt {k n : Nat} {o : Oper} {l : List Oper} (hk : ss.contains k = false) (h : kStep P ops a T C ss k o) (h2 : cSteps P ops a T C ss (k + 1) (l.take n)) : cSteps P ops a T C ss k ((o :: l).take (n + 1)) := by
  rw [List.take_succ_cons]; unfold cSteps; rw [hk]; exact ⟨h, h2⟩
theorem cStS {k n : Nat} {o : Oper} {l : List Oper} (hk : ss.contains k = true) (h : cStore P ops a T C ss k o) (h2 : cSteps P ops a T C ss (k + 1) (l.take n)) : cSteps P ops a T C ss k ((o :: l).take (n + 1)) := by
  rw [List.take_succ_cons]; unfold cSteps; rw [hk]; exact ⟨h, h2⟩
theorem cSt0 {k : Nat} {l : List Oper} : cSteps P ops a T C ss k (l.take 0) := trivial
theorem cSteps_get : ∀ (l : List Oper) (k i : Nat) (o : Oper), l[i]? = some o → cSteps P ops a T C ss k l → (if ss.contains (k + i) then cStore P ops a T C ss (k + i) o else kStep P ops a T C ss (k + i) o)
  | [], k, i, o, h, _ => by simp at h
  | x :: l, k, 0, o, h, hs => by simp at h; subst h; exact hs.1
  | x :: l, k, i + 1, o, h, hs => by
    have := cSteps_get l (k + 1) i o (by simpa using h) hs.2
    rw [show k + 1 + i = k + (i + 1) by omega] at this
    exact this

theorem growC_any {ds : List Nat} (hTd : ∀ bs, (T bs).map Prod.fst = ds) (hB : gOkB ops n ds = true) (hss : ∀ i ∈ ss, i < n) (hCs : ∀ bs w w', C bs w → Below w.heap.size w w' → C bs w') (hsz : ∀ d ∈ ds, d < a.tmps.size)
    (hst : cSteps P ops a T C ss 0 (ops.toList.take n)) (hf : ∀ w', C (ss.map fun _ => true) w' → gFin a (T (ss.map fun _ => true)) (fun a' => wpList P ops Q (ops.toList.drop n) a' w') w' (ops.toList.take n) a) :
    ∀ (f : Nat) (L : List Nat) (listed : Array Bool) (A : Act) (w : World), L.length = f → L.Nodup → (∀ i, i ∈ L ↔ (i < n ∧ listed.getD i true = false)) →
      HeadInv .any ops n listed → KInv ops n a T ds C ss listed A w → wpAny P .any ops Q (f + (ops.size - n)) listed A w := by
  simp only [gOkB, Bool.and_eq_true, decide_eq_true_eq] at hB
  obtain ⟨⟨⟨⟨⟨hn, hlook⟩, hd⟩, hnd⟩, htail⟩, hseq⟩ := hB
  have hlk : ∀ j o, j < n → ops[j]? = some o → (∀ t ∈ o.looksAt ops, ∀ i oi, i < n → ops[i]? = some oi → oi.dst = some t → ∃ e ∈ o.after, Region.binds .any e = true ∧ e.on = i) ∧ (∀ e ∈ o.after, Region.binds .any e = true → e.on < j) := by
    intro j o hj ho
    have h1 := List.all_eq_true.1 hlook j (List.mem_range.2 hj)
    simp only [ho, Bool.and_eq_true] at h1
    constructor
    · intro t ht i oi hi hoi hdi
      have h2 := List.all_eq_true.1 (List.all_eq_true.1 h1.1 t ht) i (List.mem_range.2 hi)
      simp only [hoi, hdi, Bool.or_eq_true] at h2
      rcases h2 with h2 | h2
      · have : Nat.beq t t = true := Nat.beq_refl t
        rw [this] at h2; cases h2
      · obtain ⟨oj, hoj, e, he, hb, hon⟩ := Region.waitsFor_spec h2
        have : oj = o := Option.some.inj (hoj.symm.trans ho)
        subst this
        exact ⟨e, he, hb, hon⟩
    · intro e he hb
      have h2 := (Array.all_eq_true_iff_forall_mem.1 h1.2) e he
      simp only [hb, Bool.not_true, Bool.false_or, decide_eq_true_eq] at h2
      exact h2
  have hdst : ∀ i o, i < n → ops[i]? = some o → ∀ d, o.dst = some d → d ∈ ds := fun i o hi ho d hdo => by
    rw [← hd]
    refine List.mem_filterMap.2 ⟨o, ?_, hdo⟩
    rw [List.mem_iff_getElem?]
    exact ⟨i, by rw [List.getElem?_take_of_lt hi, Array.getElem?_toList]; exact ho⟩
  intro f
  induction f with
  | zero =>
    intro L listed A w hl hnd' hL hinv inv
    have hall : ∀ i, i < n → listed.getD i true = true := fun i hi => by
      cases hc : listed.getD i true
      · have := (hL i).2 ⟨hi, hc⟩
        rw [List.length_eq_zero_iff.1 hl] at this; cases this
      · rfl
    have hlist : listed = Array.replicate n true ++ Array.replicate (ops.size - n) false := by
      apply Array.ext_getElem?
      intro i
      by_cases h1 : i < n
      · have h2 := hall i h1
        have h3 : i < listed.size := by rw [hinv.size]; omega
        simp [h3] at h2
        rw [Array.getElem?_append_left (by simpa using h1)]
        simp [h1, h3, h2]
      · by_cases h4 : i < ops.size
        · have h2 := hinv.tail i (by omega) h4
          have h3 : i < listed.size := by rw [hinv.size]; omega
          simp [h3] at h2
          rw [Array.getElem?_append_right (by simp; omega), Array.getElem?_eq_getElem h3, Array.getElem?_replicate, if_pos (by simp; omega), h2]
        · rw [Array.getElem?_eq_none (by rw [hinv.size]; omega), Array.getElem?_eq_none (by simp; omega)]
    rw [Nat.zero_add]
    have hmap : (ss.map fun i => listed.getD i false) = ss.map fun _ => true := List.map_congr_left (fun i hi => by
      have h1 := hall i (hss i hi)
      have h3 : i < listed.size := by rw [hinv.size]; have := hss i hi; omega
      simp [h3] at h1 ⊢; exact h1)
    have hc1 := inv.c
    have hk1 := inv.known
    rw [hmap] at hc1 hk1
    have hQ := gFin_use (a := a) (T := T (ss.map fun _ => true)) (w := w) _ A a inv.sz inv.df (by rw [hd]; exact hnd) (fun t ht => inv.kept t (by rw [← hd]; exact ht)) (fun d hdm => hk1 d (fun i oi hi hoi hli => by rw [hall i hi] at hli; cases hli)) (hf w hc1)
    have := wpAny_of_seq (md := .any) (Q' := Q) (ops.toList.drop n) n listed A w (fun j => by simp [List.getElem?_drop]) (by rw [hlist]; simpa using hseq) hQ
    simpa using this
  | succ f ih =>
    intro L listed A w hl hnd' hL hinv inv
    have hne : ∃ i, i < n ∧ listed.getD i true = false := by
      cases L with
      | nil => cases hl
      | cons i L => exact ⟨i, (hL i).1 (by simp)⟩
    have hready : Region.ready .any ops listed ≠ [] := by
      intro hr
      obtain ⟨i, hi, hli⟩ := hne
      have key : ∀ m, ∀ j, j < m → j < n → listed.getD j true = true := by
        intro m
        induction m with
        | zero => intro j hj; omega
        | succ m ihm =>
          intro j hj hjn
          rcases Nat.lt_or_ge j m with h | h
          · exact ihm j h hjn
          · cases hc : listed.getD j true
            · have hjs : j < ops.size := by omega
              have : j ∈ Region.ready .any ops listed := mem_ready.2 ⟨hc, ops[j], by simp [hjs], fun e he hb => by
                have h1 := (hlk j ops[j] hjn (by simp [hjs])).2 e he hb
                have h2 := ihm e.on (by omega) (by omega)
                have h3 : e.on < listed.size := by rw [hinv.size]; omega
                simp [h3] at h2 ⊢; exact h2⟩
              rw [hr] at this; cases this
            · rfl
      rw [key (i + 1) i (by omega) hi] at hli; cases hli
    rw [show f + 1 + (ops.size - n) = (f + (ops.size - n)) + 1 by omega]
    refine ⟨fun h => absurd h hready, fun i hi => ?_⟩
    have hin : i < n := by
      rcases Nat.lt_or_ge i n with h | h
      · exact h
      · simp only [Bool.or_eq_true, Bool.and_eq_true, decide_eq_true_eq] at htail
        rcases htail with ht | ⟨⟨h1, h2⟩, h3⟩
        · obtain ⟨_, o, ho, _⟩ := mem_ready.1 hi
          have := (Array.getElem?_eq_some_iff.1 ho).1
          omega
        · obtain ⟨k, hk, hlk'⟩ := hne
          exact absurd hi (tail_waits h2 h3 h1 hinv _ k rfl hk hlk' i h)
    obtain ⟨hun, o, ho, hafter⟩ := mem_ready.1 hi
    have hlooks : ∀ t ∈ o.looksAt ops, tbl a t (T (ss.map fun i => listed.getD i false)) (A.eval (.tmp t)) w := fun t ht => inv.known t (fun j oj hj hoj hlj hdj => by
      obtain ⟨e, he, hb, hon⟩ := (hlk i o hin ho).1 t ht j oj hj hoj hdj
      have h1 := hafter e he hb
      rw [hon, getD_both hlj] at h1; cases h1)
    have hnext : ∀ v w', (∀ t, tbl a t (T (ss.map fun i => listed.getD i false)) (A.eval (.tmp t)) w → tbl a t (T (ss.map fun j => (listed.setIfInBounds i true).getD j false)) (A.eval (.tmp t)) w') → (match o.dst with | some d => tbl a d (T (ss.map fun j => (listed.setIfInBounds i true).getD j false)) v w' | none => True) → C (ss.map fun j => (listed.setIfInBounds i true).getD j false) w' →
        wpAny P .any ops Q (f + (ops.size - n)) (listed.setIfInBounds i true) (A.put o.dst v) w' := fun v w' hmon hp hc' => by
      refine ih (L.erase i) _ _ _ ?_ (hnd'.erase i) (fun j => ?_) (hinv.set hi hin) ⟨hc', by rw [put_sz]; exact inv.sz, by rw [put_df]; exact inv.df, fun t ht => ?_, fun t ht => ?_⟩
      · rw [List.length_erase_of_mem ((hL i).2 ⟨hin, hun⟩), hl]; rfl
      · rw [hnd'.mem_erase_iff, hL j]
        constructor
        · rintro ⟨h1, h2, h3⟩
          exact ⟨h2, by rw [getD_set_ne true (fun e => h1 e.symm)]; exact h3⟩
        · rintro ⟨h2, h3⟩
          by_cases hij : i = j
          · subst hij
            have : i < listed.size := by rw [hinv.size]; omega
            simp [this] at h3
          · rw [getD_set_ne true hij] at h3
            exact ⟨fun e => hij e.symm, h2, h3⟩
      · rw [← inv.kept t ht]
        cases hdo : o.dst with
        | none => rfl
        | some d =>
          have : d ≠ t := fun e => ht (e ▸ hdst i o hin ho d hdo)
          simp [Act.put, Array.getElem?_setIfInBounds_ne this]
      · by_cases hdt : o.dst = some t
        · rw [hdt] at hp
          have e : (A.put o.dst v).eval (.tmp t) = v := by
            rw [hdt]
            have : t < A.tmps.size := by rw [inv.sz]; exact hsz t (hdst i o hin ho t hdt)
            simp [Act.put, Act.eval, this]
          rw [e]; exact hp
        · have e : (A.put o.dst v).eval (.tmp t) = A.eval (.tmp t) := Act.eval_put (fun d h1 h2 => hdt (by rw [h1]; cases h2; rfl))
          rw [e]
          refine hmon t (inv.known t fun j oj hj hoj hl => ?_)
          by_cases hij : i = j
          · subst hij
            have : oj = o := Option.some.inj (hoj.symm.trans ho)
            subst this; exact hdt
          · exact ht j oj hj hoj (by rw [getD_set_ne true hij]; exact hl)
    have hget := cSteps_get _ 0 i o (by rw [List.getElem?_take_of_lt hin, Array.getElem?_toList]; exact ho) hst
    rw [Nat.zero_add] at hget
    have hils : i < listed.size := by rw [hinv.size]; omega
    unfold wpOp
    simp only [ho]
    cases hsi : ss.contains i with
    | true =>
      rw [hsi] at hget
      obtain ⟨hg0, hgo⟩ := hget
      have hw : Region.wanted o (yielded ops A.tmps) = true := by unfold Region.wanted; rw [hg0]
      rw [if_pos hw]
      have hmp : (ss.map fun j => listed.getD j false || Nat.beq j i) = ss.map fun j => (listed.setIfInBounds i true).getD j false := List.map_congr_left (fun j _ => by
        by_cases hij : i = j
        · subst hij
          have : Nat.beq i i = true := Nat.beq_refl i
          simp [hils, this]
        · rw [getD_set_ne false hij]
          have : Nat.beq j i = false := by
            cases hb : Nat.beq j i
            · rfl
            · exact absurd (Nat.eq_of_beq_eq_true hb).symm hij
          simp [this])
      have hrun := hgo (fun j => listed.getD j false) A.eval w (getD_both hun) (fun s hs hw => by
        obtain ⟨os, hos, e, he, hb, hon⟩ := Region.waitsFor_spec hw
        cases hl2 : listed.getD s false
        · rfl
        · have h2 := hinv.closed s os hos hl2 e he hb
          rw [hon, getD_both hun] at h2
          cases h2) (fun s hs hw => by
        obtain ⟨oj, hoj, e, he, hb, hon⟩ := Region.waitsFor_spec hw
        have : oj = o := Option.some.inj (hoj.symm.trans ho)
        subst this
        have h1 := hafter e he hb
        rw [hon] at h1
        exact h1) inv.c (fun _ => rfl) (fun _ => rfl) hlooks
      rw [hmp] at hrun
      exact .inl (wp_of_gOp (fun v w' hk => hnext v w' hk.2.2 hk.2.1 hk.1) hrun)
    | false =>
      rw [hsi] at hget
      have hstep := hget (fun j => listed.getD j false) (fun s hs hw => by
        obtain ⟨os, hos, e, he, hb, hon⟩ := Region.waitsFor_spec hw
        cases hl2 : listed.getD s false
        · rfl
        · have h2 := hinv.closed s os hos hl2 e he hb
          rw [hon, getD_both hun] at h2
          cases h2) A w inv.c hlooks
      have hsame : (ss.map fun j => (listed.setIfInBounds i true).getD j false) = ss.map fun j => listed.getD j false := List.map_congr_left (fun j hj => by
        refine getD_set_ne false (fun e => ?_)
        subst e
        rw [List.contains_iff_mem.2 hj] at hsi
        cases hsi)
      have go : ∀ v w', gPost a (T (ss.map fun j => listed.getD j false)) o w v w' → wpAny P .any ops Q (f + (ops.size - n)) (listed.setIfInBounds i true) (A.put o.dst v) w' := fun v w' hp =>
        hnext v w' (fun t => by rw [hsame]; exact tbl_mono a t _ w w' hp.1 _) (by rw [hsame]; exact hp.2) (by rw [hsame]; exact hCs _ _ _ inv.c hp.1)
      split
      · rename_i hw
        simp only [hw, if_true] at hstep
        exact .inl (wp_of_gOp go hstep)
      · rename_i hw
        simp only [hw] at hstep
        exact go _ _ hstep

theorem wp_region_storeC {id : Nat} {w : World} {l : List Oper} (n : Nat) (ss : List Nat) (ds : List Nat) (T : List Bool → List (Nat × SlotIs)) (C : List Bool → World → Prop) (hTd : ∀ bs, (T bs).map Prod.fst = ds) (hm : P.follows .mixedOrders = true) (hB : gOkB l.toArray n ds = true)
    (hsz : ds.all (fun d => Nat.blt d a.tmps.size) = true) (hss : ss.all (fun i => Nat.blt i n) = true) (hC : C (ss.map fun _ => false) w.drew) (hCs : ∀ bs w w', C bs w → Below w.heap.size w w' → C bs w')
    (hst : cSteps P l.toArray a T C ss 0 (l.take n)) (hf : ∀ w', C (ss.map fun _ => true) w' → gFin a (T (ss.map fun _ => true)) (fun a' => wpList P l.toArray Q (l.drop n) a' w') w' (l.take n) a) :
    (Code.region id l.toArray true).wp P Q a w := by
  refine wp_region_any hm ?_
  have hn : n ≤ l.toArray.size := by
    simp only [gOkB, Bool.and_eq_true, decide_eq_true_eq] at hB
    exact hB.1.1.1.1.1
  have := growC_any (P := P) (ops := l.toArray) (n := n) (a := a) (T := T) (C := C) (ss := ss) (Q := Q) hTd hB (fun i hi => by have := List.all_eq_true.1 hss i hi; simpa [Nat.blt_eq] using this) hCs (fun d hd => by have := List.all_eq_true.1 hsz d hd; simpa [Nat.blt_eq] using this) (by simpa using hst) (by simpa using hf) n (List.range n) (Array.replicate l.toArray.size false) a w.drew (by simp) List.nodup_range
    (fun i => by
      rw [List.mem_range]
      constructor
      · intro h
        have : i < l.length := by have : n ≤ l.length := by simpa using hn
                                  omega
        exact ⟨h, by simp [this]⟩
      · exact fun h => h.1)
    ⟨by simp, fun j oj _ hl => (by rw [getD_replicate_false] at hl; cases hl), fun t _ ht => getD_in (by simpa using ht) (getD_replicate_false _ _)⟩
    ⟨by rw [List.map_congr_left (g := fun _ => false) (fun i _ => getD_replicate_false _ _)]; exact hC, rfl, rfl, fun _ _ => rfl, fun t ht => tbl_out a t _ _ rfl (T _) (fun hmem => by
      rw [hTd] at hmem
      have hd : ((l.toArray.toList.take n).filterMap (·.dst)) = ds := by
        simp only [gOkB, Bool.and_eq_true, decide_eq_true_eq] at hB
        exact hB.1.1.1.2
      rw [← hd] at hmem
      obtain ⟨o, ho, hdo⟩ := List.mem_filterMap.1 hmem
      obtain ⟨i, hi⟩ := List.mem_iff_getElem?.1 ho
      have hin : i < n := by
        rcases Nat.lt_or_ge i n with h | h
        · exact h
        · rw [List.getElem?_eq_none (by simp; omega)] at hi; cases hi
      rw [List.getElem?_take_of_lt hin] at hi
      have hil : i < l.length := by
        rcases Nat.lt_or_ge i l.length with h | h
        · exact h
        · rw [List.getElem?_eq_none h] at hi; cases hi
      exact ht i o hin (by simpa using hi) (by simp [hil]) hdo)⟩
  rwa [show n + (l.toArray.size - n) = l.toArray.size by omega] at this
end
end Go.Proofs.YtbngaajhdaciaaaDoor

/- Contracts: fly.New. -/
set_option linter.unusedVariables false
set_option linter.unusedSimpArgs false
set_option maxRecDepth 8000
namespace Go.Proofs.YtbngaajhdaciaaaDoor
open Go.RowKit Plain

/-- What New goes by: its number in a box, and its result. -/
structure NeSt (q a b : Nat) (w W : World) : Prop where
  lx : LiesF W w.heap.size (dgl q)
  r : StB W (w.heap.size + 1) a b
  fr : ∀ i, W.frozen? ⟨w.heap.size + 1, i, none⟩ = false
  bel : Below w.heap.size w W
theorem NeSt.under {q a b : Nat} {w W W' : World} (h : NeSt q a b w W) {C : Nat} (hb : Below C W W') (hc : w.heap.size + 1 < C) : NeSt q a b w W' :=
  ⟨lies_box h.lx hb (by omega), h.r.under hb hc, fun i => (hb.frozen (p := ⟨w.heap.size + 1, i, none⟩) hc).trans (h.fr i), h.bel.trans (hb.mono (by omega))⟩
theorem NeSt.below {q a b : Nat} {w W W' : World} (h : NeSt q a b w W) (hb : Below W.heap.size W W') : NeSt q a b w W' := h.under hb h.r.lt
theorem neSt_start (w : World) (q : Nat) (e1 e2 : TypeId) : NeSt q 0 0 w ((w.alloc (.cells #[.int .u64 (dgl (q) 0 : Nat), .int .u64 (dgl (q) 1 : Nat), .int .u64 (dgl (q) 2 : Nat), .int .u64 (dgl (q) 3 : Nat), .int .u64 (dgl (q) 4 : Nat), .int .u64 (dgl (q) 5 : Nat), .int .u64 (dgl (q) 6 : Nat), .int .u64 (dgl (q) 7 : Nat)] e1)).alloc (.cells #[.int .u64 0, .int .u64 0, .int .u64 0, .int .u64 0, .int .u64 0, .int .u64 0, .int .u64 0, .int .u64 0, .int .u64 0, .int .u64 0, .int .u64 0, .int .u64 0, .int .u64 0, .int .u64 0, .int .u64 0, .int .u64 0] e2)) := by
  have h1 := (liesF_new w (dgl q) e1).alloc (.cells #[.int .u64 0, .int .u64 0, .int .u64 0, .int .u64 0, .int .u64 0, .int .u64 0, .int .u64 0, .int .u64 0, .int .u64 0, .int .u64 0, .int .u64 0, .int .u64 0, .int .u64 0, .int .u64 0, .int .u64 0, .int .u64 0] e2)
  have h2 := stB_new (w.alloc (.cells #[.int .u64 (dgl (q) 0 : Nat), .int .u64 (dgl (q) 1 : Nat), .int .u64 (dgl (q) 2 : Nat), .int .u64 (dgl (q) 3 : Nat), .int .u64 (dgl (q) 4 : Nat), .int .u64 (dgl (q) 5 : Nat), .int .u64 (dgl (q) 6 : Nat), .int .u64 (dgl (q) 7 : Nat)] e1)) 0 0 e2
  rw [World.size_alloc] at h2
  simp only [dgl_zero] at h2
  refine ⟨h1, ?_, fun i => by simp [go_sem], below_trans (below_allocs _ _) (below_allocs _ _)⟩
  refine ⟨fun i hi => ?_, by rw [dgl_zero]; exact h2.h0, by rw [dgl_zero]; exact h2.h1, by rw [dgl_zero]; exact h2.h2, by rw [dgl_zero]; exact h2.h3, by rw [dgl_zero]; exact h2.h4, by rw [dgl_zero]; exact h2.h5, by rw [dgl_zero]; exact h2.h6, by rw [dgl_zero]; exact h2.h7, h2.lt⟩
  rw [dgl_zero]
  have := h2.lo i hi
  rw [dgl_zero] at this
  exact this

set_option maxHeartbeats 2000000 in
theorem new_any (q : Nat) (hq : q < QQ) (w : World) :
    Calls Tryd.prog 27 #[.agg #[.int .u64 (dgl (q) 0 : Nat), .int .u64 (dgl (q) 1 : Nat), .int .u64 (dgl (q) 2 : Nat), .int .u64 (dgl (q) 3 : Nat), .int .u64 (dgl (q) 4 : Nat), .int .u64 (dgl (q) 5 : Nat), .int .u64 (dgl (q) 6 : Nat), .int .u64 (dgl (q) 7 : Nat)]] w fun e w' => e = .returned (.agg #[.int .u64 (dgl (q) 0 : Nat), .int .u64 (dgl (q) 1 : Nat), .int .u64 (dgl (q) 2 : Nat), .int .u64 (dgl (q) 3 : Nat), .int .u64 (dgl (q) 4 : Nat), .int .u64 (dgl (q) 5 : Nat), .int .u64 (dgl (q) 6 : Nat), .int .u64 (dgl (q) 7 : Nat), .int .u64 (dgl (qz ((q : Int) - 1)) 0 : Nat), .int .u64 (dgl (qz ((q : Int) - 1)) 1 : Nat), .int .u64 (dgl (qz ((q : Int) - 1)) 2 : Nat), .int .u64 (dgl (qz ((q : Int) - 1)) 3 : Nat), .int .u64 (dgl (qz ((q : Int) - 1)) 4 : Nat), .int .u64 (dgl (qz ((q : Int) - 1)) 5 : Nat), .int .u64 (dgl (qz ((q : Int) - 1)) 6 : Nat), .int .u64 (dgl (qz ((q : Int) - 1)) 7 : Nat)]) ∧ Below w.heap.size w w' := by
  have HSB := hide (fun w => wideSub_any q 1 hq (by have := qq_big; omega) w)
  rw [sub_one q hq] at HSB
  have HO1 : Hid (∀ i, i < 8 → dg [1] i = dgl 1 i) := fun i hi => (dig_one (β := 18446744073709551616) (by decide)).2 i
  have HS := hide (neSt_start w q 24 60)
  clear hq
  generalize hov : decide (q < 1) = ov at *
  clear hov
  generalize qz ((q : Int) - 1) = y at *
  go_enter Tryd.func27, Tryd.ntmps27
  go_upto_region 1 with fail
  refine wp_gen (fun W => NeSt q 0 0 w W) HS.out ?_
  clear HS
  rintro W1 h1
  refine wp_region_storeK 10 [8] [6, 7, 8, 9, 5, 10, 11, 3, 4] (fun bs => [(6, .val (.agg #[.int .u64 (dgl (q) 0 : Nat), .int .u64 (dgl (q) 1 : Nat), .int .u64 (dgl (q) 2 : Nat), .int .u64 (dgl (q) 3 : Nat), .int .u64 (dgl (q) 4 : Nat), .int .u64 (dgl (q) 5 : Nat), .int .u64 (dgl (q) 6 : Nat), .int .u64 (dgl (q) 7 : Nat)])), (7, bif bs.headD false then SlotIs.any  else SlotIs.rd [1]), (8, .val (.agg #[.int .u64 (dgl (1) 0 : Nat), .int .u64 (dgl (1) 1 : Nat), .int .u64 (dgl (1) 2 : Nat), .int .u64 (dgl (1) 3 : Nat), .int .u64 (dgl (1) 4 : Nat), .int .u64 (dgl (1) 5 : Nat), .int .u64 (dgl (1) 6 : Nat), .int .u64 (dgl (1) 7 : Nat)])), (9, .val (.tuple #[.agg #[.int .u64 (dgl (y) 0 : Nat), .int .u64 (dgl (y) 1 : Nat), .int .u64 (dgl (y) 2 : Nat), .int .u64 (dgl (y) 3 : Nat), .int .u64 (dgl (y) 4 : Nat), .int .u64 (dgl (y) 5 : Nat), .int .u64 (dgl (y) 6 : Nat), .int .u64 (dgl (y) 7 : Nat)], .bool ov])), (5, .val (.tuple #[.agg #[.int .u64 (dgl (y) 0 : Nat), .int .u64 (dgl (y) 1 : Nat), .int .u64 (dgl (y) 2 : Nat), .int .u64 (dgl (y) 3 : Nat), .int .u64 (dgl (y) 4 : Nat), .int .u64 (dgl (y) 5 : Nat), .int .u64 (dgl (y) 6 : Nat), .int .u64 (dgl (y) 7 : Nat)], .bool ov])), (10, .val (.agg #[.int .u64 (dgl (y) 0 : Nat), .int .u64 (dgl (y) 1 : Nat), .int .u64 (dgl (y) 2 : Nat), .int .u64 (dgl (y) 3 : Nat), .int .u64 (dgl (y) 4 : Nat), .int .u64 (dgl (y) 5 : Nat), .int .u64 (dgl (y) 6 : Nat), .int .u64 (dgl (y) 7 : Nat)])), (11, .val (.bool ov)), (3, bif bs.headD false then SlotIs.box (w.heap.size + 2) (dgl y) else SlotIs.box (w.heap.size + 2) (fun _ => 0)), (4, .val (.bool ov))])
    (fun _ W => NeSt q 0 0 w W) (fun bs => rfl) mixedOk (by kernel_rfl) (by kernel_rfl) (by kernel_rfl) (h1.below (Below.refl _ _).drew) (fun bs W W' h hb => h.below hb) ?_ ?_
  · refine kSt rfl (fun φ hφ => gStep_run rfl ?_) ?_
    · intro ρ W hC hc hf hL
      have e1 : ρ (.tmp 1) = .pointer (some ⟨w.heap.size, 0, none⟩) := hL 1 (by decide +kernel)
      have hl := hC.lx.1
      simp [go_sem, hc, hf, e1, hl]
      exact ⟨Below.refl _ _, rfl⟩
    refine kSt rfl (fun φ hφ => gStep_run rfl ?_) ?_
    · intro ρ W hC hc hf hL
      have hφ0 : φ 8 = false := hφ 8 (by simp) (by kernel_rfl)
      simp [go_sem, hc, hf]
      refine ⟨below_allocs _ _, ?_⟩
      show (bif φ 8 then SlotIs.any else SlotIs.rd [1]).R _ _
      rw [hφ0]
      exact Rd.lit (mk := mk64) W 22 [.int .u64 1] [1] rfl 1 (Nat.le_refl 1) (by decide)
    refine kSt rfl (fun φ hφ => gStep_run rfl ?_) ?_
    · intro ρ W hC hc hf hL
      have hφ0 : φ 8 = false := hφ 8 (by simp) (by kernel_rfl)
      have b7 : (bif φ 8 then SlotIs.any  else SlotIs.rd [1]).R (ρ (.tmp 7)) W := hL 7 (by decide +kernel)
      rw [hφ0] at b7
      simp [go_sem, hc, hf]
      refine (wideOf_any [1] 1 _ _ b7 HO1.out).mono ?_
      rintro e w' ⟨rfl, hb⟩
      exact ⟨_, rfl, by first | exact hb | (subst hb; exact Below.refl _ _), rfl⟩
    refine kSt rfl (fun φ hφ => gStep_run rfl ?_) ?_
    · intro ρ W hC hc hf hL
      have e6 : ρ (.tmp 6) = .agg #[.int .u64 (dgl (q) 0 : Nat), .int .u64 (dgl (q) 1 : Nat), .int .u64 (dgl (q) 2 : Nat), .int .u64 (dgl (q) 3 : Nat), .int .u64 (dgl (q) 4 : Nat), .int .u64 (dgl (q) 5 : Nat), .int .u64 (dgl (q) 6 : Nat), .int .u64 (dgl (q) 7 : Nat)] := hL 6 (by decide +kernel)
      have e8 : ρ (.tmp 8) = .agg #[.int .u64 (dgl (1) 0 : Nat), .int .u64 (dgl (1) 1 : Nat), .int .u64 (dgl (1) 2 : Nat), .int .u64 (dgl (1) 3 : Nat), .int .u64 (dgl (1) 4 : Nat), .int .u64 (dgl (1) 5 : Nat), .int .u64 (dgl (1) 6 : Nat), .int .u64 (dgl (1) 7 : Nat)] := hL 8 (by decide +kernel)
      simp [go_sem, hc, hf, e6, e8]
      refine (HSB.out W).mono ?_
      rintro e w' ⟨rfl, hb⟩
      exact ⟨_, rfl, by first | exact hb | (subst hb; exact Below.refl _ _), rfl⟩
    refine kSt rfl (fun φ hφ => gStep_run rfl (gRun_move 9 5 (.inl rfl) rfl (by decide +kernel) (fun v w h => h))) ?_
    refine kSt rfl (fun φ hφ => gStep_run rfl ?_) ?_
    · intro ρ W hC hc hf hL
      have e5 : ρ (.tmp 5) = .tuple #[.agg #[.int .u64 (dgl (y) 0 : Nat), .int .u64 (dgl (y) 1 : Nat), .int .u64 (dgl (y) 2 : Nat), .int .u64 (dgl (y) 3 : Nat), .int .u64 (dgl (y) 4 : Nat), .int .u64 (dgl (y) 5 : Nat), .int .u64 (dgl (y) 6 : Nat), .int .u64 (dgl (y) 7 : Nat)], .bool ov] := hL 5 (by decide +kernel)
      simp [go_sem, hc, hf, e5]
      exact ⟨Below.refl _ _, rfl⟩
    refine kSt rfl (fun φ hφ => gStep_run rfl ?_) ?_
    · intro ρ W hC hc hf hL
      have e5 : ρ (.tmp 5) = .tuple #[.agg #[.int .u64 (dgl (y) 0 : Nat), .int .u64 (dgl (y) 1 : Nat), .int .u64 (dgl (y) 2 : Nat), .int .u64 (dgl (y) 3 : Nat), .int .u64 (dgl (y) 4 : Nat), .int .u64 (dgl (y) 5 : Nat), .int .u64 (dgl (y) 6 : Nat), .int .u64 (dgl (y) 7 : Nat)], .bool ov] := hL 5 (by decide +kernel)
      simp [go_sem, hc, hf, e5]
      exact ⟨Below.refl _ _, rfl⟩
    refine kSt rfl (fun φ hφ => gStep_run rfl ?_) ?_
    · intro ρ W hC hc hf hL
      have hφ0 : φ 8 = false := hφ 8 (by simp) (by kernel_rfl)
      simp [go_sem, hc, hf]
      refine ⟨below_allocs _ _, ?_⟩
      show (bif φ 8 then SlotIs.box (w.heap.size + 2) (dgl y) else SlotIs.box (w.heap.size + 2) (fun _ => 0)).R _ _
      rw [hφ0]
      exact ⟨_, rfl, hC.r.lt, liesF_new _ (fun _ => 0) _, fun i => by simp [go_sem]⟩
    refine kStS rfl ⟨rfl, rfl, ?_⟩ ?_
    · intro φ ρ W hφ hC hc hL
      have b3 := hL 3 (by decide +kernel)
      have e10 : ρ (.tmp 10) = .agg #[.int .u64 (dgl (y) 0 : Nat), .int .u64 (dgl (y) 1 : Nat), .int .u64 (dgl (y) 2 : Nat), .int .u64 (dgl (y) 3 : Nat), .int .u64 (dgl (y) 4 : Nat), .int .u64 (dgl (y) 5 : Nat), .int .u64 (dgl (y) 6 : Nat), .int .u64 (dgl (y) 7 : Nat)] := hL 10 (by decide +kernel)
      have bx : (bif φ 8 then SlotIs.box (w.heap.size + 2) (dgl y) else SlotIs.box (w.heap.size + 2) (fun _ => 0)).R (ρ (.tmp 3)) W := hL 3 (by decide +kernel)
      rw [hφ] at bx
      obtain ⟨px, ex, qx, lx, zx⟩ := bx
      have hz := lx.1
      have hzl := lx.2
      refine gUpon_of ((((((((W.setCell ⟨px, 0, none⟩ (.int .u64 (dgl y 0 : Nat))).setCell ⟨px, 1, none⟩ (.int .u64 (dgl y 1 : Nat))).setCell ⟨px, 2, none⟩ (.int .u64 (dgl y 2 : Nat))).setCell ⟨px, 3, none⟩ (.int .u64 (dgl y 3 : Nat))).setCell ⟨px, 4, none⟩ (.int .u64 (dgl y 4 : Nat))).setCell ⟨px, 5, none⟩ (.int .u64 (dgl y 5 : Nat))).setCell ⟨px, 6, none⟩ (.int .u64 (dgl y 6 : Nat))).setCell ⟨px, 7, none⟩ (.int .u64 (dgl y 7 : Nat))) ?_ (fun _ => ?_)
      · simp [go_sem, hc, e10, ex, hz, hzl, zx, gUpon]
      have hs8 := below_set8 (Below.refl (w.heap.size + 2) W) px qx (.int .u64 (dgl y 0 : Nat)) (.int .u64 (dgl y 1 : Nat)) (.int .u64 (dgl y 2 : Nat)) (.int .u64 (dgl y 3 : Nat)) (.int .u64 (dgl y 4 : Nat)) (.int .u64 (dgl y 5 : Nat)) (.int .u64 (dgl y 6 : Nat)) (.int .u64 (dgl y 7 : Nat))
      refine ⟨hC.under hs8 (by omega), fun t => ?_⟩
      refine (tbl_imp rfl (fun _ => val_imp) (tbl_imp rfl (fun _ _ => ?_) (tbl_imp rfl (fun _ => val_imp) (tbl_imp rfl (fun _ => val_imp) (tbl_imp rfl (fun _ => val_imp) (tbl_imp rfl (fun _ => val_imp) (tbl_imp rfl (fun _ => val_imp) (tbl_imp rfl (fun ht h => ?_) (tbl_imp rfl (fun _ => val_imp) tbl_nil_imp)))))))))
      · show (bif (φ 8 || true) then SlotIs.any else SlotIs.rd [1]).R _ _
        rw [Bool.or_true]
        trivial
      · subst ht
        show (bif (φ 8 || true) then SlotIs.box (w.heap.size + 2) (dgl y) else SlotIs.box (w.heap.size + 2) (fun _ => 0)).R _ _
        rw [Bool.or_true]
        exact ⟨px, ex, qx, set8_same W px (dgl y) (fun _ => 0) lx, fun i => by simpa [go_sem] using zx i⟩
    refine kSt rfl (fun φ hφ => gStep_run rfl (gRun_move 11 4 (.inr rfl) rfl (by decide +kernel) (fun v w h => h))) ?_
    exact kSt0
  · intro W hC
    refine gFi 6 rfl ?_
    rintro _ rfl
    refine gFi 7 rfl ?_
    rintro u7 b7
    refine gFi 8 rfl ?_
    rintro _ rfl
    refine gFi 9 rfl ?_
    rintro _ rfl
    refine gFi 5 rfl ?_
    rintro _ rfl
    refine gFi 10 rfl ?_
    rintro _ rfl
    refine gFi 11 rfl ?_
    rintro _ rfl
    refine gFi 3 rfl ?_
    rintro _ ⟨p3, rfl, q3, l3, z3⟩
    refine gFiN rfl ?_
    refine gFi 4 rfl ?_
    rintro _ rfl
    refine gFi0 ?_
    simp only [List.drop_succ_cons, List.drop_zero, Act.put, List.setIfInBounds_toArray, List.set_cons_succ, List.set_cons_zero]
    have hly := l3.1
    have hlx := hC.lx.1
    have HS := hide hC
    clear hC h1 l3 z3 b7 q3
    have hr := HS.out.r.lo
    have hr0 := HS.out.r.h0
    have hr1 := HS.out.r.h1
    have hr2 := HS.out.r.h2
    have hr3 := HS.out.r.h3
    have hr4 := HS.out.r.h4
    have hr5 := HS.out.r.h5
    have hr6 := HS.out.r.h6
    have hr7 := HS.out.r.h7
    have hrl := HS.out.r.lt
    have hrf := HS.out.fr
    have HBE := hide HS.out.bel
    clear HS
    go_wp2
    exact bodyPost_ret (v := .agg #[.int .u64 (dgl (q) 0 : Nat), .int .u64 (dgl (q) 1 : Nat), .int .u64 (dgl (q) 2 : Nat), .int .u64 (dgl (q) 3 : Nat), .int .u64 (dgl (q) 4 : Nat), .int .u64 (dgl (q) 5 : Nat), .int .u64 (dgl (q) 6 : Nat), .int .u64 (dgl (q) 7 : Nat), .int .u64 (dgl (y) 0 : Nat), .int .u64 (dgl (y) 1 : Nat), .int .u64 (dgl (y) 2 : Nat), .int .u64 (dgl (y) 3 : Nat), .int .u64 (dgl (y) 4 : Nat), .int .u64 (dgl (y) 5 : Nat), .int .u64 (dgl (y) 6 : Nat), .int .u64 (dgl (y) 7 : Nat)]) (by simp [results, Tryd.results27, go_sem, hr, hr0, hr1, hr2, hr3, hr4, hr5, hr6, hr7, hrl]) rfl ⟨rfl, below_set16 HBE.out _ (by omega) _ _⟩
    

end Go.Proofs.YtbngaajhdaciaaaDoor

