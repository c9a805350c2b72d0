/- Contracts and laws: UnpE. -/
import Derived.Test.YtidfegilddlglaaDoorXUnC
/- Contracts: the document's Size. -/
set_option linter.unusedVariables false
set_option linter.unusedSimpArgs false
set_option maxRecDepth 8000
namespace Go.Proofs.YtidfegilddlglaaDoor
open Go.RowKit Plain

theorem ret_i64 {a b : Int} (h : a = b) : Ending.returned (.int .i64 a) = Ending.returned (.int .i64 b) := by rw [h]
structure SzSt (n1 n2 : Bool) (v1 v2 : Value) (ea eb : Int) (a b K : Nat) (w W : World) : Prop where
  a0 : W.cell? ⟨w.heap.size, 0, none⟩ = some (.bool n1)
  a1 : W.cell? ⟨w.heap.size, 1, none⟩ = some v1
  a2 : W.cell? ⟨w.heap.size, 2, none⟩ = some (.int .i64 ea)
  b0 : W.cell? ⟨w.heap.size + 1, 0, none⟩ = some (.bool n2)
  b1 : W.cell? ⟨w.heap.size + 1, 1, none⟩ = some v2
  b2 : W.cell? ⟨w.heap.size + 1, 2, none⟩ = some (.int .i64 eb)
  va : BigV W v1 a K
  vb : BigV W v2 b K
  lt : w.heap.size + 1 < W.heap.size
  bel : Below w.heap.size w W
theorem SzSt.below {n1 n2 : Bool} {v1 v2 : Value} {ea eb : Int} {a b K : Nat} {w W W' : World} (h : SzSt n1 n2 v1 v2 ea eb a b K w W) (hb : Below W.heap.size W W') : SzSt n1 n2 v1 v2 ea eb a b K w W' := by
  have h1 := h.lt
  have h0 : w.heap.size < W.heap.size := by omega
  exact ⟨(hb.cell (p := ⟨w.heap.size, 0, none⟩) h0).trans h.a0, (hb.cell (p := ⟨w.heap.size, 1, none⟩) h0).trans h.a1, (hb.cell (p := ⟨w.heap.size, 2, none⟩) h0).trans h.a2, (hb.cell (p := ⟨w.heap.size + 1, 0, none⟩) h1).trans h.b0, (hb.cell (p := ⟨w.heap.size + 1, 1, none⟩) h1).trans h.b1, (hb.cell (p := ⟨w.heap.size + 1, 2, none⟩) h1).trans h.b2, h.va.below hb, h.vb.below hb, Nat.lt_of_lt_of_le h.lt hb.size, below_trans h.bel hb⟩
theorem szSt_start (n1 n2 : Bool) (ao1 ao2 : Option Addr) (l1 ca1 l2 ca2 : Nat) (ea eb : Int) (a b K : Nat) (w : World) (ha : BigV w (.slice ao1 l1 ca1) a K) (hb : BigV w (.slice ao2 l2 ca2) b K) :
    SzSt n1 n2 (.slice ao1 l1 ca1) (.slice ao2 l2 ca2) ea eb a b K w ((w.alloc (.cells #[.bool n1, .slice ao1 l1 ca1, .int .i64 ea] 56)).alloc (.cells #[.bool n2, .slice ao2 l2 ca2, .int .i64 eb] 56)) :=
  ⟨by simp [go_sem], by simp [go_sem], by simp [go_sem], by simp [go_sem], by simp [go_sem], by simp [go_sem], (ha.below (below_allocs _ _)).below (below_allocs _ _), (hb.below (below_allocs _ _)).below (below_allocs _ _), by simp, below_trans (below_allocs _ _) (below_allocs _ _)⟩

set_option maxHeartbeats 2000000 in
theorem size_ZZ (n1 n2 : Bool) (ao1 ao2 : Option Addr) (l1 ca1 l2 ca2 : Nat) (ea eb : Int) (a b K x y : Nat) (r : Int)
    (HLA : Hid (∀ w, BigV w (.slice ao1 l1 ca1) a K → Calls Tryd.prog 29 #[.slice ao1 l1 ca1] w fun e w' => e = .returned (.int .i64 0) ∧ w' = w))
    (HLB : Hid (∀ w, BigV w (.slice ao2 l2 ca2) b K → Calls Tryd.prog 29 #[.slice ao2 l2 ca2] w fun e w' => e = .returned (.int .i64 0) ∧ w' = w))
    (hea : -100000000 ≤ ea ∧ ea ≤ 100000000) (heb : -100000000 ≤ eb ∧ eb ≤ 100000000) (w : World) (hva : BigV w (.slice ao1 l1 ca1) a K) (hvb : BigV w (.slice ao2 l2 ca2) b K) :
    Calls Tryd.prog 39 #[.agg #[.bool n1, .slice ao1 l1 ca1, .int .i64 ea], .agg #[.bool n2, .slice ao2 l2 ca2, .int .i64 eb]] w fun e w' => e = .returned (.int .i64 0) ∧ Below w.heap.size w w' := by
  have HST := hide (szSt_start n1 n2 ao1 ao2 l1 ca1 l2 ca2 ea eb a b K w hva hvb)
  clear hva hvb
  go_enter Tryd.func39, Tryd.ntmps39
  go_upto_region 1 with fail
  refine wp_gen (fun W => SzSt n1 n2 (.slice ao1 l1 ca1) (.slice ao2 l2 ca2) ea eb a b K w W) HST.out ?_
  clear HST
  rintro W1 h1
  refine wp_region_grow 8 [(8, .val (.pointer (some ⟨w.heap.size, 1, none⟩))), (9, .val (.slice ao1 l1 ca1)), (10, .val (.int .i64 0)), (11, .val (.pointer (some ⟨w.heap.size + 1, 1, none⟩))), (12, .val (.slice ao2 l2 ca2)), (13, .val (.int .i64 0)), (5, .val (.int .i64 0)), (6, .val (.int .i64 0))]
    (fun W => SzSt n1 n2 (.slice ao1 l1 ca1) (.slice ao2 l2 ca2) ea eb a b K w W) mixedOk (by kernel_rfl) (by kernel_rfl) (h1.below (Below.refl _ _).drew) (fun W W' h hb => h.below hb) ?_ ?_
  · refine gSt (gStep_run rfl ?_) ?_
    · intro ρ W hC hc hf hL
      have e2 : ρ (.tmp 2) = .pointer (some ⟨w.heap.size, 0, none⟩) := hL 2 (by decide +kernel)
      simp [go_sem, hc, hf, e2]
      exact ⟨Below.refl _ _, rfl⟩
    refine gSt (gStep_run rfl ?_) ?_
    · intro ρ W hC hc hf hL
      have e8 : ρ (.tmp 8) = .pointer (some ⟨w.heap.size, 1, none⟩) := hL 8 (by decide +kernel)
      have l0 := hC.a1
      simp [go_sem, hc, hf, e8, l0]
      exact ⟨Below.refl _ _, rfl⟩
    refine gSt (gStep_run rfl ?_) ?_
    · intro ρ W hC hc hf hL
      have e9 : ρ (.tmp 9) = .slice ao1 l1 ca1 := hL 9 (by decide +kernel)
      simp [go_sem, hc, hf, e9]
      refine (HLA.out W hC.va).mono ?_
      rintro e w' ⟨rfl, hb⟩
      exact ⟨_, rfl, by first | exact hb | (subst hb; exact Below.refl _ _), rfl⟩
    refine gSt (gStep_run rfl ?_) ?_
    · intro ρ W hC hc hf hL
      have e3 : ρ (.tmp 3) = .pointer (some ⟨w.heap.size + 1, 0, none⟩) := hL 3 (by decide +kernel)
      simp [go_sem, hc, hf, e3]
      exact ⟨Below.refl _ _, rfl⟩
    refine gSt (gStep_run rfl ?_) ?_
    · intro ρ W hC hc hf hL
      have e11 : ρ (.tmp 11) = .pointer (some ⟨w.heap.size + 1, 1, none⟩) := hL 11 (by decide +kernel)
      have l0 := hC.b1
      simp [go_sem, hc, hf, e11, l0]
      exact ⟨Below.refl _ _, rfl⟩
    refine gSt (gStep_run rfl ?_) ?_
    · intro ρ W hC hc hf hL
      have e12 : ρ (.tmp 12) = .slice ao2 l2 ca2 := hL 12 (by decide +kernel)
      simp [go_sem, hc, hf, e12]
      refine (HLB.out W hC.vb).mono ?_
      rintro e w' ⟨rfl, hb⟩
      exact ⟨_, rfl, by first | exact hb | (subst hb; exact Below.refl _ _), rfl⟩
    refine gSt (gStep_run rfl (gRun_move 10 5 (.inr rfl) rfl (by decide +kernel) (fun v w h => h))) ?_
    refine gSt (gStep_run rfl (gRun_move 13 6 (.inr rfl) rfl (by decide +kernel) (fun v w h => h))) ?_
    exact gSt0
  · intro W hC
    refine gFi 8 rfl ?_
    rintro _ rfl
    refine gFi 9 rfl ?_
    rintro _ rfl
    refine gFi 10 rfl ?_
    rintro _ rfl
    refine gFi 11 rfl ?_
    rintro _ rfl
    refine gFi 12 rfl ?_
    rintro _ rfl
    refine gFi 13 rfl ?_
    rintro _ rfl
    refine gFi 5 rfl ?_
    rintro _ rfl
    refine gFi 6 rfl ?_
    rintro _ rfl
    refine gFi0 ?_
    simp only [List.drop_succ_cons, List.drop_zero, Act.put, List.setIfInBounds_toArray, List.set_cons_succ, List.set_cons_zero]
    have HB := hide hC.bel
    have HQ : Hid (min (0 : Int) 1 - min 0 1 = 0) := by unfold Hid; decide
    clear hC h1
    go_wp2
    go_ret
    exact ⟨ret_i64 HQ.out, HB.out⟩

set_option maxHeartbeats 2000000 in
theorem size_ZP (n1 n2 : Bool) (ao1 ao2 : Option Addr) (l1 ca1 l2 ca2 : Nat) (ea eb : Int) (a b K x y : Nat) (r : Int)
    (HLA : Hid (∀ w, BigV w (.slice ao1 l1 ca1) a K → Calls Tryd.prog 29 #[.slice ao1 l1 ca1] w fun e w' => e = .returned (.int .i64 0) ∧ w' = w))
    (HLB : Hid (∀ w, BigV w (.slice ao2 l2 ca2) b K → Calls Tryd.prog 29 #[.slice ao2 l2 ca2] w fun e w' => e = .returned (.int .i64 (y : Nat)) ∧ w' = w))
    (hy : 1 ≤ y ∧ y ≤ 100000)
    (hea : -100000000 ≤ ea ∧ ea ≤ 100000000) (heb : -100000000 ≤ eb ∧ eb ≤ 100000000) (w : World) (hva : BigV w (.slice ao1 l1 ca1) a K) (hvb : BigV w (.slice ao2 l2 ca2) b K) :
    Calls Tryd.prog 39 #[.agg #[.bool n1, .slice ao1 l1 ca1, .int .i64 ea], .agg #[.bool n2, .slice ao2 l2 ca2, .int .i64 eb]] w fun e w' => e = .returned (.int .i64 (-1)) ∧ Below w.heap.size w w' := by
  have HST := hide (szSt_start n1 n2 ao1 ao2 l1 ca1 l2 ca2 ea eb a b K w hva hvb)
  clear hva hvb
  go_enter Tryd.func39, Tryd.ntmps39
  go_upto_region 1 with fail
  refine wp_gen (fun W => SzSt n1 n2 (.slice ao1 l1 ca1) (.slice ao2 l2 ca2) ea eb a b K w W) HST.out ?_
  clear HST
  rintro W1 h1
  refine wp_region_grow 8 [(8, .val (.pointer (some ⟨w.heap.size, 1, none⟩))), (9, .val (.slice ao1 l1 ca1)), (10, .val (.int .i64 0)), (11, .val (.pointer (some ⟨w.heap.size + 1, 1, none⟩))), (12, .val (.slice ao2 l2 ca2)), (13, .val (.int .i64 (y : Nat))), (5, .val (.int .i64 0)), (6, .val (.int .i64 (y : Nat)))]
    (fun W => SzSt n1 n2 (.slice ao1 l1 ca1) (.slice ao2 l2 ca2) ea eb a b K w W) mixedOk (by kernel_rfl) (by kernel_rfl) (h1.below (Below.refl _ _).drew) (fun W W' h hb => h.below hb) ?_ ?_
  · refine gSt (gStep_run rfl ?_) ?_
    · intro ρ W hC hc hf hL
      have e2 : ρ (.tmp 2) = .pointer (some ⟨w.heap.size, 0, none⟩) := hL 2 (by decide +kernel)
      simp [go_sem, hc, hf, e2]
      exact ⟨Below.refl _ _, rfl⟩
    refine gSt (gStep_run rfl ?_) ?_
    · intro ρ W hC hc hf hL
      have e8 : ρ (.tmp 8) = .pointer (some ⟨w.heap.size, 1, none⟩) := hL 8 (by decide +kernel)
      have l0 := hC.a1
      simp [go_sem, hc, hf, e8, l0]
      exact ⟨Below.refl _ _, rfl⟩
    refine gSt (gStep_run rfl ?_) ?_
    · intro ρ W hC hc hf hL
      have e9 : ρ (.tmp 9) = .slice ao1 l1 ca1 := hL 9 (by decide +kernel)
      simp [go_sem, hc, hf, e9]
      refine (HLA.out W hC.va).mono ?_
      rintro e w' ⟨rfl, hb⟩
      exact ⟨_, rfl, by first | exact hb | (subst hb; exact Below.refl _ _), rfl⟩
    refine gSt (gStep_run rfl ?_) ?_
    · intro ρ W hC hc hf hL
      have e3 : ρ (.tmp 3) = .pointer (some ⟨w.heap.size + 1, 0, none⟩) := hL 3 (by decide +kernel)
      simp [go_sem, hc, hf, e3]
      exact ⟨Below.refl _ _, rfl⟩
    refine gSt (gStep_run rfl ?_) ?_
    · intro ρ W hC hc hf hL
      have e11 : ρ (.tmp 11) = .pointer (some ⟨w.heap.size + 1, 1, none⟩) := hL 11 (by decide +kernel)
      have l0 := hC.b1
      simp [go_sem, hc, hf, e11, l0]
      exact ⟨Below.refl _ _, rfl⟩
    refine gSt (gStep_run rfl ?_) ?_
    · intro ρ W hC hc hf hL
      have e12 : ρ (.tmp 12) = .slice ao2 l2 ca2 := hL 12 (by decide +kernel)
      simp [go_sem, hc, hf, e12]
      refine (HLB.out W hC.vb).mono ?_
      rintro e w' ⟨rfl, hb⟩
      exact ⟨_, rfl, by first | exact hb | (subst hb; exact Below.refl _ _), rfl⟩
    refine gSt (gStep_run rfl (gRun_move 10 5 (.inr rfl) rfl (by decide +kernel) (fun v w h => h))) ?_
    refine gSt (gStep_run rfl (gRun_move 13 6 (.inr rfl) rfl (by decide +kernel) (fun v w h => h))) ?_
    exact gSt0
  · intro W hC
    refine gFi 8 rfl ?_
    rintro _ rfl
    refine gFi 9 rfl ?_
    rintro _ rfl
    refine gFi 10 rfl ?_
    rintro _ rfl
    refine gFi 11 rfl ?_
    rintro _ rfl
    refine gFi 12 rfl ?_
    rintro _ rfl
    refine gFi 13 rfl ?_
    rintro _ rfl
    refine gFi 5 rfl ?_
    rintro _ rfl
    refine gFi 6 rfl ?_
    rintro _ rfl
    refine gFi0 ?_
    simp only [List.drop_succ_cons, List.drop_zero, Act.put, List.setIfInBounds_toArray, List.set_cons_succ, List.set_cons_zero]
    have HB := hide hC.bel
    have HQ : Hid (min (0 : Int) 1 - min (y : Int) 1 = -1) := by unfold Hid; omega
    clear hC h1
    go_wp2
    go_ret
    exact ⟨ret_i64 HQ.out, HB.out⟩

set_option maxHeartbeats 2000000 in
theorem size_PZ (n1 n2 : Bool) (ao1 ao2 : Option Addr) (l1 ca1 l2 ca2 : Nat) (ea eb : Int) (a b K x y : Nat) (r : Int)
    (HLA : Hid (∀ w, BigV w (.slice ao1 l1 ca1) a K → Calls Tryd.prog 29 #[.slice ao1 l1 ca1] w fun e w' => e = .returned (.int .i64 (x : Nat)) ∧ w' = w))
    (HLB : Hid (∀ w, BigV w (.slice ao2 l2 ca2) b K → Calls Tryd.prog 29 #[.slice ao2 l2 ca2] w fun e w' => e = .returned (.int .i64 0) ∧ w' = w))
    (hx : 1 ≤ x ∧ x ≤ 100000)
    (hea : -100000000 ≤ ea ∧ ea ≤ 100000000) (heb : -100000000 ≤ eb ∧ eb ≤ 100000000) (w : World) (hva : BigV w (.slice ao1 l1 ca1) a K) (hvb : BigV w (.slice ao2 l2 ca2) b K) :
    Calls Tryd.prog 39 #[.agg #[.bool n1, .slice ao1 l1 ca1, .int .i64 ea], .agg #[.bool n2, .slice ao2 l2 ca2, .int .i64 eb]] w fun e w' => e = .returned (.int .i64 1) ∧ Below w.heap.size w w' := by
  have HST := hide (szSt_start n1 n2 ao1 ao2 l1 ca1 l2 ca2 ea eb a b K w hva hvb)
  clear hva hvb
  go_enter Tryd.func39, Tryd.ntmps39
  go_upto_region 1 with fail
  refine wp_gen (fun W => SzSt n1 n2 (.slice ao1 l1 ca1) (.slice ao2 l2 ca2) ea eb a b K w W) HST.out ?_
  clear HST
  rintro W1 h1
  refine wp_region_grow 8 [(8, .val (.pointer (some ⟨w.heap.size, 1, none⟩))), (9, .val (.slice ao1 l1 ca1)), (10, .val (.int .i64 (x : Nat))), (11, .val (.pointer (some ⟨w.heap.size + 1, 1, none⟩))), (12, .val (.slice ao2 l2 ca2)), (13, .val (.int .i64 0)), (5, .val (.int .i64 (x : Nat))), (6, .val (.int .i64 0))]
    (fun W => SzSt n1 n2 (.slice ao1 l1 ca1) (.slice ao2 l2 ca2) ea eb a b K w W) mixedOk (by kernel_rfl) (by kernel_rfl) (h1.below (Below.refl _ _).drew) (fun W W' h hb => h.below hb) ?_ ?_
  · refine gSt (gStep_run rfl ?_) ?_
    · intro ρ W hC hc hf hL
      have e2 : ρ (.tmp 2) = .pointer (some ⟨w.heap.size, 0, none⟩) := hL 2 (by decide +kernel)
      simp [go_sem, hc, hf, e2]
      exact ⟨Below.refl _ _, rfl⟩
    refine gSt (gStep_run rfl ?_) ?_
    · intro ρ W hC hc hf hL
      have e8 : ρ (.tmp 8) = .pointer (some ⟨w.heap.size, 1, none⟩) := hL 8 (by decide +kernel)
      have l0 := hC.a1
      simp [go_sem, hc, hf, e8, l0]
      exact ⟨Below.refl _ _, rfl⟩
    refine gSt (gStep_run rfl ?_) ?_
    · intro ρ W hC hc hf hL
      have e9 : ρ (.tmp 9) = .slice ao1 l1 ca1 := hL 9 (by decide +kernel)
      simp [go_sem, hc, hf, e9]
      refine (HLA.out W hC.va).mono ?_
      rintro e w' ⟨rfl, hb⟩
      exact ⟨_, rfl, by first | exact hb | (subst hb; exact Below.refl _ _), rfl⟩
    refine gSt (gStep_run rfl ?_) ?_
    · intro ρ W hC hc hf hL
      have e3 : ρ (.tmp 3) = .pointer (some ⟨w.heap.size + 1, 0, none⟩) := hL 3 (by decide +kernel)
      simp [go_sem, hc, hf, e3]
      exact ⟨Below.refl _ _, rfl⟩
    refine gSt (gStep_run rfl ?_) ?_
    · intro ρ W hC hc hf hL
      have e11 : ρ (.tmp 11) = .pointer (some ⟨w.heap.size + 1, 1, none⟩) := hL 11 (by decide +kernel)
      have l0 := hC.b1
      simp [go_sem, hc, hf, e11, l0]
      exact ⟨Below.refl _ _, rfl⟩
    refine gSt (gStep_run rfl ?_) ?_
    · intro ρ W hC hc hf hL
      have e12 : ρ (.tmp 12) = .slice ao2 l2 ca2 := hL 12 (by decide +kernel)
      simp [go_sem, hc, hf, e12]
      refine (HLB.out W hC.vb).mono ?_
      rintro e w' ⟨rfl, hb⟩
      exact ⟨_, rfl, by first | exact hb | (subst hb; exact Below.refl _ _), rfl⟩
    refine gSt (gStep_run rfl (gRun_move 10 5 (.inr rfl) rfl (by decide +kernel) (fun v w h => h))) ?_
    refine gSt (gStep_run rfl (gRun_move 13 6 (.inr rfl) rfl (by decide +kernel) (fun v w h => h))) ?_
    exact gSt0
  · intro W hC
    refine gFi 8 rfl ?_
    rintro _ rfl
    refine gFi 9 rfl ?_
    rintro _ rfl
    refine gFi 10 rfl ?_
    rintro _ rfl
    refine gFi 11 rfl ?_
    rintro _ rfl
    refine gFi 12 rfl ?_
    rintro _ rfl
    refine gFi 13 rfl ?_
    rintro _ rfl
    refine gFi 5 rfl ?_
    rintro _ rfl
    refine gFi 6 rfl ?_
    rintro _ rfl
    refine gFi0 ?_
    simp only [List.drop_succ_cons, List.drop_zero, Act.put, List.setIfInBounds_toArray, List.set_cons_succ, List.set_cons_zero]
    have HB := hide hC.bel
    have HQ : Hid (min (x : Int) 1 - min 0 1 = 1) := by unfold Hid; omega
    clear hC h1
    go_wp2
    go_ret
    exact ⟨ret_i64 HQ.out, HB.out⟩

set_option maxHeartbeats 2000000 in
theorem size_T (n1 n2 : Bool) (ao1 ao2 : Option Addr) (l1 ca1 l2 ca2 : Nat) (ea eb : Int) (a b K x y : Nat) (r : Int)
    (HLA : Hid (∀ w, BigV w (.slice ao1 l1 ca1) a K → Calls Tryd.prog 29 #[.slice ao1 l1 ca1] w fun e w' => e = .returned (.int .i64 (x : Nat)) ∧ w' = w))
    (HLB : Hid (∀ w, BigV w (.slice ao2 l2 ca2) b K → Calls Tryd.prog 29 #[.slice ao2 l2 ca2] w fun e w' => e = .returned (.int .i64 (y : Nat)) ∧ w' = w))
    (hx : 1 ≤ x ∧ x ≤ 100000)
    (hy : 1 ≤ y ∧ y ≤ 100000)
    (hea : -100000000 ≤ ea ∧ ea ≤ 100000000) (heb : -100000000 ≤ eb ∧ eb ≤ 100000000)
    (HNE : Hid (((ea + (x : Int)) != (eb + (y : Int))) = true)) (w : World) (hva : BigV w (.slice ao1 l1 ca1) a K) (hvb : BigV w (.slice ao2 l2 ca2) b K) :
    Calls Tryd.prog 39 #[.agg #[.bool n1, .slice ao1 l1 ca1, .int .i64 ea], .agg #[.bool n2, .slice ao2 l2 ca2, .int .i64 eb]] w fun e w' => e = .returned (.int .i64 (ea + x - eb - y)) ∧ Below w.heap.size w w' := by
  have HST := hide (szSt_start n1 n2 ao1 ao2 l1 ca1 l2 ca2 ea eb a b K w hva hvb)
  clear hva hvb
  go_enter Tryd.func39, Tryd.ntmps39
  go_upto_region 1 with fail
  refine wp_gen (fun W => SzSt n1 n2 (.slice ao1 l1 ca1) (.slice ao2 l2 ca2) ea eb a b K w W) HST.out ?_
  clear HST
  rintro W1 h1
  refine wp_region_grow 8 [(8, .val (.pointer (some ⟨w.heap.size, 1, none⟩))), (9, .val (.slice ao1 l1 ca1)), (10, .val (.int .i64 (x : Nat))), (11, .val (.pointer (some ⟨w.heap.size + 1, 1, none⟩))), (12, .val (.slice ao2 l2 ca2)), (13, .val (.int .i64 (y : Nat))), (5, .val (.int .i64 (x : Nat))), (6, .val (.int .i64 (y : Nat)))]
    (fun W => SzSt n1 n2 (.slice ao1 l1 ca1) (.slice ao2 l2 ca2) ea eb a b K w W) mixedOk (by kernel_rfl) (by kernel_rfl) (h1.below (Below.refl _ _).drew) (fun W W' h hb => h.below hb) ?_ ?_
  · refine gSt (gStep_run rfl ?_) ?_
    · intro ρ W hC hc hf hL
      have e2 : ρ (.tmp 2) = .pointer (some ⟨w.heap.size, 0, none⟩) := hL 2 (by decide +kernel)
      simp [go_sem, hc, hf, e2]
      exact ⟨Below.refl _ _, rfl⟩
    refine gSt (gStep_run rfl ?_) ?_
    · intro ρ W hC hc hf hL
      have e8 : ρ (.tmp 8) = .pointer (some ⟨w.heap.size, 1, none⟩) := hL 8 (by decide +kernel)
      have l0 := hC.a1
      simp [go_sem, hc, hf, e8, l0]
      exact ⟨Below.refl _ _, rfl⟩
    refine gSt (gStep_run rfl ?_) ?_
    · intro ρ W hC hc hf hL
      have e9 : ρ (.tmp 9) = .slice ao1 l1 ca1 := hL 9 (by decide +kernel)
      simp [go_sem, hc, hf, e9]
      refine (HLA.out W hC.va).mono ?_
      rintro e w' ⟨rfl, hb⟩
      exact ⟨_, rfl, by first | exact hb | (subst hb; exact Below.refl _ _), rfl⟩
    refine gSt (gStep_run rfl ?_) ?_
    · intro ρ W hC hc hf hL
      have e3 : ρ (.tmp 3) = .pointer (some ⟨w.heap.size + 1, 0, none⟩) := hL 3 (by decide +kernel)
      simp [go_sem, hc, hf, e3]
      exact ⟨Below.refl _ _, rfl⟩
    refine gSt (gStep_run rfl ?_) ?_
    · intro ρ W hC hc hf hL
      have e11 : ρ (.tmp 11) = .pointer (some ⟨w.heap.size + 1, 1, none⟩) := hL 11 (by decide +kernel)
      have l0 := hC.b1
      simp [go_sem, hc, hf, e11, l0]
      exact ⟨Below.refl _ _, rfl⟩
    refine gSt (gStep_run rfl ?_) ?_
    · intro ρ W hC hc hf hL
      have e12 : ρ (.tmp 12) = .slice ao2 l2 ca2 := hL 12 (by decide +kernel)
      simp [go_sem, hc, hf, e12]
      refine (HLB.out W hC.vb).mono ?_
      rintro e w' ⟨rfl, hb⟩
      exact ⟨_, rfl, by first | exact hb | (subst hb; exact Below.refl _ _), rfl⟩
    refine gSt (gStep_run rfl (gRun_move 10 5 (.inr rfl) rfl (by decide +kernel) (fun v w h => h))) ?_
    refine gSt (gStep_run rfl (gRun_move 13 6 (.inr rfl) rfl (by decide +kernel) (fun v w h => h))) ?_
    exact gSt0
  · intro W hC
    refine gFi 8 rfl ?_
    rintro _ rfl
    refine gFi 9 rfl ?_
    rintro _ rfl
    refine gFi 10 rfl ?_
    rintro _ rfl
    refine gFi 11 rfl ?_
    rintro _ rfl
    refine gFi 12 rfl ?_
    rintro _ rfl
    refine gFi 13 rfl ?_
    rintro _ rfl
    refine gFi 5 rfl ?_
    rintro _ rfl
    refine gFi 6 rfl ?_
    rintro _ rfl
    refine gFi0 ?_
    simp only [List.drop_succ_cons, List.drop_zero, Act.put, List.setIfInBounds_toArray, List.set_cons_succ, List.set_cons_zero]
    have HB := hide hC.bel
    have hne := HNE.out
    have l0 := hC.a2
    have l1 := hC.b2
    have hx1 : (((x : Nat) : Int) == 0) = false := by rw [beq_eq_false_iff_ne]; omega
    have hy1 : (((y : Nat) : Int) == 0) = false := by rw [beq_eq_false_iff_ne]; omega
    clear hC h1
    go_wp2
    go_ret
    exact ⟨rfl, HB.out⟩

set_option maxHeartbeats 2000000 in
theorem size_E (n1 n2 : Bool) (ao1 ao2 : Option Addr) (l1 ca1 l2 ca2 : Nat) (ea eb : Int) (a b K x y : Nat) (r : Int)
    (HLA : Hid (∀ w, BigV w (.slice ao1 l1 ca1) a K → Calls Tryd.prog 29 #[.slice ao1 l1 ca1] w fun e w' => e = .returned (.int .i64 (x : Nat)) ∧ w' = w))
    (HLB : Hid (∀ w, BigV w (.slice ao2 l2 ca2) b K → Calls Tryd.prog 29 #[.slice ao2 l2 ca2] w fun e w' => e = .returned (.int .i64 (y : Nat)) ∧ w' = w))
    (hx : 1 ≤ x ∧ x ≤ 100000)
    (hy : 1 ≤ y ∧ y ≤ 100000)
    (hea : -100000000 ≤ ea ∧ ea ≤ 100000000) (heb : -100000000 ≤ eb ∧ eb ≤ 100000000)
    (HEQ : Hid (((ea + (x : Int)) != (eb + (y : Int))) = false)) (m : Int) (HM : Hid (min ea eb = m)) (hm : -100000000 ≤ m ∧ m ≤ ea ∧ m ≤ eb) (u v : Nat) (K2 : Nat)
    (HSA : Hid (∀ w, BigV w (.slice ao1 l1 ca1) a K → Calls Tryd.prog 77 #[.slice ao1 l1 ca1, .int .i64 (ea - m)] w fun e w' => ∃ q, e = .returned q ∧ BigV w' q u K2 ∧ Below w.heap.size w w'))
    (HSB : Hid (∀ w, BigV w (.slice ao2 l2 ca2) b K → Calls Tryd.prog 77 #[.slice ao2 l2 ca2, .int .i64 (eb - m)] w fun e w' => ∃ q, e = .returned q ∧ BigV w' q v K2 ∧ Below w.heap.size w w'))
    (HCM : Hid (∀ p q w, BigV w p u K2 → BigV w q v K2 → Calls Tryd.prog 87 #[p, q] w fun e w' => e = .returned (.int .i64 r) ∧ w' = w)) (w : World) (hva : BigV w (.slice ao1 l1 ca1) a K) (hvb : BigV w (.slice ao2 l2 ca2) b K) :
    Calls Tryd.prog 39 #[.agg #[.bool n1, .slice ao1 l1 ca1, .int .i64 ea], .agg #[.bool n2, .slice ao2 l2 ca2, .int .i64 eb]] w fun e w' => e = .returned (.int .i64 r) ∧ Below w.heap.size w w' := by
  have HST := hide (szSt_start n1 n2 ao1 ao2 l1 ca1 l2 ca2 ea eb a b K w hva hvb)
  clear hva hvb
  go_enter Tryd.func39, Tryd.ntmps39
  go_upto_region 1 with fail
  refine wp_gen (fun W => SzSt n1 n2 (.slice ao1 l1 ca1) (.slice ao2 l2 ca2) ea eb a b K w W) HST.out ?_
  clear HST
  rintro W1 h1
  refine wp_region_grow 8 [(8, .val (.pointer (some ⟨w.heap.size, 1, none⟩))), (9, .val (.slice ao1 l1 ca1)), (10, .val (.int .i64 (x : Nat))), (11, .val (.pointer (some ⟨w.heap.size + 1, 1, none⟩))), (12, .val (.slice ao2 l2 ca2)), (13, .val (.int .i64 (y : Nat))), (5, .val (.int .i64 (x : Nat))), (6, .val (.int .i64 (y : Nat)))]
    (fun W => SzSt n1 n2 (.slice ao1 l1 ca1) (.slice ao2 l2 ca2) ea eb a b K w W) mixedOk (by kernel_rfl) (by kernel_rfl) (h1.below (Below.refl _ _).drew) (fun W W' h hb => h.below hb) ?_ ?_
  · refine gSt (gStep_run rfl ?_) ?_
    · intro ρ W hC hc hf hL
      have e2 : ρ (.tmp 2) = .pointer (some ⟨w.heap.size, 0, none⟩) := hL 2 (by decide +kernel)
      simp [go_sem, hc, hf, e2]
      exact ⟨Below.refl _ _, rfl⟩
    refine gSt (gStep_run rfl ?_) ?_
    · intro ρ W hC hc hf hL
      have e8 : ρ (.tmp 8) = .pointer (some ⟨w.heap.size, 1, none⟩) := hL 8 (by decide +kernel)
      have l0 := hC.a1
      simp [go_sem, hc, hf, e8, l0]
      exact ⟨Below.refl _ _, rfl⟩
    refine gSt (gStep_run rfl ?_) ?_
    · intro ρ W hC hc hf hL
      have e9 : ρ (.tmp 9) = .slice ao1 l1 ca1 := hL 9 (by decide +kernel)
      simp [go_sem, hc, hf, e9]
      refine (HLA.out W hC.va).mono ?_
      rintro e w' ⟨rfl, hb⟩
      exact ⟨_, rfl, by first | exact hb | (subst hb; exact Below.refl _ _), rfl⟩
    refine gSt (gStep_run rfl ?_) ?_
    · intro ρ W hC hc hf hL
      have e3 : ρ (.tmp 3) = .pointer (some ⟨w.heap.size + 1, 0, none⟩) := hL 3 (by decide +kernel)
      simp [go_sem, hc, hf, e3]
      exact ⟨Below.refl _ _, rfl⟩
    refine gSt (gStep_run rfl ?_) ?_
    · intro ρ W hC hc hf hL
      have e11 : ρ (.tmp 11) = .pointer (some ⟨w.heap.size + 1, 1, none⟩) := hL 11 (by decide +kernel)
      have l0 := hC.b1
      simp [go_sem, hc, hf, e11, l0]
      exact ⟨Below.refl _ _, rfl⟩
    refine gSt (gStep_run rfl ?_) ?_
    · intro ρ W hC hc hf hL
      have e12 : ρ (.tmp 12) = .slice ao2 l2 ca2 := hL 12 (by decide +kernel)
      simp [go_sem, hc, hf, e12]
      refine (HLB.out W hC.vb).mono ?_
      rintro e w' ⟨rfl, hb⟩
      exact ⟨_, rfl, by first | exact hb | (subst hb; exact Below.refl _ _), rfl⟩
    refine gSt (gStep_run rfl (gRun_move 10 5 (.inr rfl) rfl (by decide +kernel) (fun v w h => h))) ?_
    refine gSt (gStep_run rfl (gRun_move 13 6 (.inr rfl) rfl (by decide +kernel) (fun v w h => h))) ?_
    exact gSt0
  · intro W hC
    refine gFi 8 rfl ?_
    rintro _ rfl
    refine gFi 9 rfl ?_
    rintro _ rfl
    refine gFi 10 rfl ?_
    rintro _ rfl
    refine gFi 11 rfl ?_
    rintro _ rfl
    refine gFi 12 rfl ?_
    rintro _ rfl
    refine gFi 13 rfl ?_
    rintro _ rfl
    refine gFi 5 rfl ?_
    rintro _ rfl
    refine gFi 6 rfl ?_
    rintro _ rfl
    refine gFi0 ?_
    simp only [List.drop_succ_cons, List.drop_zero, Act.put, List.setIfInBounds_toArray, List.set_cons_succ, List.set_cons_zero]
    have HS := hide hC
    have hne := HEQ.out
    have hmm := HM.out
    have q0 := hC.a2
    have q1 := hC.b2
    have hx1 : (((x : Nat) : Int) == 0) = false := by rw [beq_eq_false_iff_ne]; omega
    have hy1 : (((y : Nat) : Int) == 0) = false := by rw [beq_eq_false_iff_ne]; omega
    clear hC h1
    go_upto_region 7 with fail
    all_goals
      refine wp_gen (fun W => SzSt n1 n2 (.slice ao1 l1 ca1) (.slice ao2 l2 ca2) ea eb a b K w W) HS.out ?_
      clear HS q0 q1 hne hx1 hy1 hmm
      rintro W7 h7
      refine wp_region_grow 16 [(48, .val (.pointer (some ⟨w.heap.size, 1, none⟩))), (49, .val (.slice ao1 l1 ca1)), (50, .val (.pointer (some ⟨w.heap.size, 2, none⟩))), (51, .val (.int .i64 ea)), (52, .val (.int .i64 m)), (53, .val (.int .i64 (ea - m))), (54, .big u K2), (55, .val (.pointer (some ⟨w.heap.size + 1, 1, none⟩))), (56, .val (.slice ao2 l2 ca2)), (57, .val (.pointer (some ⟨w.heap.size + 1, 2, none⟩))), (58, .val (.int .i64 eb)), (59, .val (.int .i64 m)), (60, .val (.int .i64 (eb - m))), (61, .big v K2), (62, .val (.int .i64 r)), (4, .val (.int .i64 r))]
        (fun W => SzSt n1 n2 (.slice ao1 l1 ca1) (.slice ao2 l2 ca2) ea eb a b K w W) mixedOk (by kernel_rfl) (by kernel_rfl) (h7.below (Below.refl _ _).drew) (fun W W' h hb => h.below hb) ?_ ?_
      · refine gSt (gStep_run rfl ?_) ?_
        · intro ρ W hC hc hf hL
          have e2 : ρ (.tmp 2) = .pointer (some ⟨w.heap.size, 0, none⟩) := hL 2 (by decide +kernel)
          simp [go_sem, hc, hf, e2]
          exact ⟨Below.refl _ _, rfl⟩
        refine gSt (gStep_run rfl ?_) ?_
        · intro ρ W hC hc hf hL
          have e48 : ρ (.tmp 48) = .pointer (some ⟨w.heap.size, 1, none⟩) := hL 48 (by decide +kernel)
          have l0 := hC.a1
          simp [go_sem, hc, hf, e48, l0]
          exact ⟨Below.refl _ _, rfl⟩
        refine gSt (gStep_run rfl ?_) ?_
        · intro ρ W hC hc hf hL
          have e2 : ρ (.tmp 2) = .pointer (some ⟨w.heap.size, 0, none⟩) := hL 2 (by decide +kernel)
          simp [go_sem, hc, hf, e2]
          exact ⟨Below.refl _ _, rfl⟩
        refine gSt (gStep_run rfl ?_) ?_
        · intro ρ W hC hc hf hL
          have e50 : ρ (.tmp 50) = .pointer (some ⟨w.heap.size, 2, none⟩) := hL 50 (by decide +kernel)
          have l0 := hC.a2
          simp [go_sem, hc, hf, e50, l0]
          exact ⟨Below.refl _ _, rfl⟩
        refine gSt (gStep_run rfl (gRun_move 7 52 (.inl rfl) rfl (by decide +kernel) (fun v w h => h))) ?_
        refine gSt (gStep_run rfl ?_) ?_
        · intro ρ W hC hc hf hL
          have e51 : ρ (.tmp 51) = .int .i64 ea := hL 51 (by decide +kernel)
          have e52 : ρ (.tmp 52) = .int .i64 m := hL 52 (by decide +kernel)
          have l0 : IntKind.i64.wrap (ea - m) = ea - m := by rw [IntKind.wrap_i64]; omega
          simp [go_sem, hc, hf, e51, e52, l0]
          exact ⟨Below.refl _ _, rfl⟩
        refine gSt (gStep_run rfl ?_) ?_
        · intro ρ W hC hc hf hL
          have e49 : ρ (.tmp 49) = .slice ao1 l1 ca1 := hL 49 (by decide +kernel)
          have e53 : ρ (.tmp 53) = .int .i64 (ea - m) := hL 53 (by decide +kernel)
          simp [go_sem, hc, hf, e49, e53]
          refine (HSA.out W hC.va).mono ?_
          rintro e w' ⟨v, rfl, hv, hb⟩
          exact ⟨_, rfl, hb, hv⟩
        refine gSt (gStep_run rfl ?_) ?_
        · intro ρ W hC hc hf hL
          have e3 : ρ (.tmp 3) = .pointer (some ⟨w.heap.size + 1, 0, none⟩) := hL 3 (by decide +kernel)
          simp [go_sem, hc, hf, e3]
          exact ⟨Below.refl _ _, rfl⟩
        refine gSt (gStep_run rfl ?_) ?_
        · intro ρ W hC hc hf hL
          have e55 : ρ (.tmp 55) = .pointer (some ⟨w.heap.size + 1, 1, none⟩) := hL 55 (by decide +kernel)
          have l0 := hC.b1
          simp [go_sem, hc, hf, e55, l0]
          exact ⟨Below.refl _ _, rfl⟩
        refine gSt (gStep_run rfl ?_) ?_
        · intro ρ W hC hc hf hL
          have e3 : ρ (.tmp 3) = .pointer (some ⟨w.heap.size + 1, 0, none⟩) := hL 3 (by decide +kernel)
          simp [go_sem, hc, hf, e3]
          exact ⟨Below.refl _ _, rfl⟩
        refine gSt (gStep_run rfl ?_) ?_
        · intro ρ W hC hc hf hL
          have e57 : ρ (.tmp 57) = .pointer (some ⟨w.heap.size + 1, 2, none⟩) := hL 57 (by decide +kernel)
          have l0 := hC.b2
          simp [go_sem, hc, hf, e57, l0]
          exact ⟨Below.refl _ _, rfl⟩
        refine gSt (gStep_run rfl (gRun_move 7 59 (.inl rfl) rfl (by decide +kernel) (fun v w h => h))) ?_
        refine gSt (gStep_run rfl ?_) ?_
        · intro ρ W hC hc hf hL
          have e58 : ρ (.tmp 58) = .int .i64 eb := hL 58 (by decide +kernel)
          have e59 : ρ (.tmp 59) = .int .i64 m := hL 59 (by decide +kernel)
          have l0 : IntKind.i64.wrap (eb - m) = eb - m := by rw [IntKind.wrap_i64]; omega
          simp [go_sem, hc, hf, e58, e59, l0]
          exact ⟨Below.refl _ _, rfl⟩
        refine gSt (gStep_run rfl ?_) ?_
        · intro ρ W hC hc hf hL
          have e56 : ρ (.tmp 56) = .slice ao2 l2 ca2 := hL 56 (by decide +kernel)
          have e60 : ρ (.tmp 60) = .int .i64 (eb - m) := hL 60 (by decide +kernel)
          simp [go_sem, hc, hf, e56, e60]
          refine (HSB.out W hC.vb).mono ?_
          rintro e w' ⟨v, rfl, hv, hb⟩
          exact ⟨_, rfl, hb, hv⟩
        refine gSt (gStep_run rfl ?_) ?_
        · intro ρ W hC hc hf hL
          have b54 : BigV W (ρ (.tmp 54)) (u) (K2) := hL 54 (by decide +kernel)
          have b61 : BigV W (ρ (.tmp 61)) (v) (K2) := hL 61 (by decide +kernel)
          simp [go_sem, hc, hf]
          refine (HCM.out _ _ W b54 b61).mono ?_
          rintro e w' ⟨rfl, hb⟩
          exact ⟨_, rfl, by first | exact hb | (subst hb; exact Below.refl _ _), rfl⟩
        refine gSt (gStep_run rfl (gRun_move 62 4 (.inr rfl) rfl (by decide +kernel) (fun v w h => h))) ?_
        exact gSt0
      · intro W hC
        refine gFi 48 rfl ?_
        rintro _ rfl
        refine gFi 49 rfl ?_
        rintro _ rfl
        refine gFi 50 rfl ?_
        rintro _ rfl
        refine gFi 51 rfl ?_
        rintro _ rfl
        refine gFi 52 rfl ?_
        rintro _ rfl
        refine gFi 53 rfl ?_
        rintro _ rfl
        refine gFi 54 rfl ?_
        rintro u54 b54
        refine gFi 55 rfl ?_
        rintro _ rfl
        refine gFi 56 rfl ?_
        rintro _ rfl
        refine gFi 57 rfl ?_
        rintro _ rfl
        refine gFi 58 rfl ?_
        rintro _ rfl
        refine gFi 59 rfl ?_
        rintro _ rfl
        refine gFi 60 rfl ?_
        rintro _ rfl
        refine gFi 61 rfl ?_
        rintro u61 b61
        refine gFi 62 rfl ?_
        rintro _ rfl
        refine gFi 4 rfl ?_
        rintro _ rfl
        refine gFi0 ?_
        simp only [List.drop_succ_cons, List.drop_zero, Act.put, List.setIfInBounds_toArray, List.set_cons_succ, List.set_cons_zero]
        have HB := hide hC.bel
        clear hC h7 b54 b61
        go_wp2
        go_ret
        exact ⟨rfl, HB.out⟩
    

end Go.Proofs.YtidfegilddlglaaDoor

