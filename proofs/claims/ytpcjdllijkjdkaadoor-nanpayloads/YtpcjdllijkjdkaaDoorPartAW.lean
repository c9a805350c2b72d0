/- Contracts and laws: UnpE, UnpF, UnpG, UnpL, UnpK. -/
import Derived.Test.YtpcjdllijkjdkaaDoorPartAV
/- Contracts: the document's Size. -/
set_option linter.unusedVariables false
set_option linter.unusedSimpArgs false
set_option maxRecDepth 8000
namespace Go.Proofs.YtpcjdllijkjdkaaDoor
open Go.RowKit Plain

theorem ret_i64 {a b : Int} (h : a = b) : Ending.returned (.int .i64 a) = Ending.returned (.int .i64 b) := by rw [h]
structure SzSt (n1 n2 : Bool) (v1 v2 : Value) (ea eb : Int) (a b K : Nat) (w W : World) : Prop where
  a0 : W.cell? ⟨w.heap.size, 0, none⟩ = some (.bool n1)
  a1 : W.cell? ⟨w.heap.size, 1, none⟩ = some v1
  a2 : W.cell? ⟨w.heap.size, 2, none⟩ = some (.int .i64 ea)
  b0 : W.cell? ⟨w.heap.size + 1, 0, none⟩ = some (.bool n2)
  b1 : W.cell? ⟨w.heap.size + 1, 1, none⟩ = some v2
  b2 : W.cell? ⟨w.heap.size + 1, 2, none⟩ = some (.int .i64 eb)
  va : BigV W v1 a K
  vb : BigV W v2 b K
  lt : w.heap.size + 1 < W.heap.size
  bel : Below w.heap.size w W
theorem SzSt.below {n1 n2 : Bool} {v1 v2 : Value} {ea eb : Int} {a b K : Nat} {w W W' : World} (h : SzSt n1 n2 v1 v2 ea eb a b K w W) (hb : Below W.heap.size W W') : SzSt n1 n2 v1 v2 ea eb a b K w W' := by
  have h1 := h.lt
  have h0 : w.heap.size < W.heap.size := by omega
  exact ⟨(hb.cell (p := ⟨w.heap.size, 0, none⟩) h0).trans h.a0, (hb.cell (p := ⟨w.heap.size, 1, none⟩) h0).trans h.a1, (hb.cell (p := ⟨w.heap.size, 2, none⟩) h0).trans h.a2, (hb.cell (p := ⟨w.heap.size + 1, 0, none⟩) h1).trans h.b0, (hb.cell (p := ⟨w.heap.size + 1, 1, none⟩) h1).trans h.b1, (hb.cell (p := ⟨w.heap.size + 1, 2, none⟩) h1).trans h.b2, h.va.below hb, h.vb.below hb, Nat.lt_of_lt_of_le h.lt hb.size, below_trans h.bel hb⟩
theorem szSt_start (n1 n2 : Bool) (ao1 ao2 : Option Addr) (l1 ca1 l2 ca2 : Nat) (ea eb : Int) (a b K : Nat) (w : World) (ha : BigV w (.slice ao1 l1 ca1) a K) (hb : BigV w (.slice ao2 l2 ca2) b K) :
    SzSt n1 n2 (.slice ao1 l1 ca1) (.slice ao2 l2 ca2) ea eb a b K w ((w.alloc (.cells #[.bool n1, .slice ao1 l1 ca1, .int .i64 ea] 52)).alloc (.cells #[.bool n2, .slice ao2 l2 ca2, .int .i64 eb] 52)) :=
  ⟨by simp [go_sem], by simp [go_sem], by simp [go_sem], by simp [go_sem], by simp [go_sem], by simp [go_sem], (ha.below (below_allocs _ _)).below (below_allocs _ _), (hb.below (below_allocs _ _)).below (below_allocs _ _), by simp, below_trans (below_allocs _ _) (below_allocs _ _)⟩

set_option maxHeartbeats 2000000 in
theorem size_ZZ (n1 n2 : Bool) (ao1 ao2 : Option Addr) (l1 ca1 l2 ca2 : Nat) (ea eb : Int) (a b K x y : Nat) (r : Int)
    (HLA : Hid (∀ w, BigV w (.slice ao1 l1 ca1) a K → Calls Tryd.prog 22 #[.slice ao1 l1 ca1] w fun e w' => e = .returned (.int .i64 0) ∧ w' = w))
    (HLB : Hid (∀ w, BigV w (.slice ao2 l2 ca2) b K → Calls Tryd.prog 22 #[.slice ao2 l2 ca2] w fun e w' => e = .returned (.int .i64 0) ∧ w' = w))
    (hea : -100000000 ≤ ea ∧ ea ≤ 100000000) (heb : -100000000 ≤ eb ∧ eb ≤ 100000000) (w : World) (hva : BigV w (.slice ao1 l1 ca1) a K) (hvb : BigV w (.slice ao2 l2 ca2) b K) :
    Calls Tryd.prog 27 #[.agg #[.bool n1, .slice ao1 l1 ca1, .int .i64 ea], .agg #[.bool n2, .slice ao2 l2 ca2, .int .i64 eb]] w fun e w' => e = .returned (.int .i64 0) ∧ Below w.heap.size w w' := by
  have HST := hide (szSt_start n1 n2 ao1 ao2 l1 ca1 l2 ca2 ea eb a b K w hva hvb)
  clear hva hvb
  go_enter Tryd.func27, Tryd.ntmps27
  go_upto_region 1 with fail
  refine wp_gen (fun W => SzSt n1 n2 (.slice ao1 l1 ca1) (.slice ao2 l2 ca2) ea eb a b K w W) HST.out ?_
  clear HST
  rintro W1 h1
  refine wp_region_grow 8 [(8, .val (.pointer (some ⟨w.heap.size, 1, none⟩))), (9, .val (.slice ao1 l1 ca1)), (10, .val (.int .i64 0)), (11, .val (.pointer (some ⟨w.heap.size + 1, 1, none⟩))), (12, .val (.slice ao2 l2 ca2)), (13, .val (.int .i64 0)), (5, .val (.int .i64 0)), (6, .val (.int .i64 0))]
    (fun W => SzSt n1 n2 (.slice ao1 l1 ca1) (.slice ao2 l2 ca2) ea eb a b K w W) mixedOk (by kernel_rfl) (by kernel_rfl) (h1.below (Below.refl _ _).drew) (fun W W' h hb => h.below hb) ?_ ?_
  · refine gSt (gStep_run rfl ?_) ?_
    · intro ρ W hC hc hf hL
      have e2 : ρ (.tmp 2) = .pointer (some ⟨w.heap.size, 0, none⟩) := hL 2 (by decide +kernel)
      simp [go_sem, hc, hf, e2]
      exact ⟨Below.refl _ _, rfl⟩
    refine gSt (gStep_run rfl ?_) ?_
    · intro ρ W hC hc hf hL
      have e8 : ρ (.tmp 8) = .pointer (some ⟨w.heap.size, 1, none⟩) := hL 8 (by decide +kernel)
      have l0 := hC.a1
      simp [go_sem, hc, hf, e8, l0]
      exact ⟨Below.refl _ _, rfl⟩
    refine gSt (gStep_run rfl ?_) ?_
    · intro ρ W hC hc hf hL
      have e9 : ρ (.tmp 9) = .slice ao1 l1 ca1 := hL 9 (by decide +kernel)
      simp [go_sem, hc, hf, e9]
      refine (HLA.out W hC.va).mono ?_
      rintro e w' ⟨rfl, hb⟩
      exact ⟨_, rfl, by first | exact hb | (subst hb; exact Below.refl _ _), rfl⟩
    refine gSt (gStep_run rfl ?_) ?_
    · intro ρ W hC hc hf hL
      have e3 : ρ (.tmp 3) = .pointer (some ⟨w.heap.size + 1, 0, none⟩) := hL 3 (by decide +kernel)
      simp [go_sem, hc, hf, e3]
      exact ⟨Below.refl _ _, rfl⟩
    refine gSt (gStep_run rfl ?_) ?_
    · intro ρ W hC hc hf hL
      have e11 : ρ (.tmp 11) = .pointer (some ⟨w.heap.size + 1, 1, none⟩) := hL 11 (by decide +kernel)
      have l0 := hC.b1
      simp [go_sem, hc, hf, e11, l0]
      exact ⟨Below.refl _ _, rfl⟩
    refine gSt (gStep_run rfl ?_) ?_
    · intro ρ W hC hc hf hL
      have e12 : ρ (.tmp 12) = .slice ao2 l2 ca2 := hL 12 (by decide +kernel)
      simp [go_sem, hc, hf, e12]
      refine (HLB.out W hC.vb).mono ?_
      rintro e w' ⟨rfl, hb⟩
      exact ⟨_, rfl, by first | exact hb | (subst hb; exact Below.refl _ _), rfl⟩
    refine gSt (gStep_run rfl (gRun_move 10 5 (.inr rfl) rfl (by decide +kernel) (fun v w h => h))) ?_
    refine gSt (gStep_run rfl (gRun_move 13 6 (.inr rfl) rfl (by decide +kernel) (fun v w h => h))) ?_
    exact gSt0
  · intro W hC
    refine gFi 8 rfl ?_
    rintro _ rfl
    refine gFi 9 rfl ?_
    rintro _ rfl
    refine gFi 10 rfl ?_
    rintro _ rfl
    refine gFi 11 rfl ?_
    rintro _ rfl
    refine gFi 12 rfl ?_
    rintro _ rfl
    refine gFi 13 rfl ?_
    rintro _ rfl
    refine gFi 5 rfl ?_
    rintro _ rfl
    refine gFi 6 rfl ?_
    rintro _ rfl
    refine gFi0 ?_
    simp only [List.drop_succ_cons, List.drop_zero, Act.put, List.setIfInBounds_toArray, List.set_cons_succ, List.set_cons_zero]
    have HB := hide hC.bel
    have HQ : Hid (min (0 : Int) 1 - min 0 1 = 0) := by unfold Hid; decide
    clear hC h1
    go_wp2
    go_ret
    exact ⟨ret_i64 HQ.out, HB.out⟩

set_option maxHeartbeats 2000000 in
theorem size_ZP (n1 n2 : Bool) (ao1 ao2 : Option Addr) (l1 ca1 l2 ca2 : Nat) (ea eb : Int) (a b K x y : Nat) (r : Int)
    (HLA : Hid (∀ w, BigV w (.slice ao1 l1 ca1) a K → Calls Tryd.prog 22 #[.slice ao1 l1 ca1] w fun e w' => e = .returned (.int .i64 0) ∧ w' = w))
    (HLB : Hid (∀ w, BigV w (.slice ao2 l2 ca2) b K → Calls Tryd.prog 22 #[.slice ao2 l2 ca2] w fun e w' => e = .returned (.int .i64 (y : Nat)) ∧ w' = w))
    (hy : 1 ≤ y ∧ y ≤ 100000)
    (hea : -100000000 ≤ ea ∧ ea ≤ 100000000) (heb : -100000000 ≤ eb ∧ eb ≤ 100000000) (w : World) (hva : BigV w (.slice ao1 l1 ca1) a K) (hvb : BigV w (.slice ao2 l2 ca2) b K) :
    Calls Tryd.prog 27 #[.agg #[.bool n1, .slice ao1 l1 ca1, .int .i64 ea], .agg #[.bool n2, .slice ao2 l2 ca2, .int .i64 eb]] w fun e w' => e = .returned (.int .i64 (-1)) ∧ Below w.heap.size w w' := by
  have HST := hide (szSt_start n1 n2 ao1 ao2 l1 ca1 l2 ca2 ea eb a b K w hva hvb)
  clear hva hvb
  go_enter Tryd.func27, Tryd.ntmps27
  go_upto_region 1 with fail
  refine wp_gen (fun W => SzSt n1 n2 (.slice ao1 l1 ca1) (.slice ao2 l2 ca2) ea eb a b K w W) HST.out ?_
  clear HST
  rintro W1 h1
  refine wp_region_grow 8 [(8, .val (.pointer (some ⟨w.heap.size, 1, none⟩))), (9, .val (.slice ao1 l1 ca1)), (10, .val (.int .i64 0)), (11, .val (.pointer (some ⟨w.heap.size + 1, 1, none⟩))), (12, .val (.slice ao2 l2 ca2)), (13, .val (.int .i64 (y : Nat))), (5, .val (.int .i64 0)), (6, .val (.int .i64 (y : Nat)))]
    (fun W => SzSt n1 n2 (.slice ao1 l1 ca1) (.slice ao2 l2 ca2) ea eb a b K w W) mixedOk (by kernel_rfl) (by kernel_rfl) (h1.below (Below.refl _ _).drew) (fun W W' h hb => h.below hb) ?_ ?_
  · refine gSt (gStep_run rfl ?_) ?_
    · intro ρ W hC hc hf hL
      have e2 : ρ (.tmp 2) = .pointer (some ⟨w.heap.size, 0, none⟩) := hL 2 (by decide +kernel)
      simp [go_sem, hc, hf, e2]
      exact ⟨Below.refl _ _, rfl⟩
    refine gSt (gStep_run rfl ?_) ?_
    · intro ρ W hC hc hf hL
      have e8 : ρ (.tmp 8) = .pointer (some ⟨w.heap.size, 1, none⟩) := hL 8 (by decide +kernel)
      have l0 := hC.a1
      simp [go_sem, hc, hf, e8, l0]
      exact ⟨Below.refl _ _, rfl⟩
    refine gSt (gStep_run rfl ?_) ?_
    · intro ρ W hC hc hf hL
      have e9 : ρ (.tmp 9) = .slice ao1 l1 ca1 := hL 9 (by decide +kernel)
      simp [go_sem, hc, hf, e9]
      refine (HLA.out W hC.va).mono ?_
      rintro e w' ⟨rfl, hb⟩
      exact ⟨_, rfl, by first | exact hb | (subst hb; exact Below.refl _ _), rfl⟩
    refine gSt (gStep_run rfl ?_) ?_
    · intro ρ W hC hc hf hL
      have e3 : ρ (.tmp 3) = .pointer (some ⟨w.heap.size + 1, 0, none⟩) := hL 3 (by decide +kernel)
      simp [go_sem, hc, hf, e3]
      exact ⟨Below.refl _ _, rfl⟩
    refine gSt (gStep_run rfl ?_) ?_
    · intro ρ W hC hc hf hL
      have e11 : ρ (.tmp 11) = .pointer (some ⟨w.heap.size + 1, 1, none⟩) := hL 11 (by decide +kernel)
      have l0 := hC.b1
      simp [go_sem, hc, hf, e11, l0]
      exact ⟨Below.refl _ _, rfl⟩
    refine gSt (gStep_run rfl ?_) ?_
    · intro ρ W hC hc hf hL
      have e12 : ρ (.tmp 12) = .slice ao2 l2 ca2 := hL 12 (by decide +kernel)
      simp [go_sem, hc, hf, e12]
      refine (HLB.out W hC.vb).mono ?_
      rintro e w' ⟨rfl, hb⟩
      exact ⟨_, rfl, by first | exact hb | (subst hb; exact Below.refl _ _), rfl⟩
    refine gSt (gStep_run rfl (gRun_move 10 5 (.inr rfl) rfl (by decide +kernel) (fun v w h => h))) ?_
    refine gSt (gStep_run rfl (gRun_move 13 6 (.inr rfl) rfl (by decide +kernel) (fun v w h => h))) ?_
    exact gSt0
  · intro W hC
    refine gFi 8 rfl ?_
    rintro _ rfl
    refine gFi 9 rfl ?_
    rintro _ rfl
    refine gFi 10 rfl ?_
    rintro _ rfl
    refine gFi 11 rfl ?_
    rintro _ rfl
    refine gFi 12 rfl ?_
    rintro _ rfl
    refine gFi 13 rfl ?_
    rintro _ rfl
    refine gFi 5 rfl ?_
    rintro _ rfl
    refine gFi 6 rfl ?_
    rintro _ rfl
    refine gFi0 ?_
    simp only [List.drop_succ_cons, List.drop_zero, Act.put, List.setIfInBounds_toArray, List.set_cons_succ, List.set_cons_zero]
    have HB := hide hC.bel
    have HQ : Hid (min (0 : Int) 1 - min (y : Int) 1 = -1) := by unfold Hid; omega
    clear hC h1
    go_wp2
    go_ret
    exact ⟨ret_i64 HQ.out, HB.out⟩

set_option maxHeartbeats 2000000 in
theorem size_PZ (n1 n2 : Bool) (ao1 ao2 : Option Addr) (l1 ca1 l2 ca2 : Nat) (ea eb : Int) (a b K x y : Nat) (r : Int)
    (HLA : Hid (∀ w, BigV w (.slice ao1 l1 ca1) a K → Calls Tryd.prog 22 #[.slice ao1 l1 ca1] w fun e w' => e = .returned (.int .i64 (x : Nat)) ∧ w' = w))
    (HLB : Hid (∀ w, BigV w (.slice ao2 l2 ca2) b K → Calls Tryd.prog 22 #[.slice ao2 l2 ca2] w fun e w' => e = .returned (.int .i64 0) ∧ w' = w))
    (hx : 1 ≤ x ∧ x ≤ 100000)
    (hea : -100000000 ≤ ea ∧ ea ≤ 100000000) (heb : -100000000 ≤ eb ∧ eb ≤ 100000000) (w : World) (hva : BigV w (.slice ao1 l1 ca1) a K) (hvb : BigV w (.slice ao2 l2 ca2) b K) :
    Calls Tryd.prog 27 #[.agg #[.bool n1, .slice ao1 l1 ca1, .int .i64 ea], .agg #[.bool n2, .slice ao2 l2 ca2, .int .i64 eb]] w fun e w' => e = .returned (.int .i64 1) ∧ Below w.heap.size w w' := by
  have HST := hide (szSt_start n1 n2 ao1 ao2 l1 ca1 l2 ca2 ea eb a b K w hva hvb)
  clear hva hvb
  go_enter Tryd.func27, Tryd.ntmps27
  go_upto_region 1 with fail
  refine wp_gen (fun W => SzSt n1 n2 (.slice ao1 l1 ca1) (.slice ao2 l2 ca2) ea eb a b K w W) HST.out ?_
  clear HST
  rintro W1 h1
  refine wp_region_grow 8 [(8, .val (.pointer (some ⟨w.heap.size, 1, none⟩))), (9, .val (.slice ao1 l1 ca1)), (10, .val (.int .i64 (x : Nat))), (11, .val (.pointer (some ⟨w.heap.size + 1, 1, none⟩))), (12, .val (.slice ao2 l2 ca2)), (13, .val (.int .i64 0)), (5, .val (.int .i64 (x : Nat))), (6, .val (.int .i64 0))]
    (fun W => SzSt n1 n2 (.slice ao1 l1 ca1) (.slice ao2 l2 ca2) ea eb a b K w W) mixedOk (by kernel_rfl) (by kernel_rfl) (h1.below (Below.refl _ _).drew) (fun W W' h hb => h.below hb) ?_ ?_
  · refine gSt (gStep_run rfl ?_) ?_
    · intro ρ W hC hc hf hL
      have e2 : ρ (.tmp 2) = .pointer (some ⟨w.heap.size, 0, none⟩) := hL 2 (by decide +kernel)
      simp [go_sem, hc, hf, e2]
      exact ⟨Below.refl _ _, rfl⟩
    refine gSt (gStep_run rfl ?_) ?_
    · intro ρ W hC hc hf hL
      have e8 : ρ (.tmp 8) = .pointer (some ⟨w.heap.size, 1, none⟩) := hL 8 (by decide +kernel)
      have l0 := hC.a1
      simp [go_sem, hc, hf, e8, l0]
      exact ⟨Below.refl _ _, rfl⟩
    refine gSt (gStep_run rfl ?_) ?_
    · intro ρ W hC hc hf hL
      have e9 : ρ (.tmp 9) = .slice ao1 l1 ca1 := hL 9 (by decide +kernel)
      simp [go_sem, hc, hf, e9]
      refine (HLA.out W hC.va).mono ?_
      rintro e w' ⟨rfl, hb⟩
      exact ⟨_, rfl, by first | exact hb | (subst hb; exact Below.refl _ _), rfl⟩
    refine gSt (gStep_run rfl ?_) ?_
    · intro ρ W hC hc hf hL
      have e3 : ρ (.tmp 3) = .pointer (some ⟨w.heap.size + 1, 0, none⟩) := hL 3 (by decide +kernel)
      simp [go_sem, hc, hf, e3]
      exact ⟨Below.refl _ _, rfl⟩
    refine gSt (gStep_run rfl ?_) ?_
    · intro ρ W hC hc hf hL
      have e11 : ρ (.tmp 11) = .pointer (some ⟨w.heap.size + 1, 1, none⟩) := hL 11 (by decide +kernel)
      have l0 := hC.b1
      simp [go_sem, hc, hf, e11, l0]
      exact ⟨Below.refl _ _, rfl⟩
    refine gSt (gStep_run rfl ?_) ?_
    · intro ρ W hC hc hf hL
      have e12 : ρ (.tmp 12) = .slice ao2 l2 ca2 := hL 12 (by decide +kernel)
      simp [go_sem, hc, hf, e12]
      refine (HLB.out W hC.vb).mono ?_
      rintro e w' ⟨rfl, hb⟩
      exact ⟨_, rfl, by first | exact hb | (subst hb; exact Below.refl _ _), rfl⟩
    refine gSt (gStep_run rfl (gRun_move 10 5 (.inr rfl) rfl (by decide +kernel) (fun v w h => h))) ?_
    refine gSt (gStep_run rfl (gRun_move 13 6 (.inr rfl) rfl (by decide +kernel) (fun v w h => h))) ?_
    exact gSt0
  · intro W hC
    refine gFi 8 rfl ?_
    rintro _ rfl
    refine gFi 9 rfl ?_
    rintro _ rfl
    refine gFi 10 rfl ?_
    rintro _ rfl
    refine gFi 11 rfl ?_
    rintro _ rfl
    refine gFi 12 rfl ?_
    rintro _ rfl
    refine gFi 13 rfl ?_
    rintro _ rfl
    refine gFi 5 rfl ?_
    rintro _ rfl
    refine gFi 6 rfl ?_
    rintro _ rfl
    refine gFi0 ?_
    simp only [List.drop_succ_cons, List.drop_zero, Act.put, List.setIfInBounds_toArray, List.set_cons_succ, List.set_cons_zero]
    have HB := hide hC.bel
    have HQ : Hid (min (x : Int) 1 - min 0 1 = 1) := by unfold Hid; omega
    clear hC h1
    go_wp2
    go_ret
    exact ⟨ret_i64 HQ.out, HB.out⟩

set_option maxHeartbeats 2000000 in
theorem size_T (n1 n2 : Bool) (ao1 ao2 : Option Addr) (l1 ca1 l2 ca2 : Nat) (ea eb : Int) (a b K x y : Nat) (r : Int)
    (HLA : Hid (∀ w, BigV w (.slice ao1 l1 ca1) a K → Calls Tryd.prog 22 #[.slice ao1 l1 ca1] w fun e w' => e = .returned (.int .i64 (x : Nat)) ∧ w' = w))
    (HLB : Hid (∀ w, BigV w (.slice ao2 l2 ca2) b K → Calls Tryd.prog 22 #[.slice ao2 l2 ca2] w fun e w' => e = .returned (.int .i64 (y : Nat)) ∧ w' = w))
    (hx : 1 ≤ x ∧ x ≤ 100000)
    (hy : 1 ≤ y ∧ y ≤ 100000)
    (hea : -100000000 ≤ ea ∧ ea ≤ 100000000) (heb : -100000000 ≤ eb ∧ eb ≤ 100000000)
    (HNE : Hid (((ea + (x : Int)) != (eb + (y : Int))) = true)) (w : World) (hva : BigV w (.slice ao1 l1 ca1) a K) (hvb : BigV w (.slice ao2 l2 ca2) b K) :
    Calls Tryd.prog 27 #[.agg #[.bool n1, .slice ao1 l1 ca1, .int .i64 ea], .agg #[.bool n2, .slice ao2 l2 ca2, .int .i64 eb]] w fun e w' => e = .returned (.int .i64 (ea + x - eb - y)) ∧ Below w.heap.size w w' := by
  have HST := hide (szSt_start n1 n2 ao1 ao2 l1 ca1 l2 ca2 ea eb a b K w hva hvb)
  clear hva hvb
  go_enter Tryd.func27, Tryd.ntmps27
  go_upto_region 1 with fail
  refine wp_gen (fun W => SzSt n1 n2 (.slice ao1 l1 ca1) (.slice ao2 l2 ca2) ea eb a b K w W) HST.out ?_
  clear HST
  rintro W1 h1
  refine wp_region_grow 8 [(8, .val (.pointer (some ⟨w.heap.size, 1, none⟩))), (9, .val (.slice ao1 l1 ca1)), (10, .val (.int .i64 (x : Nat))), (11, .val (.pointer (some ⟨w.heap.size + 1, 1, none⟩))), (12, .val (.slice ao2 l2 ca2)), (13, .val (.int .i64 (y : Nat))), (5, .val (.int .i64 (x : Nat))), (6, .val (.int .i64 (y : Nat)))]
    (fun W => SzSt n1 n2 (.slice ao1 l1 ca1) (.slice ao2 l2 ca2) ea eb a b K w W) mixedOk (by kernel_rfl) (by kernel_rfl) (h1.below (Below.refl _ _).drew) (fun W W' h hb => h.below hb) ?_ ?_
  · refine gSt (gStep_run rfl ?_) ?_
    · intro ρ W hC hc hf hL
      have e2 : ρ (.tmp 2) = .pointer (some ⟨w.heap.size, 0, none⟩) := hL 2 (by decide +kernel)
      simp [go_sem, hc, hf, e2]
      exact ⟨Below.refl _ _, rfl⟩
    refine gSt (gStep_run rfl ?_) ?_
    · intro ρ W hC hc hf hL
      have e8 : ρ (.tmp 8) = .pointer (some ⟨w.heap.size, 1, none⟩) := hL 8 (by decide +kernel)
      have l0 := hC.a1
      simp [go_sem, hc, hf, e8, l0]
      exact ⟨Below.refl _ _, rfl⟩
    refine gSt (gStep_run rfl ?_) ?_
    · intro ρ W hC hc hf hL
      have e9 : ρ (.tmp 9) = .slice ao1 l1 ca1 := hL 9 (by decide +kernel)
      simp [go_sem, hc, hf, e9]
      refine (HLA.out W hC.va).mono ?_
      rintro e w' ⟨rfl, hb⟩
      exact ⟨_, rfl, by first | exact hb | (subst hb; exact Below.refl _ _), rfl⟩
    refine gSt (gStep_run rfl ?_) ?_
    · intro ρ W hC hc hf hL
      have e3 : ρ (.tmp 3) = .pointer (some ⟨w.heap.size + 1, 0, none⟩) := hL 3 (by decide +kernel)
      simp [go_sem, hc, hf, e3]
      exact ⟨Below.refl _ _, rfl⟩
    refine gSt (gStep_run rfl ?_) ?_
    · intro ρ W hC hc hf hL
      have e11 : ρ (.tmp 11) = .pointer (some ⟨w.heap.size + 1, 1, none⟩) := hL 11 (by decide +kernel)
      have l0 := hC.b1
      simp [go_sem, hc, hf, e11, l0]
      exact ⟨Below.refl _ _, rfl⟩
    refine gSt (gStep_run rfl ?_) ?_
    · intro ρ W hC hc hf hL
      have e12 : ρ (.tmp 12) = .slice ao2 l2 ca2 := hL 12 (by decide +kernel)
      simp [go_sem, hc, hf, e12]
      refine (HLB.out W hC.vb).mono ?_
      rintro e w' ⟨rfl, hb⟩
      exact ⟨_, rfl, by first | exact hb | (subst hb; exact Below.refl _ _), rfl⟩
    refine gSt (gStep_run rfl (gRun_move 10 5 (.inr rfl) rfl (by decide +kernel) (fun v w h => h))) ?_
    refine gSt (gStep_run rfl (gRun_move 13 6 (.inr rfl) rfl (by decide +kernel) (fun v w h => h))) ?_
    exact gSt0
  · intro W hC
    refine gFi 8 rfl ?_
    rintro _ rfl
    refine gFi 9 rfl ?_
    rintro _ rfl
    refine gFi 10 rfl ?_
    rintro _ rfl
    refine gFi 11 rfl ?_
    rintro _ rfl
    refine gFi 12 rfl ?_
    rintro _ rfl
    refine gFi 13 rfl ?_
    rintro _ rfl
    refine gFi 5 rfl ?_
    rintro _ rfl
    refine gFi 6 rfl ?_
    rintro _ rfl
    refine gFi0 ?_
    simp only [List.drop_succ_cons, List.drop_zero, Act.put, List.setIfInBounds_toArray, List.set_cons_succ, List.set_cons_zero]
    have HB := hide hC.bel
    have hne := HNE.out
    have l0 := hC.a2
    have l1 := hC.b2
    have hx1 : (((x : Nat) : Int) == 0) = false := by rw [beq_eq_false_iff_ne]; omega
    have hy1 : (((y : Nat) : Int) == 0) = false := by rw [beq_eq_false_iff_ne]; omega
    clear hC h1
    go_wp2
    go_ret
    exact ⟨rfl, HB.out⟩

set_option maxHeartbeats 2000000 in
theorem size_E (n1 n2 : Bool) (ao1 ao2 : Option Addr) (l1 ca1 l2 ca2 : Nat) (ea eb : Int) (a b K x y : Nat) (r : Int)
    (HLA : Hid (∀ w, BigV w (.slice ao1 l1 ca1) a K → Calls Tryd.prog 22 #[.slice ao1 l1 ca1] w fun e w' => e = .returned (.int .i64 (x : Nat)) ∧ w' = w))
    (HLB : Hid (∀ w, BigV w (.slice ao2 l2 ca2) b K → Calls Tryd.prog 22 #[.slice ao2 l2 ca2] w fun e w' => e = .returned (.int .i64 (y : Nat)) ∧ w' = w))
    (hx : 1 ≤ x ∧ x ≤ 100000)
    (hy : 1 ≤ y ∧ y ≤ 100000)
    (hea : -100000000 ≤ ea ∧ ea ≤ 100000000) (heb : -100000000 ≤ eb ∧ eb ≤ 100000000)
    (HEQ : Hid (((ea + (x : Int)) != (eb + (y : Int))) = false)) (m : Int) (HM : Hid (min ea eb = m)) (hm : -100000000 ≤ m ∧ m ≤ ea ∧ m ≤ eb) (u v : Nat) (K2 : Nat)
    (HSA : Hid (∀ w, BigV w (.slice ao1 l1 ca1) a K → Calls Tryd.prog 66 #[.slice ao1 l1 ca1, .int .i64 (ea - m)] w fun e w' => ∃ q, e = .returned q ∧ BigV w' q u K2 ∧ Below w.heap.size w w'))
    (HSB : Hid (∀ w, BigV w (.slice ao2 l2 ca2) b K → Calls Tryd.prog 66 #[.slice ao2 l2 ca2, .int .i64 (eb - m)] w fun e w' => ∃ q, e = .returned q ∧ BigV w' q v K2 ∧ Below w.heap.size w w'))
    (HCM : Hid (∀ p q w, BigV w p u K2 → BigV w q v K2 → Calls Tryd.prog 73 #[p, q] w fun e w' => e = .returned (.int .i64 r) ∧ w' = w)) (w : World) (hva : BigV w (.slice ao1 l1 ca1) a K) (hvb : BigV w (.slice ao2 l2 ca2) b K) :
    Calls Tryd.prog 27 #[.agg #[.bool n1, .slice ao1 l1 ca1, .int .i64 ea], .agg #[.bool n2, .slice ao2 l2 ca2, .int .i64 eb]] w fun e w' => e = .returned (.int .i64 r) ∧ Below w.heap.size w w' := by
  have HST := hide (szSt_start n1 n2 ao1 ao2 l1 ca1 l2 ca2 ea eb a b K w hva hvb)
  clear hva hvb
  go_enter Tryd.func27, Tryd.ntmps27
  go_upto_region 1 with fail
  refine wp_gen (fun W => SzSt n1 n2 (.slice ao1 l1 ca1) (.slice ao2 l2 ca2) ea eb a b K w W) HST.out ?_
  clear HST
  rintro W1 h1
  refine wp_region_grow 8 [(8, .val (.pointer (some ⟨w.heap.size, 1, none⟩))), (9, .val (.slice ao1 l1 ca1)), (10, .val (.int .i64 (x : Nat))), (11, .val (.pointer (some ⟨w.heap.size + 1, 1, none⟩))), (12, .val (.slice ao2 l2 ca2)), (13, .val (.int .i64 (y : Nat))), (5, .val (.int .i64 (x : Nat))), (6, .val (.int .i64 (y : Nat)))]
    (fun W => SzSt n1 n2 (.slice ao1 l1 ca1) (.slice ao2 l2 ca2) ea eb a b K w W) mixedOk (by kernel_rfl) (by kernel_rfl) (h1.below (Below.refl _ _).drew) (fun W W' h hb => h.below hb) ?_ ?_
  · refine gSt (gStep_run rfl ?_) ?_
    · intro ρ W hC hc hf hL
      have e2 : ρ (.tmp 2) = .pointer (some ⟨w.heap.size, 0, none⟩) := hL 2 (by decide +kernel)
      simp [go_sem, hc, hf, e2]
      exact ⟨Below.refl _ _, rfl⟩
    refine gSt (gStep_run rfl ?_) ?_
    · intro ρ W hC hc hf hL
      have e8 : ρ (.tmp 8) = .pointer (some ⟨w.heap.size, 1, none⟩) := hL 8 (by decide +kernel)
      have l0 := hC.a1
      simp [go_sem, hc, hf, e8, l0]
      exact ⟨Below.refl _ _, rfl⟩
    refine gSt (gStep_run rfl ?_) ?_
    · intro ρ W hC hc hf hL
      have e9 : ρ (.tmp 9) = .slice ao1 l1 ca1 := hL 9 (by decide +kernel)
      simp [go_sem, hc, hf, e9]
      refine (HLA.out W hC.va).mono ?_
      rintro e w' ⟨rfl, hb⟩
      exact ⟨_, rfl, by first | exact hb | (subst hb; exact Below.refl _ _), rfl⟩
    refine gSt (gStep_run rfl ?_) ?_
    · intro ρ W hC hc hf hL
      have e3 : ρ (.tmp 3) = .pointer (some ⟨w.heap.size + 1, 0, none⟩) := hL 3 (by decide +kernel)
      simp [go_sem, hc, hf, e3]
      exact ⟨Below.refl _ _, rfl⟩
    refine gSt (gStep_run rfl ?_) ?_
    · intro ρ W hC hc hf hL
      have e11 : ρ (.tmp 11) = .pointer (some ⟨w.heap.size + 1, 1, none⟩) := hL 11 (by decide +kernel)
      have l0 := hC.b1
      simp [go_sem, hc, hf, e11, l0]
      exact ⟨Below.refl _ _, rfl⟩
    refine gSt (gStep_run rfl ?_) ?_
    · intro ρ W hC hc hf hL
      have e12 : ρ (.tmp 12) = .slice ao2 l2 ca2 := hL 12 (by decide +kernel)
      simp [go_sem, hc, hf, e12]
      refine (HLB.out W hC.vb).mono ?_
      rintro e w' ⟨rfl, hb⟩
      exact ⟨_, rfl, by first | exact hb | (subst hb; exact Below.refl _ _), rfl⟩
    refine gSt (gStep_run rfl (gRun_move 10 5 (.inr rfl) rfl (by decide +kernel) (fun v w h => h))) ?_
    refine gSt (gStep_run rfl (gRun_move 13 6 (.inr rfl) rfl (by decide +kernel) (fun v w h => h))) ?_
    exact gSt0
  · intro W hC
    refine gFi 8 rfl ?_
    rintro _ rfl
    refine gFi 9 rfl ?_
    rintro _ rfl
    refine gFi 10 rfl ?_
    rintro _ rfl
    refine gFi 11 rfl ?_
    rintro _ rfl
    refine gFi 12 rfl ?_
    rintro _ rfl
    refine gFi 13 rfl ?_
    rintro _ rfl
    refine gFi 5 rfl ?_
    rintro _ rfl
    refine gFi 6 rfl ?_
    rintro _ rfl
    refine gFi0 ?_
    simp only [List.drop_succ_cons, List.drop_zero, Act.put, List.setIfInBounds_toArray, List.set_cons_succ, List.set_cons_zero]
    have HS := hide hC
    have hne := HEQ.out
    have hmm := HM.out
    have q0 := hC.a2
    have q1 := hC.b2
    have hx1 : (((x : Nat) : Int) == 0) = false := by rw [beq_eq_false_iff_ne]; omega
    have hy1 : (((y : Nat) : Int) == 0) = false := by rw [beq_eq_false_iff_ne]; omega
    clear hC h1
    go_upto_region 7 with fail
    all_goals
      refine wp_gen (fun W => SzSt n1 n2 (.slice ao1 l1 ca1) (.slice ao2 l2 ca2) ea eb a b K w W) HS.out ?_
      clear HS q0 q1 hne hx1 hy1 hmm
      rintro W7 h7
      refine wp_region_grow 16 [(48, .val (.pointer (some ⟨w.heap.size, 1, none⟩))), (49, .val (.slice ao1 l1 ca1)), (50, .val (.pointer (some ⟨w.heap.size, 2, none⟩))), (51, .val (.int .i64 ea)), (52, .val (.int .i64 m)), (53, .val (.int .i64 (ea - m))), (54, .big u K2), (55, .val (.pointer (some ⟨w.heap.size + 1, 1, none⟩))), (56, .val (.slice ao2 l2 ca2)), (57, .val (.pointer (some ⟨w.heap.size + 1, 2, none⟩))), (58, .val (.int .i64 eb)), (59, .val (.int .i64 m)), (60, .val (.int .i64 (eb - m))), (61, .big v K2), (62, .val (.int .i64 r)), (4, .val (.int .i64 r))]
        (fun W => SzSt n1 n2 (.slice ao1 l1 ca1) (.slice ao2 l2 ca2) ea eb a b K w W) mixedOk (by kernel_rfl) (by kernel_rfl) (h7.below (Below.refl _ _).drew) (fun W W' h hb => h.below hb) ?_ ?_
      · refine gSt (gStep_run rfl ?_) ?_
        · intro ρ W hC hc hf hL
          have e2 : ρ (.tmp 2) = .pointer (some ⟨w.heap.size, 0, none⟩) := hL 2 (by decide +kernel)
          simp [go_sem, hc, hf, e2]
          exact ⟨Below.refl _ _, rfl⟩
        refine gSt (gStep_run rfl ?_) ?_
        · intro ρ W hC hc hf hL
          have e48 : ρ (.tmp 48) = .pointer (some ⟨w.heap.size, 1, none⟩) := hL 48 (by decide +kernel)
          have l0 := hC.a1
          simp [go_sem, hc, hf, e48, l0]
          exact ⟨Below.refl _ _, rfl⟩
        refine gSt (gStep_run rfl ?_) ?_
        · intro ρ W hC hc hf hL
          have e2 : ρ (.tmp 2) = .pointer (some ⟨w.heap.size, 0, none⟩) := hL 2 (by decide +kernel)
          simp [go_sem, hc, hf, e2]
          exact ⟨Below.refl _ _, rfl⟩
        refine gSt (gStep_run rfl ?_) ?_
        · intro ρ W hC hc hf hL
          have e50 : ρ (.tmp 50) = .pointer (some ⟨w.heap.size, 2, none⟩) := hL 50 (by decide +kernel)
          have l0 := hC.a2
          simp [go_sem, hc, hf, e50, l0]
          exact ⟨Below.refl _ _, rfl⟩
        refine gSt (gStep_run rfl (gRun_move 7 52 (.inl rfl) rfl (by decide +kernel) (fun v w h => h))) ?_
        refine gSt (gStep_run rfl ?_) ?_
        · intro ρ W hC hc hf hL
          have e51 : ρ (.tmp 51) = .int .i64 ea := hL 51 (by decide +kernel)
          have e52 : ρ (.tmp 52) = .int .i64 m := hL 52 (by decide +kernel)
          have l0 : IntKind.i64.wrap (ea - m) = ea - m := by rw [IntKind.wrap_i64]; omega
          simp [go_sem, hc, hf, e51, e52, l0]
          exact ⟨Below.refl _ _, rfl⟩
        refine gSt (gStep_run rfl ?_) ?_
        · intro ρ W hC hc hf hL
          have e49 : ρ (.tmp 49) = .slice ao1 l1 ca1 := hL 49 (by decide +kernel)
          have e53 : ρ (.tmp 53) = .int .i64 (ea - m) := hL 53 (by decide +kernel)
          simp [go_sem, hc, hf, e49, e53]
          refine (HSA.out W hC.va).mono ?_
          rintro e w' ⟨v, rfl, hv, hb⟩
          exact ⟨_, rfl, hb, hv⟩
        refine gSt (gStep_run rfl ?_) ?_
        · intro ρ W hC hc hf hL
          have e3 : ρ (.tmp 3) = .pointer (some ⟨w.heap.size + 1, 0, none⟩) := hL 3 (by decide +kernel)
          simp [go_sem, hc, hf, e3]
          exact ⟨Below.refl _ _, rfl⟩
        refine gSt (gStep_run rfl ?_) ?_
        · intro ρ W hC hc hf hL
          have e55 : ρ (.tmp 55) = .pointer (some ⟨w.heap.size + 1, 1, none⟩) := hL 55 (by decide +kernel)
          have l0 := hC.b1
          simp [go_sem, hc, hf, e55, l0]
          exact ⟨Below.refl _ _, rfl⟩
        refine gSt (gStep_run rfl ?_) ?_
        · intro ρ W hC hc hf hL
          have e3 : ρ (.tmp 3) = .pointer (some ⟨w.heap.size + 1, 0, none⟩) := hL 3 (by decide +kernel)
          simp [go_sem, hc, hf, e3]
          exact ⟨Below.refl _ _, rfl⟩
        refine gSt (gStep_run rfl ?_) ?_
        · intro ρ W hC hc hf hL
          have e57 : ρ (.tmp 57) = .pointer (some ⟨w.heap.size + 1, 2, none⟩) := hL 57 (by decide +kernel)
          have l0 := hC.b2
          simp [go_sem, hc, hf, e57, l0]
          exact ⟨Below.refl _ _, rfl⟩
        refine gSt (gStep_run rfl (gRun_move 7 59 (.inl rfl) rfl (by decide +kernel) (fun v w h => h))) ?_
        refine gSt (gStep_run rfl ?_) ?_
        · intro ρ W hC hc hf hL
          have e58 : ρ (.tmp 58) = .int .i64 eb := hL 58 (by decide +kernel)
          have e59 : ρ (.tmp 59) = .int .i64 m := hL 59 (by decide +kernel)
          have l0 : IntKind.i64.wrap (eb - m) = eb - m := by rw [IntKind.wrap_i64]; omega
          simp [go_sem, hc, hf, e58, e59, l0]
          exact ⟨Below.refl _ _, rfl⟩
        refine gSt (gStep_run rfl ?_) ?_
        · intro ρ W hC hc hf hL
          have e56 : ρ (.tmp 56) = .slice ao2 l2 ca2 := hL 56 (by decide +kernel)
          have e60 : ρ (.tmp 60) = .int .i64 (eb - m) := hL 60 (by decide +kernel)
          simp [go_sem, hc, hf, e56, e60]
          refine (HSB.out W hC.vb).mono ?_
          rintro e w' ⟨v, rfl, hv, hb⟩
          exact ⟨_, rfl, hb, hv⟩
        refine gSt (gStep_run rfl ?_) ?_
        · intro ρ W hC hc hf hL
          have b54 : BigV W (ρ (.tmp 54)) (u) (K2) := hL 54 (by decide +kernel)
          have b61 : BigV W (ρ (.tmp 61)) (v) (K2) := hL 61 (by decide +kernel)
          simp [go_sem, hc, hf]
          refine (HCM.out _ _ W b54 b61).mono ?_
          rintro e w' ⟨rfl, hb⟩
          exact ⟨_, rfl, by first | exact hb | (subst hb; exact Below.refl _ _), rfl⟩
        refine gSt (gStep_run rfl (gRun_move 62 4 (.inr rfl) rfl (by decide +kernel) (fun v w h => h))) ?_
        exact gSt0
      · intro W hC
        refine gFi 48 rfl ?_
        rintro _ rfl
        refine gFi 49 rfl ?_
        rintro _ rfl
        refine gFi 50 rfl ?_
        rintro _ rfl
        refine gFi 51 rfl ?_
        rintro _ rfl
        refine gFi 52 rfl ?_
        rintro _ rfl
        refine gFi 53 rfl ?_
        rintro _ rfl
        refine gFi 54 rfl ?_
        rintro u54 b54
        refine gFi 55 rfl ?_
        rintro _ rfl
        refine gFi 56 rfl ?_
        rintro _ rfl
        refine gFi 57 rfl ?_
        rintro _ rfl
        refine gFi 58 rfl ?_
        rintro _ rfl
        refine gFi 59 rfl ?_
        rintro _ rfl
        refine gFi 60 rfl ?_
        rintro _ rfl
        refine gFi 61 rfl ?_
        rintro u61 b61
        refine gFi 62 rfl ?_
        rintro _ rfl
        refine gFi 4 rfl ?_
        rintro _ rfl
        refine gFi0 ?_
        simp only [List.drop_succ_cons, List.drop_zero, Act.put, List.setIfInBounds_toArray, List.set_cons_succ, List.set_cons_zero]
        have HB := hide hC.bel
        clear hC h7 b54 b61
        go_wp2
        go_ret
        exact ⟨rfl, HB.out⟩
    

end Go.Proofs.YtpcjdllijkjdkaaDoor

/- Contracts: the document's Size, with its numbers; unpack.Top. -/
set_option linter.unusedVariables false
set_option linter.unusedSimpArgs false
set_option maxRecDepth 8000
namespace Go.Proofs.YtpcjdllijkjdkaaDoor
open Go.RowKit Plain

theorem len_qq {a : Nat} (h : a < QQ) : Go.bitLen a ≤ 512 := by
  obtain ⟨q, hq⟩ : ∃ q, q = 512 := ⟨_, rfl⟩
  have e := qq_pow q hq
  have := (len_le a q).2 (by rw [e]; exact h)
  omega
theorem len_pos {a : Nat} (h : a ≠ 0) : 1 ≤ Go.bitLen a := by
  rcases Nat.eq_zero_or_pos (Go.bitLen a) with h0 | h0
  · exact absurd (by have := (len_le a 0).1 (by omega); simpa using this) h
  · exact h0
theorem len_ge {a : Nat} (h : a ≠ 0) : 2 ^ (Go.bitLen a - 1) ≤ a := by
  have h1 := len_pos h
  rcases Nat.lt_or_ge a (2 ^ (Go.bitLen a - 1)) with h2 | h2
  · have := (len_le a (Go.bitLen a - 1)).2 h2
    omega
  · exact h2
theorem len_lt (a : Nat) : a < 2 ^ Go.bitLen a := (len_le a _).1 (Nat.le_refl _)
/-- A number, held against another one: the document's Size. -/
def sizeZ (a : Nat) (ea : Int) (b : Nat) (eb : Int) : Int :=
  if a = 0 then (if b = 0 then 0 else -1) else if b = 0 then 1 else if ea + (Go.bitLen a : Int) ≠ eb + (Go.bitLen b : Int) then ea + (Go.bitLen a : Int) - eb - (Go.bitLen b : Int) else cmpN (a * 2 ^ (ea - min ea eb).toNat) (b * 2 ^ (eb - min ea eb).toNat)
/-- A number, brought to an exponent. -/
def vl (a : Nat) (e m : Int) : Nat := a * 2 ^ (e - m).toNat
theorem vl_lt {a : Nat} {e m : Int} (hm : m ≤ e) : vl a e m < 2 ^ (e + (Go.bitLen a : Int) - m).toNat := by
  have h := len_lt a
  rw [show (e + (Go.bitLen a : Int) - m).toNat = Go.bitLen a + (e - m).toNat by omega, Nat.pow_add]
  exact Nat.mul_lt_mul_of_pos_right h (Nat.two_pow_pos _)
theorem vl_ge {a : Nat} {e m : Int} (hm : m ≤ e) (h0 : a ≠ 0) : 2 ^ (e + (Go.bitLen a : Int) - 1 - m).toNat ≤ vl a e m := by
  have h := len_ge h0
  have h1 := len_pos h0
  rw [show (e + (Go.bitLen a : Int) - 1 - m).toNat = (Go.bitLen a - 1) + (e - m).toNat by omega, Nat.pow_add]
  exact Nat.mul_le_mul_right _ h
theorem vl_up {a : Nat} {e m k : Int} (hk : k ≤ m) (hm : m ≤ e) : vl a e k = vl a e m * 2 ^ (m - k).toNat := by
  unfold vl
  rw [Nat.mul_assoc, ← Nat.pow_add]
  congr 2
  omega
theorem vl_zero (e m : Int) : vl 0 e m = 0 := Nat.zero_mul _
theorem vl_pos {a : Nat} (e m : Int) (h : a ≠ 0) : 0 < vl a e m := Nat.mul_pos (Nat.pos_of_ne_zero h) (Nat.two_pow_pos _)
theorem cmpN_neg (x y : Nat) : cmpN x y < 0 ↔ x < y := by
  unfold cmpN
  repeat' split
  all_goals (constructor <;> intro h <;> omega)
theorem cmpN_zero (x y : Nat) : cmpN x y = 0 ↔ x = y := by
  unfold cmpN
  repeat' split
  all_goals (constructor <;> intro h <;> omega)
/-- What Size says: by the numbers brought to one exponent. -/
theorem sizeZ_spec (a b : Nat) (ea eb m : Int) (h1 : m ≤ ea) (h2 : m ≤ eb) : (sizeZ a ea b eb < 0 ↔ vl a ea m < vl b eb m) ∧ (sizeZ a ea b eb = 0 ↔ vl a ea m = vl b eb m) := by
  unfold sizeZ
  by_cases ha : a = 0
  · rw [if_pos ha]
    subst ha
    by_cases hb : b = 0
    · rw [if_pos hb]; subst hb; rw [vl_zero, vl_zero]; exact ⟨by omega, by omega⟩
    · rw [if_neg hb, vl_zero]
      have := vl_pos eb m hb
      exact ⟨by omega, by omega⟩
  rw [if_neg ha]
  by_cases hb : b = 0
  · rw [if_pos hb]
    subst hb
    rw [vl_zero]
    have := vl_pos ea m ha
    exact ⟨by omega, by omega⟩
  rw [if_neg hb]
  by_cases ht : ea + (Go.bitLen a : Int) ≠ eb + (Go.bitLen b : Int)
  · rw [if_pos ht]
    have la := vl_lt (a := a) h1
    have ga := vl_ge h1 ha
    have lb := vl_lt (a := b) h2
    have gb := vl_ge h2 hb
    rcases Int.lt_or_gt_of_ne ht with hl | hl
    · have : 2 ^ (ea + (Go.bitLen a : Int) - m).toNat ≤ 2 ^ (eb + (Go.bitLen b : Int) - 1 - m).toNat := Nat.pow_le_pow_right (by decide) (by omega)
      exact ⟨by omega, by omega⟩
    · have : 2 ^ (eb + (Go.bitLen b : Int) - m).toNat ≤ 2 ^ (ea + (Go.bitLen a : Int) - 1 - m).toNat := Nat.pow_le_pow_right (by decide) (by omega)
      exact ⟨by omega, by omega⟩
  · rw [if_neg ht, cmpN_neg, cmpN_zero, vl_up (a := a) (m := min ea eb) (k := m) (by omega) (by omega), vl_up (a := b) (m := min ea eb) (k := m) (by omega) (by omega)]
    have hp := Nat.two_pow_pos (min ea eb - m).toNat
    exact ⟨⟨fun h => Nat.mul_lt_mul_of_pos_right h hp, fun h => Nat.lt_of_mul_lt_mul_right h⟩, ⟨fun h => by unfold vl; rw [h], fun h => Nat.eq_of_mul_eq_mul_right hp h⟩⟩

theorem BigV.slice {W : World} {v : Value} {s K : Nat} (h : BigV W v s K) : ∃ ao l ca, v = .slice ao l ca := by
  obtain ⟨l, ⟨ao, ca, rfl, -⟩, -⟩ := h
  exact ⟨_, _, _, rfl⟩
theorem refSize_any (n1 n2 : Bool) (a b : Nat) (ea eb : Int) (u v : Value) (w : World) (hu : NumV w u n1 ea a 40) (hv : NumV w v n2 eb b 40) (ha : a < QQ) (hb : b < QQ) (hea : -100000000 ≤ ea ∧ ea ≤ 100000000) (heb : -100000000 ≤ eb ∧ eb ≤ 100000000) :
    Calls Tryd.prog 27 #[u, v] w fun e w' => e = .returned (.int .i64 (sizeZ a ea b eb)) ∧ Below w.heap.size w w' := by
  obtain ⟨u, rfl, hu⟩ := hu
  obtain ⟨v, rfl, hv⟩ := hv
  obtain ⟨ao1, l1, ca1, rfl⟩ := hu.slice
  obtain ⟨ao2, l2, ca2, rfl⟩ := hv.slice
  have la := len_qq ha
  have lb := len_qq hb
  have HLA : ∀ w, BigV w (.slice ao1 l1 ca1) a 40 → _ := fun w h => refLen_any a 40 _ w h (by decide)
  have HLB : ∀ w, BigV w (.slice ao2 l2 ca2) b 40 → _ := fun w h => refLen_any b 40 _ w h (by decide)
  unfold sizeZ
  by_cases h1 : a = 0
  · rw [if_pos h1]
    have e1 : Go.bitLen a = 0 := by rw [h1]; rfl
    rw [e1] at HLA
    by_cases h2 : b = 0
    · rw [if_pos h2]
      have e2 : Go.bitLen b = 0 := by rw [h2]; rfl
      rw [e2] at HLB
      exact size_ZZ n1 n2 ao1 ao2 l1 ca1 l2 ca2 ea eb a b 40 0 0 0 HLA HLB hea heb w hu hv
    · rw [if_neg h2]
      exact size_ZP n1 n2 ao1 ao2 l1 ca1 l2 ca2 ea eb a b 40 0 (Go.bitLen b) 0 HLA HLB ⟨len_pos h2, by omega⟩ hea heb w hu hv
  rw [if_neg h1]
  by_cases h2 : b = 0
  · rw [if_pos h2]
    have e2 : Go.bitLen b = 0 := by rw [h2]; rfl
    rw [e2] at HLB
    exact size_PZ n1 n2 ao1 ao2 l1 ca1 l2 ca2 ea eb a b 40 (Go.bitLen a) 0 0 HLA HLB ⟨len_pos h1, by omega⟩ hea heb w hu hv
  rw [if_neg h2]
  by_cases ht : ea + (Go.bitLen a : Int) ≠ eb + (Go.bitLen b : Int)
  · rw [if_pos ht]
    exact size_T n1 n2 ao1 ao2 l1 ca1 l2 ca2 ea eb a b 40 (Go.bitLen a) (Go.bitLen b) 0 HLA HLB ⟨len_pos h1, by omega⟩ ⟨len_pos h2, by omega⟩ hea heb (by unfold Hid; rw [bne_iff_ne]; exact ht) w hu hv
  · rw [if_neg ht]
    have p1 := len_pos h1
    have p2 := len_pos h2
    refine size_E n1 n2 ao1 ao2 l1 ca1 l2 ca2 ea eb a b 40 (Go.bitLen a) (Go.bitLen b) _ HLA HLB ⟨p1, by omega⟩ ⟨p2, by omega⟩ hea heb (by unfold Hid; rw [bne_eq_false_iff_eq]; omega) (min ea eb) rfl (by omega)
      (a * 2 ^ (ea - min ea eb).toNat) (b * 2 ^ (eb - min ea eb).toNat) 100
      (fun w h => (refShl_int a 40 (ea - min ea eb).toNat (ea - min ea eb) _ w h (by decide) (by omega) (by omega)).mono fun e w' ⟨q, e1, e2, e3⟩ => ⟨q, e1, e2.mono (by omega), e3⟩)
      (fun w h => (refShl_int b 40 (eb - min ea eb).toNat (eb - min ea eb) _ w h (by decide) (by omega) (by omega)).mono fun e w' ⟨q, e1, e2, e3⟩ => ⟨q, e1, e2.mono (by omega), e3⟩)
      (fun p q w hp hq => cmp_any _ _ 100 100 p q w hp hq) w hu hv

set_option maxHeartbeats 1000000 in
theorem top_Z (neg : Bool) (z : Int) (s : Nat) (hr : rgt z = true) (hz : -1048576 ≤ z ∧ z ≤ 1048576) (w : World) : Calls Tryd.prog 48 #[.agg #[.bool (neg), .int .i64 (z), .int .u64 (dgl (0) 0 : Nat), .int .u64 (dgl (0) 1 : Nat), .int .u64 (dgl (0) 2 : Nat), .int .u64 (dgl (0) 3 : Nat), .int .u64 (dgl (0) 4 : Nat), .int .u64 (dgl (0) 5 : Nat), .int .u64 (dgl (0) 6 : Nat), .int .u64 (dgl (0) 7 : Nat)]] w fun e w' => e = .returned (.tuple #[.int .i64 0, .bool false]) ∧ Below w.heap.size w w' := by
  have HR := hide (fun w => uRight_any neg z 0 w)
  rw [hr] at HR
  have HS := hide (show NB (w.alloc (.cells #[.bool (neg), .int .i64 (z), .int .u64 (dgl (0) 0 : Nat), .int .u64 (dgl (0) 1 : Nat), .int .u64 (dgl (0) 2 : Nat), .int .u64 (dgl (0) 3 : Nat), .int .u64 (dgl (0) 4 : Nat), .int .u64 (dgl (0) 5 : Nat), .int .u64 (dgl (0) 6 : Nat), .int .u64 (dgl (0) 7 : Nat)] 26)) w.heap.size neg z 0 ∧ Below w.heap.size w (w.alloc (.cells #[.bool (neg), .int .i64 (z), .int .u64 (dgl (0) 0 : Nat), .int .u64 (dgl (0) 1 : Nat), .int .u64 (dgl (0) 2 : Nat), .int .u64 (dgl (0) 3 : Nat), .int .u64 (dgl (0) 4 : Nat), .int .u64 (dgl (0) 5 : Nat), .int .u64 (dgl (0) 6 : Nat), .int .u64 (dgl (0) 7 : Nat)] 26)) from ⟨nb_new _ _ _ _ _, below_allocs _ _⟩)
  have hq : ∀ w, (Op.equalIn 10000 24 (.agg #[.int .u64 (dgl (0) 0 : Nat), .int .u64 (dgl (0) 1 : Nat), .int .u64 (dgl (0) 2 : Nat), .int .u64 (dgl (0) 3 : Nat), .int .u64 (dgl (0) 4 : Nat), .int .u64 (dgl (0) 5 : Nat), .int .u64 (dgl (0) 6 : Nat), .int .u64 (dgl (0) 7 : Nat)]) (.agg #[.int .u64 0, .int .u64 0, .int .u64 0, .int .u64 0, .int .u64 0, .int .u64 0, .int .u64 0, .int .u64 0])).run Tryd.prog w = .ok true w := fun w => by have := wide_eqz (a := 0) (Nat.lt_trans (by decide) one_lt_qq) w; simpa using this
  clear hr
  go_enter Tryd.func48, Tryd.ntmps48
  have ln := HS.out.1.n
  have le := HS.out.1.e
  have l0 := HS.out.1.x0
  have l1 := HS.out.1.x1
  have l2 := HS.out.1.x2
  have l3 := HS.out.1.x3
  have l4 := HS.out.1.x4
  have l5 := HS.out.1.x5
  have l6 := HS.out.1.x6
  have l7 := HS.out.1.x7
  go_wp2_with fail
  refine (HR.out _).mono ?_
  rintro e w1 ⟨rfl, hb1⟩
  replace HS := hide (show NB w1 w.heap.size neg z 0 ∧ Below w.heap.size w w1 from ⟨HS.out.1.below hb1, below_trans HS.out.2 hb1⟩)
  clear hb1 ln le l0 l1 l2 l3 l4 l5 l6 l7
  have ln := HS.out.1.n
  have le := HS.out.1.e
  have l0 := HS.out.1.x0
  have l1 := HS.out.1.x1
  have l2 := HS.out.1.x2
  have l3 := HS.out.1.x3
  have l4 := HS.out.1.x4
  have l5 := HS.out.1.x5
  have l6 := HS.out.1.x6
  have l7 := HS.out.1.x7
  have HB := hide HS.out.2
  clear HS
  go_wp2
  exact bodyPost_ret (v := .tuple #[.int .i64 0, .bool false]) (by simp [results, Tryd.results48, go_sem]) rfl ⟨rfl, HB.out⟩

set_option maxHeartbeats 1000000 in
theorem top_Y (neg : Bool) (z : Int) (s : Nat) (hr : rgt z = true) (hz : -1048576 ≤ z ∧ z ≤ 1048576) (hs : s < QQ) (h0 : s ≠ 0) (w : World) : Calls Tryd.prog 48 #[.agg #[.bool (neg), .int .i64 (z), .int .u64 (dgl (s) 0 : Nat), .int .u64 (dgl (s) 1 : Nat), .int .u64 (dgl (s) 2 : Nat), .int .u64 (dgl (s) 3 : Nat), .int .u64 (dgl (s) 4 : Nat), .int .u64 (dgl (s) 5 : Nat), .int .u64 (dgl (s) 6 : Nat), .int .u64 (dgl (s) 7 : Nat)]] w fun e w' => e = .returned (.tuple #[.int .i64 (z + (Go.bitLen s : Int) - 1), .bool true]) ∧ Below w.heap.size w w' := by
  have HR := hide (fun w => uRight_any neg z s w)
  rw [hr] at HR
  have HS := hide (show NB (w.alloc (.cells #[.bool (neg), .int .i64 (z), .int .u64 (dgl (s) 0 : Nat), .int .u64 (dgl (s) 1 : Nat), .int .u64 (dgl (s) 2 : Nat), .int .u64 (dgl (s) 3 : Nat), .int .u64 (dgl (s) 4 : Nat), .int .u64 (dgl (s) 5 : Nat), .int .u64 (dgl (s) 6 : Nat), .int .u64 (dgl (s) 7 : Nat)] 26)) w.heap.size neg z s ∧ Below w.heap.size w (w.alloc (.cells #[.bool (neg), .int .i64 (z), .int .u64 (dgl (s) 0 : Nat), .int .u64 (dgl (s) 1 : Nat), .int .u64 (dgl (s) 2 : Nat), .int .u64 (dgl (s) 3 : Nat), .int .u64 (dgl (s) 4 : Nat), .int .u64 (dgl (s) 5 : Nat), .int .u64 (dgl (s) 6 : Nat), .int .u64 (dgl (s) 7 : Nat)] 26)) from ⟨nb_new _ _ _ _ _, below_allocs _ _⟩)
  have hq : ∀ w, (Op.equalIn 10000 24 (.agg #[.int .u64 (dgl (s) 0 : Nat), .int .u64 (dgl (s) 1 : Nat), .int .u64 (dgl (s) 2 : Nat), .int .u64 (dgl (s) 3 : Nat), .int .u64 (dgl (s) 4 : Nat), .int .u64 (dgl (s) 5 : Nat), .int .u64 (dgl (s) 6 : Nat), .int .u64 (dgl (s) 7 : Nat)]) (.agg #[.int .u64 0, .int .u64 0, .int .u64 0, .int .u64 0, .int .u64 0, .int .u64 0, .int .u64 0, .int .u64 0])).run Tryd.prog w = .ok false w := fun w => by have := wide_eqz hs w; rw [decide_eq_false h0] at this; exact this
  have HLN := hide (fun w => wideLen_any s hs w)
  have hln := len_qq hs
  have HQ := hide hq
  clear hs h0
  generalize Go.bitLen s = l at *
  clear hr
  go_enter Tryd.func48, Tryd.ntmps48
  have ln := HS.out.1.n
  have le := HS.out.1.e
  have l0 := HS.out.1.x0
  have l1 := HS.out.1.x1
  have l2 := HS.out.1.x2
  have l3 := HS.out.1.x3
  have l4 := HS.out.1.x4
  have l5 := HS.out.1.x5
  have l6 := HS.out.1.x6
  have l7 := HS.out.1.x7
  go_wp2_with fail
  refine (HR.out _).mono ?_
  rintro e w1 ⟨rfl, hb1⟩
  replace HS := hide (show NB w1 w.heap.size neg z s ∧ Below w.heap.size w w1 from ⟨HS.out.1.below hb1, below_trans HS.out.2 hb1⟩)
  clear hb1 ln le l0 l1 l2 l3 l4 l5 l6 l7
  have ln := HS.out.1.n
  have le := HS.out.1.e
  have l0 := HS.out.1.x0
  have l1 := HS.out.1.x1
  have l2 := HS.out.1.x2
  have l3 := HS.out.1.x3
  have l4 := HS.out.1.x4
  have l5 := HS.out.1.x5
  have l6 := HS.out.1.x6
  have l7 := HS.out.1.x7
  go_upto_region 3 with fail
  refine wp_gen (fun W => NB W w.heap.size neg z s ∧ Below w.heap.size w W) HS.out ?_
  clear HS hq ln le l0 l1 l2 l3 l4 l5 l6 l7
  rintro W1 h1
  refine wp_region_grow 9 [(13, .val (.pointer (some ⟨w.heap.size, 1, none⟩))), (14, .val (.int .i64 z)), (15, .val (.pointer (some ⟨w.heap.size, 2, none⟩))), (16, .val (.agg #[.int .u64 (dgl (s) 0 : Nat), .int .u64 (dgl (s) 1 : Nat), .int .u64 (dgl (s) 2 : Nat), .int .u64 (dgl (s) 3 : Nat), .int .u64 (dgl (s) 4 : Nat), .int .u64 (dgl (s) 5 : Nat), .int .u64 (dgl (s) 6 : Nat), .int .u64 (dgl (s) 7 : Nat)])), (17, .val (.int .i64 (l : Nat))), (18, .val (.int .i64 (z + (l : Int)))), (19, .val (.int .i64 (z + (l : Int) - 1))), (2, .val (.int .i64 (z + (l : Int) - 1))), (3, .val (.bool true))]
    (fun W => NB W w.heap.size neg z s ∧ Below w.heap.size w W) mixedOk (by kernel_rfl) (by kernel_rfl) (⟨h1.1.below (Below.refl _ _).drew, below_trans h1.2 (Below.refl _ _).drew⟩) (fun W W' h hb => ⟨h.1.below hb, below_trans h.2 hb⟩) ?_ ?_
  · refine gSt (gStep_run rfl ?_) ?_
    · intro ρ W hC hc hf hL
      have e1 : ρ (.tmp 1) = .pointer (some ⟨w.heap.size, 0, none⟩) := hL 1 (by decide +kernel)
      simp [go_sem, hc, hf, e1]
      exact ⟨Below.refl _ _, rfl⟩
    refine gSt (gStep_run rfl ?_) ?_
    · intro ρ W hC hc hf hL
      have e13 : ρ (.tmp 13) = .pointer (some ⟨w.heap.size, 1, none⟩) := hL 13 (by decide +kernel)
      have l0 := hC.1.e
      simp [go_sem, hc, hf, e13, l0]
      exact ⟨Below.refl _ _, rfl⟩
    refine gSt (gStep_run rfl ?_) ?_
    · intro ρ W hC hc hf hL
      have e1 : ρ (.tmp 1) = .pointer (some ⟨w.heap.size, 0, none⟩) := hL 1 (by decide +kernel)
      simp [go_sem, hc, hf, e1]
      exact ⟨Below.refl _ _, rfl⟩
    refine gSt (gStep_run rfl ?_) ?_
    · intro ρ W hC hc hf hL
      have e15 : ρ (.tmp 15) = .pointer (some ⟨w.heap.size, 2, none⟩) := hL 15 (by decide +kernel)
      have l0 := hC.1.x0
      have l1 := hC.1.x1
      have l2 := hC.1.x2
      have l3 := hC.1.x3
      have l4 := hC.1.x4
      have l5 := hC.1.x5
      have l6 := hC.1.x6
      have l7 := hC.1.x7
      simp [go_sem, hc, hf, e15, l0, l1, l2, l3, l4, l5, l6, l7]
      exact ⟨Below.refl _ _, rfl⟩
    refine gSt (gStep_run rfl ?_) ?_
    · intro ρ W hC hc hf hL
      have e16 : ρ (.tmp 16) = .agg #[.int .u64 (dgl (s) 0 : Nat), .int .u64 (dgl (s) 1 : Nat), .int .u64 (dgl (s) 2 : Nat), .int .u64 (dgl (s) 3 : Nat), .int .u64 (dgl (s) 4 : Nat), .int .u64 (dgl (s) 5 : Nat), .int .u64 (dgl (s) 6 : Nat), .int .u64 (dgl (s) 7 : Nat)] := hL 16 (by decide +kernel)
      simp [go_sem, hc, hf, e16]
      refine (HLN.out W).mono ?_
      rintro e w' ⟨rfl, hb⟩
      exact ⟨_, rfl, by first | exact hb | (subst hb; exact Below.refl _ _), rfl⟩
    refine gSt (gStep_run rfl ?_) ?_
    · intro ρ W hC hc hf hL
      have e14 : ρ (.tmp 14) = .int .i64 z := hL 14 (by decide +kernel)
      have e17 : ρ (.tmp 17) = .int .i64 (l : Nat) := hL 17 (by decide +kernel)
      have l0 : IntKind.i64.wrap (z + (l : Int)) = z + (l : Int) := by rw [IntKind.wrap_i64]; omega
      simp [go_sem, hc, hf, e14, e17, l0]
      exact ⟨Below.refl _ _, rfl⟩
    refine gSt (gStep_run rfl ?_) ?_
    · intro ρ W hC hc hf hL
      have e18 : ρ (.tmp 18) = .int .i64 (z + (l : Int)) := hL 18 (by decide +kernel)
      have l0 : IntKind.i64.wrap (z + (l : Int) - 1) = z + (l : Int) - 1 := by rw [IntKind.wrap_i64]; omega
      simp [go_sem, hc, hf, e18, l0]
      exact ⟨Below.refl _ _, rfl⟩
    refine gSt (gStep_run rfl (gRun_move 19 2 (.inr rfl) rfl (by decide +kernel) (fun v w h => h))) ?_
    refine gSt (gStep_run rfl (gRun_const _ 3 (.inr rfl) rfl (fun w => rfl))) ?_
    exact gSt0
  · intro W hC
    refine gFi 13 rfl ?_
    rintro _ rfl
    refine gFi 14 rfl ?_
    rintro _ rfl
    refine gFi 15 rfl ?_
    rintro _ rfl
    refine gFi 16 rfl ?_
    rintro _ rfl
    refine gFi 17 rfl ?_
    rintro _ rfl
    refine gFi 18 rfl ?_
    rintro _ rfl
    refine gFi 19 rfl ?_
    rintro _ rfl
    refine gFi 2 rfl ?_
    rintro _ rfl
    refine gFi 3 rfl ?_
    rintro _ rfl
    refine gFi0 ?_
    simp only [List.drop_succ_cons, List.drop_zero, Act.put, List.setIfInBounds_toArray, List.set_cons_succ, List.set_cons_zero]
    have HB := hide hC.2
    clear hC h1
    go_wp2
    exact bodyPost_ret (v := .tuple #[.int .i64 (z + (l : Int) - 1), .bool true]) (by simp [results, Tryd.results48, go_sem]) rfl ⟨rfl, HB.out⟩

end Go.Proofs.YtpcjdllijkjdkaaDoor

/- Contracts: unpack.Short. -/
set_option linter.unusedVariables false
set_option linter.unusedSimpArgs false
set_option maxRecDepth 8000
namespace Go.Proofs.YtpcjdllijkjdkaaDoor
open Go.RowKit Plain

end Go.Proofs.YtpcjdllijkjdkaaDoor

/- Contracts: unpack.at, Exact, over what their parts tell. -/
set_option linter.unusedVariables false
set_option linter.unusedSimpArgs false
set_option maxRecDepth 8000
namespace Go.Proofs.YtpcjdllijkjdkaaDoor
open Go.RowKit Plain

structure AtSt (neg : Bool) (z : Int) (s : Nat) (w W : World) : Prop where
  n : NB W w.heap.size neg z s
  r : LiesF W (w.heap.size + 1) (fun _ => 0)
  fr : ∀ i, W.frozen? ⟨w.heap.size + 1, i, none⟩ = false
  bel : Below w.heap.size w W
theorem AtSt.below {neg : Bool} {z : Int} {s : Nat} {w W W' : World} (h : AtSt neg z s w W) (hb : Below W.heap.size W W') : AtSt neg z s w W' :=
  ⟨h.n.below hb, h.r.below hb, fun i => (hb.frozen (p := ⟨w.heap.size + 1, i, none⟩) h.r.2).trans (h.fr i), below_trans h.bel hb⟩
theorem atSt_start (neg : Bool) (z : Int) (s : Nat) (w : World) : AtSt neg z s w ((w.alloc (.cells #[.bool (neg), .int .i64 (z), .int .u64 (dgl (s) 0 : Nat), .int .u64 (dgl (s) 1 : Nat), .int .u64 (dgl (s) 2 : Nat), .int .u64 (dgl (s) 3 : Nat), .int .u64 (dgl (s) 4 : Nat), .int .u64 (dgl (s) 5 : Nat), .int .u64 (dgl (s) 6 : Nat), .int .u64 (dgl (s) 7 : Nat)] 26)).alloc (.cells #[.int .u64 0, .int .u64 0, .int .u64 0, .int .u64 0, .int .u64 0, .int .u64 0, .int .u64 0, .int .u64 0] 24)) := by
  have h1 := liesF_new (w.alloc (.cells #[.bool (neg), .int .i64 (z), .int .u64 (dgl (s) 0 : Nat), .int .u64 (dgl (s) 1 : Nat), .int .u64 (dgl (s) 2 : Nat), .int .u64 (dgl (s) 3 : Nat), .int .u64 (dgl (s) 4 : Nat), .int .u64 (dgl (s) 5 : Nat), .int .u64 (dgl (s) 6 : Nat), .int .u64 (dgl (s) 7 : Nat)] 26)) (fun _ => 0) 24
  rw [World.size_alloc] at h1
  exact ⟨(nb_new w neg z s 26).below (below_allocs _ _), h1, fun i => by simp [go_sem], below_trans (below_allocs _ _) (below_allocs _ _)⟩

set_option maxHeartbeats 2000000 in
theorem at_U (neg lost : Bool) (z x : Int) (s u : Nat)
    (hz : -1048576 ≤ z ∧ z ≤ 1048576) (hx : -3000000 ≤ x ∧ x ≤ 3000000)
    (h : x ≤ z)
    (HSH : Hid (∀ w, Calls Tryd.prog 107 #[.agg #[.int .u64 (dgl (s) 0 : Nat), .int .u64 (dgl (s) 1 : Nat), .int .u64 (dgl (s) 2 : Nat), .int .u64 (dgl (s) 3 : Nat), .int .u64 (dgl (s) 4 : Nat), .int .u64 (dgl (s) 5 : Nat), .int .u64 (dgl (s) 6 : Nat), .int .u64 (dgl (s) 7 : Nat)], .int .i64 (z - x)] w fun e w' => e = .returned (.agg #[.int .u64 (dgl (u) 0 : Nat), .int .u64 (dgl (u) 1 : Nat), .int .u64 (dgl (u) 2 : Nat), .int .u64 (dgl (u) 3 : Nat), .int .u64 (dgl (u) 4 : Nat), .int .u64 (dgl (u) 5 : Nat), .int .u64 (dgl (u) 6 : Nat), .int .u64 (dgl (u) 7 : Nat)]) ∧ Below w.heap.size w w')) (w : World) :
    Calls Tryd.prog 51 #[.agg #[.bool (neg), .int .i64 (z), .int .u64 (dgl (s) 0 : Nat), .int .u64 (dgl (s) 1 : Nat), .int .u64 (dgl (s) 2 : Nat), .int .u64 (dgl (s) 3 : Nat), .int .u64 (dgl (s) 4 : Nat), .int .u64 (dgl (s) 5 : Nat), .int .u64 (dgl (s) 6 : Nat), .int .u64 (dgl (s) 7 : Nat)], .int .i64 x] w fun e w' => e = .returned (.tuple #[.agg #[.int .u64 (dgl (u) 0 : Nat), .int .u64 (dgl (u) 1 : Nat), .int .u64 (dgl (u) 2 : Nat), .int .u64 (dgl (u) 3 : Nat), .int .u64 (dgl (u) 4 : Nat), .int .u64 (dgl (u) 5 : Nat), .int .u64 (dgl (u) 6 : Nat), .int .u64 (dgl (u) 7 : Nat)], .bool true]) ∧ Below w.heap.size w w' := by
  have HS := hide (atSt_start neg z s w)
  go_enter Tryd.func51, Tryd.ntmps51
  go_upto_region 1 with fail
  refine wp_gen (fun W => AtSt neg z s w W) HS.out ?_
  clear HS
  rintro W1 g1
  have HS := hide g1
  clear g1
  have ln := HS.out.n.n
  have le := HS.out.n.e
  have l0 := HS.out.n.x0
  have l1 := HS.out.n.x1
  have l2 := HS.out.n.x2
  have l3 := HS.out.n.x3
  have l4 := HS.out.n.x4
  have l5 := HS.out.n.x5
  have l6 := HS.out.n.x6
  have l7 := HS.out.n.x7
  go_wp2_with fail
  refine (HSH.out _).mono ?_
  rintro e w1 ⟨rfl, hb1⟩
  replace HS := hide (HS.out.below hb1)
  clear hb1 ln le l0 l1 l2 l3 l4 l5 l6 l7
  have hr := HS.out.r.1
  have hrf := HS.out.fr
  have hl := HS.out.r.2
  have HB := hide HS.out.bel
  clear HS
  go_wp2
  exact bodyPost_ret (v := .tuple #[.agg #[.int .u64 (dgl (u) 0 : Nat), .int .u64 (dgl (u) 1 : Nat), .int .u64 (dgl (u) 2 : Nat), .int .u64 (dgl (u) 3 : Nat), .int .u64 (dgl (u) 4 : Nat), .int .u64 (dgl (u) 5 : Nat), .int .u64 (dgl (u) 6 : Nat), .int .u64 (dgl (u) 7 : Nat)], .bool true]) (by simp [results, Tryd.results51, go_sem, hr, hl]) rfl ⟨rfl, below_set8 HB.out _ (by omega) _ _ _ _ _ _ _ _⟩

set_option maxHeartbeats 2000000 in
theorem at_D (neg lost : Bool) (z x : Int) (s u : Nat)
    (hz : -1048576 ≤ z ∧ z ≤ 1048576) (hx : -3000000 ≤ x ∧ x ≤ 3000000)
    (h : ¬ x ≤ z)
    (HSR : Hid (∀ w, Calls Tryd.prog 108 #[.agg #[.int .u64 (dgl (s) 0 : Nat), .int .u64 (dgl (s) 1 : Nat), .int .u64 (dgl (s) 2 : Nat), .int .u64 (dgl (s) 3 : Nat), .int .u64 (dgl (s) 4 : Nat), .int .u64 (dgl (s) 5 : Nat), .int .u64 (dgl (s) 6 : Nat), .int .u64 (dgl (s) 7 : Nat)], .int .i64 (x - z)] w fun e w' => e = .returned (.tuple #[.agg #[.int .u64 (dgl (u) 0 : Nat), .int .u64 (dgl (u) 1 : Nat), .int .u64 (dgl (u) 2 : Nat), .int .u64 (dgl (u) 3 : Nat), .int .u64 (dgl (u) 4 : Nat), .int .u64 (dgl (u) 5 : Nat), .int .u64 (dgl (u) 6 : Nat), .int .u64 (dgl (u) 7 : Nat)], .bool lost]) ∧ Below w.heap.size w w')) (w : World) :
    Calls Tryd.prog 51 #[.agg #[.bool (neg), .int .i64 (z), .int .u64 (dgl (s) 0 : Nat), .int .u64 (dgl (s) 1 : Nat), .int .u64 (dgl (s) 2 : Nat), .int .u64 (dgl (s) 3 : Nat), .int .u64 (dgl (s) 4 : Nat), .int .u64 (dgl (s) 5 : Nat), .int .u64 (dgl (s) 6 : Nat), .int .u64 (dgl (s) 7 : Nat)], .int .i64 x] w fun e w' => e = .returned (.tuple #[.agg #[.int .u64 (dgl (u) 0 : Nat), .int .u64 (dgl (u) 1 : Nat), .int .u64 (dgl (u) 2 : Nat), .int .u64 (dgl (u) 3 : Nat), .int .u64 (dgl (u) 4 : Nat), .int .u64 (dgl (u) 5 : Nat), .int .u64 (dgl (u) 6 : Nat), .int .u64 (dgl (u) 7 : Nat)], .bool (!lost)]) ∧ Below w.heap.size w w' := by
  have HS := hide (atSt_start neg z s w)
  go_enter Tryd.func51, Tryd.ntmps51
  go_upto_region 1 with fail
  refine wp_gen (fun W => AtSt neg z s w W) HS.out ?_
  clear HS
  rintro W1 g1
  have HS := hide g1
  clear g1
  have ln := HS.out.n.n
  have le := HS.out.n.e
  have l0 := HS.out.n.x0
  have l1 := HS.out.n.x1
  have l2 := HS.out.n.x2
  have l3 := HS.out.n.x3
  have l4 := HS.out.n.x4
  have l5 := HS.out.n.x5
  have l6 := HS.out.n.x6
  have l7 := HS.out.n.x7
  go_wp2_with fail
  refine (HSR.out _).mono ?_
  rintro e w1 ⟨rfl, hb1⟩
  replace HS := hide (HS.out.below hb1)
  clear hb1 ln le l0 l1 l2 l3 l4 l5 l6 l7
  go_upto_region 4 with fail
  refine wp_gen (fun W => AtSt neg z s w W ∧ LiesF W w1.heap.size (dgl u)) ⟨HS.out.below (below_allocs _ _), liesF_new _ _ _⟩ ?_
  clear HS
  generalize w1.heap.size = p6
  rintro W2 ⟨g1, g2⟩
  have HS := hide g1
  have hq := g2.1
  clear g1 g2
  have hr := HS.out.r.1
  have hrf := HS.out.fr
  have hl := HS.out.r.2
  have HB := hide HS.out.bel
  clear HS
  go_wp2
  exact bodyPost_ret (v := .tuple #[.agg #[.int .u64 (dgl (u) 0 : Nat), .int .u64 (dgl (u) 1 : Nat), .int .u64 (dgl (u) 2 : Nat), .int .u64 (dgl (u) 3 : Nat), .int .u64 (dgl (u) 4 : Nat), .int .u64 (dgl (u) 5 : Nat), .int .u64 (dgl (u) 6 : Nat), .int .u64 (dgl (u) 7 : Nat)], .bool (!lost)]) (by simp [results, Tryd.results51, go_sem, hr, hl]) rfl ⟨rfl, below_set8 HB.out _ (by omega) _ _ _ _ _ _ _ _⟩

structure Ex0 (neg : Bool) (z : Int) (s : Nat) (w W : World) : Prop where
  g : FmtG W
  gl : 1 < w.heap.size
  n : NB W w.heap.size neg z s
  r : WB W (w.heap.size + 1) 0 0
  fr : ∀ i, W.frozen? ⟨w.heap.size + 1, i, none⟩ = false
  bel : Below w.heap.size w W
theorem Ex0.below {neg : Bool} {z : Int} {s : Nat} {w W W' : World} (h : Ex0 neg z s w W) (hb : Below W.heap.size W W') : Ex0 neg z s w W' :=
  ⟨h.g.below hb, h.gl, h.n.below hb, h.r.below hb, fun i => (hb.frozen (p := ⟨w.heap.size + 1, i, none⟩) h.r.lt).trans (h.fr i), below_trans h.bel hb⟩
theorem ex0_start (neg : Bool) (z : Int) (s : Nat) (w : World) (hg : FmtG w) : Ex0 neg z s w ((w.alloc (.cells #[.bool (neg), .int .i64 (z), .int .u64 (dgl (s) 0 : Nat), .int .u64 (dgl (s) 1 : Nat), .int .u64 (dgl (s) 2 : Nat), .int .u64 (dgl (s) 3 : Nat), .int .u64 (dgl (s) 4 : Nat), .int .u64 (dgl (s) 5 : Nat), .int .u64 (dgl (s) 6 : Nat), .int .u64 (dgl (s) 7 : Nat)] 26)).alloc (.cells #[.int .u64 0, .int .u64 0] 28)) := by
  have h1 := wb_new (w.alloc (.cells #[.bool (neg), .int .i64 (z), .int .u64 (dgl (s) 0 : Nat), .int .u64 (dgl (s) 1 : Nat), .int .u64 (dgl (s) 2 : Nat), .int .u64 (dgl (s) 3 : Nat), .int .u64 (dgl (s) 4 : Nat), .int .u64 (dgl (s) 5 : Nat), .int .u64 (dgl (s) 6 : Nat), .int .u64 (dgl (s) 7 : Nat)] 26)) 28
  rw [World.size_alloc] at h1
  exact ⟨(hg.below (below_allocs _ _)).below (below_allocs _ _), hg.lt, (nb_new w neg z s 26).below (below_allocs _ _), h1, fun i => by simp [go_sem], below_trans (below_allocs _ _) (below_allocs _ _)⟩
structure ExSt (neg : Bool) (z : Int) (s p6 : Nat) (k : Nat → Int) (c1 c0 : Nat) (w W : World) : Prop where
  g : FmtG W
  gl : 1 < w.heap.size
  n : NB W w.heap.size neg z s
  r : WB W (w.heap.size + 1) c1 c0
  fr : ∀ i, W.frozen? ⟨w.heap.size + 1, i, none⟩ = false
  rk : ∀ i, i < 5 → W.cell? ⟨p6, i, none⟩ = some (.int .i64 (k i))
  lk : p6 < W.heap.size
  lo : w.heap.size + 1 < p6
  bel : Below w.heap.size w W
theorem ExSt.under {neg : Bool} {z : Int} {s p6 : Nat} {k : Nat → Int} {c1 c0 : Nat} {w W W' : World} (h : ExSt neg z s p6 k c1 c0 w W) {C : Nat} (hb : Below C W W') (hc : p6 < C) : ExSt neg z s p6 k c1 c0 w W' := by
  have hl := h.lo
  have h1 : w.heap.size + 1 < C := by omega
  have h0 : w.heap.size < C := by omega
  exact ⟨⟨fun i hi => (hb.cell (p := ⟨1, i, none⟩) (show 1 < _ by have := h.gl; omega)).trans (h.g.c i hi), Nat.lt_of_lt_of_le h.g.lt hb.size⟩, h.gl, h.n.under hb h0,
    ⟨(hb.cell (p := ⟨w.heap.size + 1, 0, none⟩) h1).trans h.r.h, (hb.cell (p := ⟨w.heap.size + 1, 1, none⟩) h1).trans h.r.l, Nat.lt_of_lt_of_le h.r.lt hb.size⟩, fun i => (hb.frozen (p := ⟨w.heap.size + 1, i, none⟩) h1).trans (h.fr i),
    fun i hi => (hb.cell (p := ⟨p6, i, none⟩) hc).trans (h.rk i hi), Nat.lt_of_lt_of_le h.lk hb.size, h.lo, h.bel.trans (hb.mono (by omega))⟩
theorem ExSt.below {neg : Bool} {z : Int} {s p6 : Nat} {k : Nat → Int} {c1 c0 : Nat} {w W W' : World} (h : ExSt neg z s p6 k c1 c0 w W) (hb : Below W.heap.size W W') : ExSt neg z s p6 k c1 c0 w W' := h.under hb h.lk
theorem exSt_start {neg : Bool} {z : Int} {s : Nat} {w W : World} (k : Nat → Int) (h : Ex0 neg z s w W) : ExSt neg z s W.heap.size k 0 0 w (W.alloc (.cells #[.int .i64 (k 0), .int .i64 (k 1), .int .i64 (k 2), .int .i64 (k 3), .int .i64 (k 4)] 85)) := by
  have h1 := h.below (below_allocs W (.cells #[.int .i64 (k 0), .int .i64 (k 1), .int .i64 (k 2), .int .i64 (k 3), .int .i64 (k 4)] 85))
  exact ⟨h1.g, h1.gl, h1.n, h1.r, h1.fr, fun i hi => rec5_new W k _ i hi, by simp, h.r.lt, h1.bel⟩
theorem ExSt.setR {neg : Bool} {z : Int} {s p6 : Nat} {k : Nat → Int} {c1 c0 : Nat} {w W : World} (h : ExSt neg z s p6 k c1 c0 w W) (d1 d0 : Nat) : ExSt neg z s p6 k d1 d0 w ((W.setCell ⟨w.heap.size + 1, 0, none⟩ (.int .u64 (d1 : Nat))).setCell ⟨w.heap.size + 1, 1, none⟩ (.int .u64 (d0 : Nat))) := by
  have hl := h.lo
  have hk := h.rk
  have hb := ((Below.refl (w.heap.size + 1) W).setCell (p := ⟨w.heap.size + 1, 0, none⟩) (Nat.le_refl _) (.int .u64 (d1 : Nat))).setCell (p := ⟨w.heap.size + 1, 1, none⟩) (Nat.le_refl _) (.int .u64 (d0 : Nat))
  have hne : ¬ p6 = w.heap.size + 1 := by omega
  refine ⟨⟨fun i hi => (hb.cell (p := ⟨1, i, none⟩) (show 1 < _ by have := h.gl; omega)).trans (h.g.c i hi), Nat.lt_of_lt_of_le h.g.lt hb.size⟩, h.gl, h.n.under hb (Nat.lt_succ_self _), wb_set h.r, fun i => by simpa [go_sem] using h.fr i, fun i hi => ?_, Nat.lt_of_lt_of_le h.lk hb.size, h.lo, h.bel.trans (hb.mono (Nat.le_succ _))⟩
  have := hk i hi
  simp [go_sem, this, hne]
theorem lies_set2 {W : World} {b R : Nat} {f : Nat → Nat} {x y : Value} (h : LiesF W b f) (hne : b ≠ R) : LiesF ((W.setCell ⟨R, 0, none⟩ x).setCell ⟨R, 1, none⟩ y) b f := by
  refine ⟨fun i hi => ?_, by simpa using h.2⟩
  have := h.1 i hi
  simp [go_sem, this, hne]

set_option maxHeartbeats 4000000 in
theorem exact_A (f z tp lo la : Int) (neg wh ok ov : Bool) (k : Nat → Int) (s u v l pw c : Nat)
    (HO : Hid (∀ w, FmtG w → Calls Tryd.prog 47 #[.int .i64 f] w fun e w' => e = .returned (.tuple #[.agg #[.int .i64 (k 0), .int .i64 (k 1), .int .i64 (k 2), .int .i64 (k 3), .int .i64 (k 4)], .bool false]) ∧ Below w.heap.size w w')) (w : World) (hg : FmtG w) :
    Calls Tryd.prog 11 #[.int .i64 f, .agg #[.bool (neg), .int .i64 (z), .int .u64 (dgl (s) 0 : Nat), .int .u64 (dgl (s) 1 : Nat), .int .u64 (dgl (s) 2 : Nat), .int .u64 (dgl (s) 3 : Nat), .int .u64 (dgl (s) 4 : Nat), .int .u64 (dgl (s) 5 : Nat), .int .u64 (dgl (s) 6 : Nat), .int .u64 (dgl (s) 7 : Nat)]] w fun e w' => e = .returned (.tuple #[.agg #[.int .u64 0, .int .u64 0], .bool false]) ∧ Below w.heap.size w w' := by
  have HS := hide (ex0_start neg z s w hg)
  clear hg
  go_enter Tryd.func11, Tryd.ntmps11
  go_wp2_with fail
  refine (HO.out _ HS.out.g).mono ?_
  rintro e w1 ⟨rfl, hb1⟩
  replace HS := hide (HS.out.below hb1)
  clear hb1
  go_upto_region 2 with fail
  refine wp_gen (fun W => ExSt neg z s w1.heap.size k 0 0 w W) (by have h := exSt_start k HS.out; exact h) ?_
  clear HS
  generalize w1.heap.size = p6
  rintro W1 g1
  have HS := hide g1
  clear g1
  have q0 := HS.out.r.h
  have q1 := HS.out.r.l
  have hrf := HS.out.fr
  have hlt := HS.out.r.lt
  have HB := hide HS.out.bel
  clear HS
  go_wp2
  exact bodyPost_ret (v := .tuple #[.agg #[.int .u64 0, .int .u64 0], .bool false]) (by simp [results, Tryd.results11, go_sem, hlt, q0, q1]) rfl ⟨rfl, (HB.out.setCell (p := ⟨w.heap.size + 1, 0, none⟩) (Nat.le_succ _) _).setCell (p := ⟨w.heap.size + 1, 1, none⟩) (Nat.le_succ _) _⟩

set_option maxHeartbeats 4000000 in
theorem exact_B (f z tp lo la : Int) (neg wh ok ov : Bool) (k : Nat → Int) (s u v l pw c : Nat)
    (HO : Hid (∀ w, FmtG w → Calls Tryd.prog 47 #[.int .i64 f] w fun e w' => e = .returned (.tuple #[.agg #[.int .i64 (k 0), .int .i64 (k 1), .int .i64 (k 2), .int .i64 (k 3), .int .i64 (k 4)], .bool true]) ∧ Below w.heap.size w w'))
    (HR : Hid (∀ w, Calls Tryd.prog 14 #[.agg #[.bool (neg), .int .i64 (z), .int .u64 (dgl (s) 0 : Nat), .int .u64 (dgl (s) 1 : Nat), .int .u64 (dgl (s) 2 : Nat), .int .u64 (dgl (s) 3 : Nat), .int .u64 (dgl (s) 4 : Nat), .int .u64 (dgl (s) 5 : Nat), .int .u64 (dgl (s) 6 : Nat), .int .u64 (dgl (s) 7 : Nat)]] w fun e w' => e = .returned (.bool false) ∧ Below w.heap.size w w')) (w : World) (hg : FmtG w) :
    Calls Tryd.prog 11 #[.int .i64 f, .agg #[.bool (neg), .int .i64 (z), .int .u64 (dgl (s) 0 : Nat), .int .u64 (dgl (s) 1 : Nat), .int .u64 (dgl (s) 2 : Nat), .int .u64 (dgl (s) 3 : Nat), .int .u64 (dgl (s) 4 : Nat), .int .u64 (dgl (s) 5 : Nat), .int .u64 (dgl (s) 6 : Nat), .int .u64 (dgl (s) 7 : Nat)]] w fun e w' => e = .returned (.tuple #[.agg #[.int .u64 0, .int .u64 0], .bool false]) ∧ Below w.heap.size w w' := by
  have HS := hide (ex0_start neg z s w hg)
  clear hg
  go_enter Tryd.func11, Tryd.ntmps11
  go_wp2_with fail
  refine (HO.out _ HS.out.g).mono ?_
  rintro e w1 ⟨rfl, hb1⟩
  replace HS := hide (HS.out.below hb1)
  clear hb1
  go_upto_region 2 with fail
  refine wp_gen (fun W => ExSt neg z s w1.heap.size k 0 0 w W) (by have h := exSt_start k HS.out; exact h) ?_
  clear HS
  generalize w1.heap.size = p6
  rintro W1 g1
  have HS := hide g1
  clear g1
  have ln := HS.out.n.n
  have le := HS.out.n.e
  have l0 := HS.out.n.x0
  have l1 := HS.out.n.x1
  have l2 := HS.out.n.x2
  have l3 := HS.out.n.x3
  have l4 := HS.out.n.x4
  have l5 := HS.out.n.x5
  have l6 := HS.out.n.x6
  have l7 := HS.out.n.x7
  go_wp2_with fail
  refine (HR.out _).mono ?_
  rintro e w2 ⟨rfl, hb2⟩
  replace HS := hide (HS.out.below hb2)
  clear hb2 ln le l0 l1 l2 l3 l4 l5 l6 l7
  have q0 := HS.out.r.h
  have q1 := HS.out.r.l
  have hrf := HS.out.fr
  have hlt := HS.out.r.lt
  have HB := hide HS.out.bel
  clear HS
  go_wp2
  exact bodyPost_ret (v := .tuple #[.agg #[.int .u64 0, .int .u64 0], .bool false]) (by simp [results, Tryd.results11, go_sem, hlt, q0, q1]) rfl ⟨rfl, (HB.out.setCell (p := ⟨w.heap.size + 1, 0, none⟩) (Nat.le_succ _) _).setCell (p := ⟨w.heap.size + 1, 1, none⟩) (Nat.le_succ _) _⟩

set_option maxHeartbeats 4000000 in
theorem exact_Z (f z tp lo la : Int) (neg wh ok ov : Bool) (k : Nat → Int) (s u v l pw c : Nat)
    (HO : Hid (∀ w, FmtG w → Calls Tryd.prog 47 #[.int .i64 f] w fun e w' => e = .returned (.tuple #[.agg #[.int .i64 (k 0), .int .i64 (k 1), .int .i64 (k 2), .int .i64 (k 3), .int .i64 (k 4)], .bool true]) ∧ Below w.heap.size w w'))
    (HR : Hid (∀ w, Calls Tryd.prog 14 #[.agg #[.bool (neg), .int .i64 (z), .int .u64 (dgl (s) 0 : Nat), .int .u64 (dgl (s) 1 : Nat), .int .u64 (dgl (s) 2 : Nat), .int .u64 (dgl (s) 3 : Nat), .int .u64 (dgl (s) 4 : Nat), .int .u64 (dgl (s) 5 : Nat), .int .u64 (dgl (s) 6 : Nat), .int .u64 (dgl (s) 7 : Nat)]] w fun e w' => e = .returned (.bool true) ∧ Below w.heap.size w w'))
    (HT : Hid (∀ w, Calls Tryd.prog 48 #[.agg #[.bool (neg), .int .i64 (z), .int .u64 (dgl (s) 0 : Nat), .int .u64 (dgl (s) 1 : Nat), .int .u64 (dgl (s) 2 : Nat), .int .u64 (dgl (s) 3 : Nat), .int .u64 (dgl (s) 4 : Nat), .int .u64 (dgl (s) 5 : Nat), .int .u64 (dgl (s) 6 : Nat), .int .u64 (dgl (s) 7 : Nat)]] w fun e w' => e = .returned (.tuple #[.int .i64 0, .bool false]) ∧ Below w.heap.size w w'))
    (HNO : Hid (∀ w, FmtG w → Calls Tryd.prog 49 #[.int .i64 f, .bool neg] w fun e w' => e = .returned (.agg #[.int .u64 (dgl (c) 1 : Nat), .int .u64 (dgl (c) 0 : Nat)]) ∧ Below w.heap.size w w')) (w : World) (hg : FmtG w) :
    Calls Tryd.prog 11 #[.int .i64 f, .agg #[.bool (neg), .int .i64 (z), .int .u64 (dgl (s) 0 : Nat), .int .u64 (dgl (s) 1 : Nat), .int .u64 (dgl (s) 2 : Nat), .int .u64 (dgl (s) 3 : Nat), .int .u64 (dgl (s) 4 : Nat), .int .u64 (dgl (s) 5 : Nat), .int .u64 (dgl (s) 6 : Nat), .int .u64 (dgl (s) 7 : Nat)]] w fun e w' => e = .returned (.tuple #[.agg #[.int .u64 (dgl (c) 1 : Nat), .int .u64 (dgl (c) 0 : Nat)], .bool true]) ∧ Below w.heap.size w w' := by
  have HS := hide (ex0_start neg z s w hg)
  clear hg
  go_enter Tryd.func11, Tryd.ntmps11
  go_wp2_with fail
  refine (HO.out _ HS.out.g).mono ?_
  rintro e w1 ⟨rfl, hb1⟩
  replace HS := hide (HS.out.below hb1)
  clear hb1
  go_upto_region 2 with fail
  refine wp_gen (fun W => ExSt neg z s w1.heap.size k 0 0 w W) (by have h := exSt_start k HS.out; exact h) ?_
  clear HS
  generalize w1.heap.size = p6
  rintro W1 g1
  have HS := hide g1
  clear g1
  have ln := HS.out.n.n
  have le := HS.out.n.e
  have l0 := HS.out.n.x0
  have l1 := HS.out.n.x1
  have l2 := HS.out.n.x2
  have l3 := HS.out.n.x3
  have l4 := HS.out.n.x4
  have l5 := HS.out.n.x5
  have l6 := HS.out.n.x6
  have l7 := HS.out.n.x7
  go_wp2_with fail
  refine (HR.out _).mono ?_
  rintro e w2 ⟨rfl, hb2⟩
  replace HS := hide (HS.out.below hb2)
  clear hb2 ln le l0 l1 l2 l3 l4 l5 l6 l7
  have ln := HS.out.n.n
  have le := HS.out.n.e
  have l0 := HS.out.n.x0
  have l1 := HS.out.n.x1
  have l2 := HS.out.n.x2
  have l3 := HS.out.n.x3
  have l4 := HS.out.n.x4
  have l5 := HS.out.n.x5
  have l6 := HS.out.n.x6
  have l7 := HS.out.n.x7
  go_wp2_with fail
  refine (HT.out _).mono ?_
  rintro e w3 ⟨rfl, hb3⟩
  replace HS := hide (HS.out.below hb3)
  clear hb3 ln le l0 l1 l2 l3 l4 l5 l6 l7
  have ln := HS.out.n.n
  have le := HS.out.n.e
  have l0 := HS.out.n.x0
  have l1 := HS.out.n.x1
  have l2 := HS.out.n.x2
  have l3 := HS.out.n.x3
  have l4 := HS.out.n.x4
  have l5 := HS.out.n.x5
  have l6 := HS.out.n.x6
  have l7 := HS.out.n.x7
  go_wp2_with fail
  refine (HNO.out _ HS.out.g).mono ?_
  rintro e w4 ⟨rfl, hb4⟩
  replace HS := hide (HS.out.below hb4)
  clear hb4 ln le l0 l1 l2 l3 l4 l5 l6 l7
  have q0 := HS.out.r.h
  have q1 := HS.out.r.l
  have hrf := HS.out.fr
  have hlt := HS.out.r.lt
  have HB := hide HS.out.bel
  clear HS
  go_wp2
  exact bodyPost_ret (v := .tuple #[.agg #[.int .u64 (dgl (c) 1 : Nat), .int .u64 (dgl (c) 0 : Nat)], .bool true]) (by simp [results, Tryd.results11, go_sem, hlt, q0, q1]) rfl ⟨rfl, (HB.out.setCell (p := ⟨w.heap.size + 1, 0, none⟩) (Nat.le_succ _) _).setCell (p := ⟨w.heap.size + 1, 1, none⟩) (Nat.le_succ _) _⟩

set_option maxHeartbeats 4000000 in
theorem exact_F1 (f z tp lo la : Int) (neg wh ok ov : Bool) (k : Nat → Int) (s u v l pw c : Nat)
    (HO : Hid (∀ w, FmtG w → Calls Tryd.prog 47 #[.int .i64 f] w fun e w' => e = .returned (.tuple #[.agg #[.int .i64 (k 0), .int .i64 (k 1), .int .i64 (k 2), .int .i64 (k 3), .int .i64 (k 4)], .bool true]) ∧ Below w.heap.size w w'))
    (HR : Hid (∀ w, Calls Tryd.prog 14 #[.agg #[.bool (neg), .int .i64 (z), .int .u64 (dgl (s) 0 : Nat), .int .u64 (dgl (s) 1 : Nat), .int .u64 (dgl (s) 2 : Nat), .int .u64 (dgl (s) 3 : Nat), .int .u64 (dgl (s) 4 : Nat), .int .u64 (dgl (s) 5 : Nat), .int .u64 (dgl (s) 6 : Nat), .int .u64 (dgl (s) 7 : Nat)]] w fun e w' => e = .returned (.bool true) ∧ Below w.heap.size w w'))
    (HT : Hid (∀ w, Calls Tryd.prog 48 #[.agg #[.bool (neg), .int .i64 (z), .int .u64 (dgl (s) 0 : Nat), .int .u64 (dgl (s) 1 : Nat), .int .u64 (dgl (s) 2 : Nat), .int .u64 (dgl (s) 3 : Nat), .int .u64 (dgl (s) 4 : Nat), .int .u64 (dgl (s) 5 : Nat), .int .u64 (dgl (s) 6 : Nat), .int .u64 (dgl (s) 7 : Nat)]] w fun e w' => e = .returned (.tuple #[.int .i64 tp, .bool true]) ∧ Below w.heap.size w w'))
    (htp : -3000000 ≤ tp ∧ tp ≤ 3000000) (hk1 : 1 ≤ k 1 ∧ k 1 ≤ 200) (hlo : -20000 ≤ lo ∧ lo ≤ 0) (HMX : Hid (max (tp - k 1 + 1) lo = la)) (hla : -3000000 ≤ la ∧ la ≤ 3000000)
    (HLO : Hid (∀ w, Calls Tryd.prog 50 #[.agg #[.int .i64 (k 0), .int .i64 (k 1), .int .i64 (k 2), .int .i64 (k 3), .int .i64 (k 4)]] w fun e w' => e = .returned (.int .i64 lo) ∧ Below w.heap.size w w'))
    (HAT : Hid (∀ w, Calls Tryd.prog 51 #[.agg #[.bool (neg), .int .i64 (z), .int .u64 (dgl (s) 0 : Nat), .int .u64 (dgl (s) 1 : Nat), .int .u64 (dgl (s) 2 : Nat), .int .u64 (dgl (s) 3 : Nat), .int .u64 (dgl (s) 4 : Nat), .int .u64 (dgl (s) 5 : Nat), .int .u64 (dgl (s) 6 : Nat), .int .u64 (dgl (s) 7 : Nat)], .int .i64 la] w fun e w' => e = .returned (.tuple #[.agg #[.int .u64 (dgl (u) 0 : Nat), .int .u64 (dgl (u) 1 : Nat), .int .u64 (dgl (u) 2 : Nat), .int .u64 (dgl (u) 3 : Nat), .int .u64 (dgl (u) 4 : Nat), .int .u64 (dgl (u) 5 : Nat), .int .u64 (dgl (u) 6 : Nat), .int .u64 (dgl (u) 7 : Nat)], .bool wh]) ∧ Below w.heap.size w w'))
    (HEM : Hid (k 2 < tp)) (w : World) (hg : FmtG w) :
    Calls Tryd.prog 11 #[.int .i64 f, .agg #[.bool (neg), .int .i64 (z), .int .u64 (dgl (s) 0 : Nat), .int .u64 (dgl (s) 1 : Nat), .int .u64 (dgl (s) 2 : Nat), .int .u64 (dgl (s) 3 : Nat), .int .u64 (dgl (s) 4 : Nat), .int .u64 (dgl (s) 5 : Nat), .int .u64 (dgl (s) 6 : Nat), .int .u64 (dgl (s) 7 : Nat)]] w fun e w' => e = .returned (.tuple #[.agg #[.int .u64 0, .int .u64 0], .bool false]) ∧ Below w.heap.size w w' := by
  have HS := hide (ex0_start neg z s w hg)
  clear hg
  go_enter Tryd.func11, Tryd.ntmps11
  go_wp2_with fail
  refine (HO.out _ HS.out.g).mono ?_
  rintro e w1 ⟨rfl, hb1⟩
  replace HS := hide (HS.out.below hb1)
  clear hb1
  go_upto_region 2 with fail
  refine wp_gen (fun W => ExSt neg z s w1.heap.size k 0 0 w W) (by have h := exSt_start k HS.out; exact h) ?_
  clear HS
  generalize w1.heap.size = p6
  rintro W1 g1
  have HS := hide g1
  clear g1
  have ln := HS.out.n.n
  have le := HS.out.n.e
  have l0 := HS.out.n.x0
  have l1 := HS.out.n.x1
  have l2 := HS.out.n.x2
  have l3 := HS.out.n.x3
  have l4 := HS.out.n.x4
  have l5 := HS.out.n.x5
  have l6 := HS.out.n.x6
  have l7 := HS.out.n.x7
  go_wp2_with fail
  refine (HR.out _).mono ?_
  rintro e w2 ⟨rfl, hb2⟩
  replace HS := hide (HS.out.below hb2)
  clear hb2 ln le l0 l1 l2 l3 l4 l5 l6 l7
  have ln := HS.out.n.n
  have le := HS.out.n.e
  have l0 := HS.out.n.x0
  have l1 := HS.out.n.x1
  have l2 := HS.out.n.x2
  have l3 := HS.out.n.x3
  have l4 := HS.out.n.x4
  have l5 := HS.out.n.x5
  have l6 := HS.out.n.x6
  have l7 := HS.out.n.x7
  go_wp2_with fail
  refine (HT.out _).mono ?_
  rintro e w3 ⟨rfl, hb3⟩
  replace HS := hide (HS.out.below hb3)
  clear hb3 ln le l0 l1 l2 l3 l4 l5 l6 l7
  go_upto_region 7 with fail
  refine wp_gen (fun W => ExSt neg z s p6 k 0 0 w W) HS.out ?_
  clear HS
  rintro W4 h7
  refine wp_region_grow 9 [(39, .val (.int .i64 tp)), (40, .val (.pointer (some ⟨p6, 1, none⟩))), (41, .val (.int .i64 (k 1))), (42, .val (.int .i64 (tp - k 1))), (43, .val (.int .i64 (tp - k 1 + 1))), (44, .val (.agg #[.int .i64 (k 0), .int .i64 (k 1), .int .i64 (k 2), .int .i64 (k 3), .int .i64 (k 4)])), (45, .val (.int .i64 lo)), (46, .val (.int .i64 la)), (10, .val (.int .i64 la))]
    (fun W => ExSt neg z s p6 k 0 0 w W) mixedOk (by kernel_rfl) (by kernel_rfl) (h7.below (Below.refl _ _).drew) (fun W W' h hb => h.below hb) ?_ ?_
  · refine gSt (gStep_run rfl (gRun_move 8 39 (.inl rfl) rfl (by decide +kernel) (fun v w h => h))) ?_
    refine gSt (gStep_run rfl ?_) ?_
    · intro ρ W hC hc hf hL
      have e6 : ρ (.tmp 6) = .pointer (some ⟨p6, 0, none⟩) := hL 6 (by decide +kernel)
      simp [go_sem, hc, hf, e6]
      exact ⟨Below.refl _ _, rfl⟩
    refine gSt (gStep_run rfl ?_) ?_
    · intro ρ W hC hc hf hL
      have e40 : ρ (.tmp 40) = .pointer (some ⟨p6, 1, none⟩) := hL 40 (by decide +kernel)
      have l0 := hC.rk 1 (by decide)
      simp [go_sem, hc, hf, e40, l0]
      exact ⟨Below.refl _ _, rfl⟩
    refine gSt (gStep_run rfl ?_) ?_
    · intro ρ W hC hc hf hL
      have e39 : ρ (.tmp 39) = .int .i64 tp := hL 39 (by decide +kernel)
      have e41 : ρ (.tmp 41) = .int .i64 (k 1) := hL 41 (by decide +kernel)
      have l0 : IntKind.i64.wrap (tp - k 1) = tp - k 1 := by rw [IntKind.wrap_i64]; omega
      simp [go_sem, hc, hf, e39, e41, l0]
      exact ⟨Below.refl _ _, rfl⟩
    refine gSt (gStep_run rfl ?_) ?_
    · intro ρ W hC hc hf hL
      have e42 : ρ (.tmp 42) = .int .i64 (tp - k 1) := hL 42 (by decide +kernel)
      have l0 : IntKind.i64.wrap (tp - k 1 + 1) = tp - k 1 + 1 := by rw [IntKind.wrap_i64]; omega
      simp [go_sem, hc, hf, e42, l0]
      exact ⟨Below.refl _ _, rfl⟩
    refine gSt (gStep_run rfl ?_) ?_
    · intro ρ W hC hc hf hL
      have e6 : ρ (.tmp 6) = .pointer (some ⟨p6, 0, none⟩) := hL 6 (by decide +kernel)
      have l0 := hC.rk
      simp [go_sem, hc, hf, e6, l0]
      exact ⟨Below.refl _ _, rfl⟩
    refine gSt (gStep_run rfl ?_) ?_
    · intro ρ W hC hc hf hL
      have e44 : ρ (.tmp 44) = .agg #[.int .i64 (k 0), .int .i64 (k 1), .int .i64 (k 2), .int .i64 (k 3), .int .i64 (k 4)] := hL 44 (by decide +kernel)
      simp [go_sem, hc, hf, e44]
      refine (HLO.out W).mono ?_
      rintro e w' ⟨rfl, hb⟩
      exact ⟨_, rfl, by first | exact hb | (subst hb; exact Below.refl _ _), rfl⟩
    refine gSt (gStep_run rfl ?_) ?_
    · intro ρ W hC hc hf hL
      have e43 : ρ (.tmp 43) = .int .i64 (tp - k 1 + 1) := hL 43 (by decide +kernel)
      have e45 : ρ (.tmp 45) = .int .i64 lo := hL 45 (by decide +kernel)
      have l0 := HMX.out
      simp [go_sem, hc, hf, e43, e45, l0]
      exact ⟨Below.refl _ _, rfl⟩
    refine gSt (gStep_run rfl (gRun_move 46 10 (.inr rfl) rfl (by decide +kernel) (fun v w h => h))) ?_
    exact gSt0
  · intro W hC
    refine gFi 39 rfl ?_
    rintro _ rfl
    refine gFi 40 rfl ?_
    rintro _ rfl
    refine gFi 41 rfl ?_
    rintro _ rfl
    refine gFi 42 rfl ?_
    rintro _ rfl
    refine gFi 43 rfl ?_
    rintro _ rfl
    refine gFi 44 rfl ?_
    rintro _ rfl
    refine gFi 45 rfl ?_
    rintro _ rfl
    refine gFi 46 rfl ?_
    rintro _ rfl
    refine gFi 10 rfl ?_
    rintro _ rfl
    refine gFi0 ?_
    simp only [List.drop_succ_cons, List.drop_zero, Act.put, List.setIfInBounds_toArray, List.set_cons_succ, List.set_cons_zero]
    have HS := hide hC
    clear hC h7
    have ln := HS.out.n.n
    have le := HS.out.n.e
    have l0 := HS.out.n.x0
    have l1 := HS.out.n.x1
    have l2 := HS.out.n.x2
    have l3 := HS.out.n.x3
    have l4 := HS.out.n.x4
    have l5 := HS.out.n.x5
    have l6 := HS.out.n.x6
    have l7 := HS.out.n.x7
    go_wp2_with fail
    refine (HAT.out _).mono ?_
    rintro e w5 ⟨rfl, hb5⟩
    replace HS := hide (HS.out.below hb5)
    clear hb5 ln le l0 l1 l2 l3 l4 l5 l6 l7
    go_upto_region 9 with fail
    refine wp_gen (fun W => ExSt neg z s p6 k 0 0 w W ∧ LiesF W w5.heap.size (dgl u)) ⟨HS.out.below (below_allocs _ _), liesF_new _ _ _⟩ ?_
    clear HS
    generalize w5.heap.size = p11
    rintro W5 ⟨g1, g2⟩
    have HS := hide g1
    have HL := hide g2
    have hk := g1.rk
    clear g1 g2
    have hem := HEM.out
    have q0 := HS.out.r.h
    have q1 := HS.out.r.l
    have hrf := HS.out.fr
    have hlt := HS.out.r.lt
    have HB := hide HS.out.bel
    clear HS
    go_wp2
    exact bodyPost_ret (v := .tuple #[.agg #[.int .u64 0, .int .u64 0], .bool false]) (by simp [results, Tryd.results11, go_sem, hlt, q0, q1]) rfl ⟨rfl, (HB.out.setCell (p := ⟨w.heap.size + 1, 0, none⟩) (Nat.le_succ _) _).setCell (p := ⟨w.heap.size + 1, 1, none⟩) (Nat.le_succ _) _⟩
    

set_option maxHeartbeats 4000000 in
theorem exact_F2 (f z tp lo la : Int) (neg wh ok ov : Bool) (k : Nat → Int) (s u v l pw c : Nat)
    (HO : Hid (∀ w, FmtG w → Calls Tryd.prog 47 #[.int .i64 f] w fun e w' => e = .returned (.tuple #[.agg #[.int .i64 (k 0), .int .i64 (k 1), .int .i64 (k 2), .int .i64 (k 3), .int .i64 (k 4)], .bool true]) ∧ Below w.heap.size w w'))
    (HR : Hid (∀ w, Calls Tryd.prog 14 #[.agg #[.bool (neg), .int .i64 (z), .int .u64 (dgl (s) 0 : Nat), .int .u64 (dgl (s) 1 : Nat), .int .u64 (dgl (s) 2 : Nat), .int .u64 (dgl (s) 3 : Nat), .int .u64 (dgl (s) 4 : Nat), .int .u64 (dgl (s) 5 : Nat), .int .u64 (dgl (s) 6 : Nat), .int .u64 (dgl (s) 7 : Nat)]] w fun e w' => e = .returned (.bool true) ∧ Below w.heap.size w w'))
    (HT : Hid (∀ w, Calls Tryd.prog 48 #[.agg #[.bool (neg), .int .i64 (z), .int .u64 (dgl (s) 0 : Nat), .int .u64 (dgl (s) 1 : Nat), .int .u64 (dgl (s) 2 : Nat), .int .u64 (dgl (s) 3 : Nat), .int .u64 (dgl (s) 4 : Nat), .int .u64 (dgl (s) 5 : Nat), .int .u64 (dgl (s) 6 : Nat), .int .u64 (dgl (s) 7 : Nat)]] w fun e w' => e = .returned (.tuple #[.int .i64 tp, .bool true]) ∧ Below w.heap.size w w'))
    (htp : -3000000 ≤ tp ∧ tp ≤ 3000000) (hk1 : 1 ≤ k 1 ∧ k 1 ≤ 200) (hlo : -20000 ≤ lo ∧ lo ≤ 0) (HMX : Hid (max (tp - k 1 + 1) lo = la)) (hla : -3000000 ≤ la ∧ la ≤ 3000000)
    (HLO : Hid (∀ w, Calls Tryd.prog 50 #[.agg #[.int .i64 (k 0), .int .i64 (k 1), .int .i64 (k 2), .int .i64 (k 3), .int .i64 (k 4)]] w fun e w' => e = .returned (.int .i64 lo) ∧ Below w.heap.size w w'))
    (HAT : Hid (∀ w, Calls Tryd.prog 51 #[.agg #[.bool (neg), .int .i64 (z), .int .u64 (dgl (s) 0 : Nat), .int .u64 (dgl (s) 1 : Nat), .int .u64 (dgl (s) 2 : Nat), .int .u64 (dgl (s) 3 : Nat), .int .u64 (dgl (s) 4 : Nat), .int .u64 (dgl (s) 5 : Nat), .int .u64 (dgl (s) 6 : Nat), .int .u64 (dgl (s) 7 : Nat)], .int .i64 la] w fun e w' => e = .returned (.tuple #[.agg #[.int .u64 (dgl (u) 0 : Nat), .int .u64 (dgl (u) 1 : Nat), .int .u64 (dgl (u) 2 : Nat), .int .u64 (dgl (u) 3 : Nat), .int .u64 (dgl (u) 4 : Nat), .int .u64 (dgl (u) 5 : Nat), .int .u64 (dgl (u) 6 : Nat), .int .u64 (dgl (u) 7 : Nat)], .bool false]) ∧ Below w.heap.size w w'))
    (HEM : Hid (¬ k 2 < tp)) (w : World) (hg : FmtG w) :
    Calls Tryd.prog 11 #[.int .i64 f, .agg #[.bool (neg), .int .i64 (z), .int .u64 (dgl (s) 0 : Nat), .int .u64 (dgl (s) 1 : Nat), .int .u64 (dgl (s) 2 : Nat), .int .u64 (dgl (s) 3 : Nat), .int .u64 (dgl (s) 4 : Nat), .int .u64 (dgl (s) 5 : Nat), .int .u64 (dgl (s) 6 : Nat), .int .u64 (dgl (s) 7 : Nat)]] w fun e w' => e = .returned (.tuple #[.agg #[.int .u64 0, .int .u64 0], .bool false]) ∧ Below w.heap.size w w' := by
  have HS := hide (ex0_start neg z s w hg)
  clear hg
  go_enter Tryd.func11, Tryd.ntmps11
  go_wp2_with fail
  refine (HO.out _ HS.out.g).mono ?_
  rintro e w1 ⟨rfl, hb1⟩
  replace HS := hide (HS.out.below hb1)
  clear hb1
  go_upto_region 2 with fail
  refine wp_gen (fun W => ExSt neg z s w1.heap.size k 0 0 w W) (by have h := exSt_start k HS.out; exact h) ?_
  clear HS
  generalize w1.heap.size = p6
  rintro W1 g1
  have HS := hide g1
  clear g1
  have ln := HS.out.n.n
  have le := HS.out.n.e
  have l0 := HS.out.n.x0
  have l1 := HS.out.n.x1
  have l2 := HS.out.n.x2
  have l3 := HS.out.n.x3
  have l4 := HS.out.n.x4
  have l5 := HS.out.n.x5
  have l6 := HS.out.n.x6
  have l7 := HS.out.n.x7
  go_wp2_with fail
  refine (HR.out _).mono ?_
  rintro e w2 ⟨rfl, hb2⟩
  replace HS := hide (HS.out.below hb2)
  clear hb2 ln le l0 l1 l2 l3 l4 l5 l6 l7
  have ln := HS.out.n.n
  have le := HS.out.n.e
  have l0 := HS.out.n.x0
  have l1 := HS.out.n.x1
  have l2 := HS.out.n.x2
  have l3 := HS.out.n.x3
  have l4 := HS.out.n.x4
  have l5 := HS.out.n.x5
  have l6 := HS.out.n.x6
  have l7 := HS.out.n.x7
  go_wp2_with fail
  refine (HT.out _).mono ?_
  rintro e w3 ⟨rfl, hb3⟩
  replace HS := hide (HS.out.below hb3)
  clear hb3 ln le l0 l1 l2 l3 l4 l5 l6 l7
  go_upto_region 7 with fail
  refine wp_gen (fun W => ExSt neg z s p6 k 0 0 w W) HS.out ?_
  clear HS
  rintro W4 h7
  refine wp_region_grow 9 [(39, .val (.int .i64 tp)), (40, .val (.pointer (some ⟨p6, 1, none⟩))), (41, .val (.int .i64 (k 1))), (42, .val (.int .i64 (tp - k 1))), (43, .val (.int .i64 (tp - k 1 + 1))), (44, .val (.agg #[.int .i64 (k 0), .int .i64 (k 1), .int .i64 (k 2), .int .i64 (k 3), .int .i64 (k 4)])), (45, .val (.int .i64 lo)), (46, .val (.int .i64 la)), (10, .val (.int .i64 la))]
    (fun W => ExSt neg z s p6 k 0 0 w W) mixedOk (by kernel_rfl) (by kernel_rfl) (h7.below (Below.refl _ _).drew) (fun W W' h hb => h.below hb) ?_ ?_
  · refine gSt (gStep_run rfl (gRun_move 8 39 (.inl rfl) rfl (by decide +kernel) (fun v w h => h))) ?_
    refine gSt (gStep_run rfl ?_) ?_
    · intro ρ W hC hc hf hL
      have e6 : ρ (.tmp 6) = .pointer (some ⟨p6, 0, none⟩) := hL 6 (by decide +kernel)
      simp [go_sem, hc, hf, e6]
      exact ⟨Below.refl _ _, rfl⟩
    refine gSt (gStep_run rfl ?_) ?_
    · intro ρ W hC hc hf hL
      have e40 : ρ (.tmp 40) = .pointer (some ⟨p6, 1, none⟩) := hL 40 (by decide +kernel)
      have l0 := hC.rk 1 (by decide)
      simp [go_sem, hc, hf, e40, l0]
      exact ⟨Below.refl _ _, rfl⟩
    refine gSt (gStep_run rfl ?_) ?_
    · intro ρ W hC hc hf hL
      have e39 : ρ (.tmp 39) = .int .i64 tp := hL 39 (by decide +kernel)
      have e41 : ρ (.tmp 41) = .int .i64 (k 1) := hL 41 (by decide +kernel)
      have l0 : IntKind.i64.wrap (tp - k 1) = tp - k 1 := by rw [IntKind.wrap_i64]; omega
      simp [go_sem, hc, hf, e39, e41, l0]
      exact ⟨Below.refl _ _, rfl⟩
    refine gSt (gStep_run rfl ?_) ?_
    · intro ρ W hC hc hf hL
      have e42 : ρ (.tmp 42) = .int .i64 (tp - k 1) := hL 42 (by decide +kernel)
      have l0 : IntKind.i64.wrap (tp - k 1 + 1) = tp - k 1 + 1 := by rw [IntKind.wrap_i64]; omega
      simp [go_sem, hc, hf, e42, l0]
      exact ⟨Below.refl _ _, rfl⟩
    refine gSt (gStep_run rfl ?_) ?_
    · intro ρ W hC hc hf hL
      have e6 : ρ (.tmp 6) = .pointer (some ⟨p6, 0, none⟩) := hL 6 (by decide +kernel)
      have l0 := hC.rk
      simp [go_sem, hc, hf, e6, l0]
      exact ⟨Below.refl _ _, rfl⟩
    refine gSt (gStep_run rfl ?_) ?_
    · intro ρ W hC hc hf hL
      have e44 : ρ (.tmp 44) = .agg #[.int .i64 (k 0), .int .i64 (k 1), .int .i64 (k 2), .int .i64 (k 3), .int .i64 (k 4)] := hL 44 (by decide +kernel)
      simp [go_sem, hc, hf, e44]
      refine (HLO.out W).mono ?_
      rintro e w' ⟨rfl, hb⟩
      exact ⟨_, rfl, by first | exact hb | (subst hb; exact Below.refl _ _), rfl⟩
    refine gSt (gStep_run rfl ?_) ?_
    · intro ρ W hC hc hf hL
      have e43 : ρ (.tmp 43) = .int .i64 (tp - k 1 + 1) := hL 43 (by decide +kernel)
      have e45 : ρ (.tmp 45) = .int .i64 lo := hL 45 (by decide +kernel)
      have l0 := HMX.out
      simp [go_sem, hc, hf, e43, e45, l0]
      exact ⟨Below.refl _ _, rfl⟩
    refine gSt (gStep_run rfl (gRun_move 46 10 (.inr rfl) rfl (by decide +kernel) (fun v w h => h))) ?_
    exact gSt0
  · intro W hC
    refine gFi 39 rfl ?_
    rintro _ rfl
    refine gFi 40 rfl ?_
    rintro _ rfl
    refine gFi 41 rfl ?_
    rintro _ rfl
    refine gFi 42 rfl ?_
    rintro _ rfl
    refine gFi 43 rfl ?_
    rintro _ rfl
    refine gFi 44 rfl ?_
    rintro _ rfl
    refine gFi 45 rfl ?_
    rintro _ rfl
    refine gFi 46 rfl ?_
    rintro _ rfl
    refine gFi 10 rfl ?_
    rintro _ rfl
    refine gFi0 ?_
    simp only [List.drop_succ_cons, List.drop_zero, Act.put, List.setIfInBounds_toArray, List.set_cons_succ, List.set_cons_zero]
    have HS := hide hC
    clear hC h7
    have ln := HS.out.n.n
    have le := HS.out.n.e
    have l0 := HS.out.n.x0
    have l1 := HS.out.n.x1
    have l2 := HS.out.n.x2
    have l3 := HS.out.n.x3
    have l4 := HS.out.n.x4
    have l5 := HS.out.n.x5
    have l6 := HS.out.n.x6
    have l7 := HS.out.n.x7
    go_wp2_with fail
    refine (HAT.out _).mono ?_
    rintro e w5 ⟨rfl, hb5⟩
    replace HS := hide (HS.out.below hb5)
    clear hb5 ln le l0 l1 l2 l3 l4 l5 l6 l7
    go_upto_region 9 with fail
    refine wp_gen (fun W => ExSt neg z s p6 k 0 0 w W ∧ LiesF W w5.heap.size (dgl u)) ⟨HS.out.below (below_allocs _ _), liesF_new _ _ _⟩ ?_
    clear HS
    generalize w5.heap.size = p11
    rintro W5 ⟨g1, g2⟩
    have HS := hide g1
    have HL := hide g2
    have hk := g1.rk
    clear g1 g2
    have hem := HEM.out
    have q0 := HS.out.r.h
    have q1 := HS.out.r.l
    have hrf := HS.out.fr
    have hlt := HS.out.r.lt
    have HB := hide HS.out.bel
    clear HS
    go_wp2
    exact bodyPost_ret (v := .tuple #[.agg #[.int .u64 0, .int .u64 0], .bool false]) (by simp [results, Tryd.results11, go_sem, hlt, q0, q1]) rfl ⟨rfl, (HB.out.setCell (p := ⟨w.heap.size + 1, 0, none⟩) (Nat.le_succ _) _).setCell (p := ⟨w.heap.size + 1, 1, none⟩) (Nat.le_succ _) _⟩
    

set_option maxHeartbeats 4000000 in
theorem exact_S (f z tp lo la : Int) (neg wh ok ov : Bool) (k : Nat → Int) (s u v l pw c : Nat)
    (HO : Hid (∀ w, FmtG w → Calls Tryd.prog 47 #[.int .i64 f] w fun e w' => e = .returned (.tuple #[.agg #[.int .i64 (k 0), .int .i64 (k 1), .int .i64 (k 2), .int .i64 (k 3), .int .i64 (k 4)], .bool true]) ∧ Below w.heap.size w w'))
    (HR : Hid (∀ w, Calls Tryd.prog 14 #[.agg #[.bool (neg), .int .i64 (z), .int .u64 (dgl (s) 0 : Nat), .int .u64 (dgl (s) 1 : Nat), .int .u64 (dgl (s) 2 : Nat), .int .u64 (dgl (s) 3 : Nat), .int .u64 (dgl (s) 4 : Nat), .int .u64 (dgl (s) 5 : Nat), .int .u64 (dgl (s) 6 : Nat), .int .u64 (dgl (s) 7 : Nat)]] w fun e w' => e = .returned (.bool true) ∧ Below w.heap.size w w'))
    (HT : Hid (∀ w, Calls Tryd.prog 48 #[.agg #[.bool (neg), .int .i64 (z), .int .u64 (dgl (s) 0 : Nat), .int .u64 (dgl (s) 1 : Nat), .int .u64 (dgl (s) 2 : Nat), .int .u64 (dgl (s) 3 : Nat), .int .u64 (dgl (s) 4 : Nat), .int .u64 (dgl (s) 5 : Nat), .int .u64 (dgl (s) 6 : Nat), .int .u64 (dgl (s) 7 : Nat)]] w fun e w' => e = .returned (.tuple #[.int .i64 tp, .bool true]) ∧ Below w.heap.size w w'))
    (htp : -3000000 ≤ tp ∧ tp ≤ 3000000) (hk1 : 1 ≤ k 1 ∧ k 1 ≤ 200) (hlo : -20000 ≤ lo ∧ lo ≤ 0) (HMX : Hid (max (tp - k 1 + 1) lo = la)) (hla : -3000000 ≤ la ∧ la ≤ 3000000)
    (HLO : Hid (∀ w, Calls Tryd.prog 50 #[.agg #[.int .i64 (k 0), .int .i64 (k 1), .int .i64 (k 2), .int .i64 (k 3), .int .i64 (k 4)]] w fun e w' => e = .returned (.int .i64 lo) ∧ Below w.heap.size w w'))
    (HAT : Hid (∀ w, Calls Tryd.prog 51 #[.agg #[.bool (neg), .int .i64 (z), .int .u64 (dgl (s) 0 : Nat), .int .u64 (dgl (s) 1 : Nat), .int .u64 (dgl (s) 2 : Nat), .int .u64 (dgl (s) 3 : Nat), .int .u64 (dgl (s) 4 : Nat), .int .u64 (dgl (s) 5 : Nat), .int .u64 (dgl (s) 6 : Nat), .int .u64 (dgl (s) 7 : Nat)], .int .i64 la] w fun e w' => e = .returned (.tuple #[.agg #[.int .u64 (dgl (u) 0 : Nat), .int .u64 (dgl (u) 1 : Nat), .int .u64 (dgl (u) 2 : Nat), .int .u64 (dgl (u) 3 : Nat), .int .u64 (dgl (u) 4 : Nat), .int .u64 (dgl (u) 5 : Nat), .int .u64 (dgl (u) 6 : Nat), .int .u64 (dgl (u) 7 : Nat)], .bool true]) ∧ Below w.heap.size w w'))
    (HEM : Hid (¬ k 2 < tp))
    (HLN : Hid (∀ w, Calls Tryd.prog 52 #[.agg #[.int .u64 (dgl (u) 0 : Nat), .int .u64 (dgl (u) 1 : Nat), .int .u64 (dgl (u) 2 : Nat), .int .u64 (dgl (u) 3 : Nat), .int .u64 (dgl (u) 4 : Nat), .int .u64 (dgl (u) 5 : Nat), .int .u64 (dgl (u) 6 : Nat), .int .u64 (dgl (u) 7 : Nat)]] w fun e w' => e = .returned (.int .i64 (l : Nat)) ∧ Below w.heap.size w w'))
    (HLL : Hid (decide ((l : Int) < k 1) = true))
    (HMK : Hid (∀ w, FmtG w → Calls Tryd.prog 53 #[.int .i64 f, .bool neg, .int .i64 0, .agg #[.int .u64 (dgl (u) 0 : Nat), .int .u64 (dgl (u) 1 : Nat), .int .u64 (dgl (u) 2 : Nat), .int .u64 (dgl (u) 3 : Nat), .int .u64 (dgl (u) 4 : Nat), .int .u64 (dgl (u) 5 : Nat), .int .u64 (dgl (u) 6 : Nat), .int .u64 (dgl (u) 7 : Nat)]] w fun e w' => e = .returned (.tuple #[.agg #[.int .u64 (dgl (c) 1 : Nat), .int .u64 (dgl (c) 0 : Nat)], .bool ok]) ∧ Below w.heap.size w w')) (w : World) (hg : FmtG w) :
    Calls Tryd.prog 11 #[.int .i64 f, .agg #[.bool (neg), .int .i64 (z), .int .u64 (dgl (s) 0 : Nat), .int .u64 (dgl (s) 1 : Nat), .int .u64 (dgl (s) 2 : Nat), .int .u64 (dgl (s) 3 : Nat), .int .u64 (dgl (s) 4 : Nat), .int .u64 (dgl (s) 5 : Nat), .int .u64 (dgl (s) 6 : Nat), .int .u64 (dgl (s) 7 : Nat)]] w fun e w' => e = .returned (.tuple #[.agg #[.int .u64 (dgl (c) 1 : Nat), .int .u64 (dgl (c) 0 : Nat)], .bool ok]) ∧ Below w.heap.size w w' := by
  have HS := hide (ex0_start neg z s w hg)
  clear hg
  go_enter Tryd.func11, Tryd.ntmps11
  go_wp2_with fail
  refine (HO.out _ HS.out.g).mono ?_
  rintro e w1 ⟨rfl, hb1⟩
  replace HS := hide (HS.out.below hb1)
  clear hb1
  go_upto_region 2 with fail
  refine wp_gen (fun W => ExSt neg z s w1.heap.size k 0 0 w W) (by have h := exSt_start k HS.out; exact h) ?_
  clear HS
  generalize w1.heap.size = p6
  rintro W1 g1
  have HS := hide g1
  clear g1
  have ln := HS.out.n.n
  have le := HS.out.n.e
  have l0 := HS.out.n.x0
  have l1 := HS.out.n.x1
  have l2 := HS.out.n.x2
  have l3 := HS.out.n.x3
  have l4 := HS.out.n.x4
  have l5 := HS.out.n.x5
  have l6 := HS.out.n.x6
  have l7 := HS.out.n.x7
  go_wp2_with fail
  refine (HR.out _).mono ?_
  rintro e w2 ⟨rfl, hb2⟩
  replace HS := hide (HS.out.below hb2)
  clear hb2 ln le l0 l1 l2 l3 l4 l5 l6 l7
  have ln := HS.out.n.n
  have le := HS.out.n.e
  have l0 := HS.out.n.x0
  have l1 := HS.out.n.x1
  have l2 := HS.out.n.x2
  have l3 := HS.out.n.x3
  have l4 := HS.out.n.x4
  have l5 := HS.out.n.x5
  have l6 := HS.out.n.x6
  have l7 := HS.out.n.x7
  go_wp2_with fail
  refine (HT.out _).mono ?_
  rintro e w3 ⟨rfl, hb3⟩
  replace HS := hide (HS.out.below hb3)
  clear hb3 ln le l0 l1 l2 l3 l4 l5 l6 l7
  go_upto_region 7 with fail
  refine wp_gen (fun W => ExSt neg z s p6 k 0 0 w W) HS.out ?_
  clear HS
  rintro W4 h7
  refine wp_region_grow 9 [(39, .val (.int .i64 tp)), (40, .val (.pointer (some ⟨p6, 1, none⟩))), (41, .val (.int .i64 (k 1))), (42, .val (.int .i64 (tp - k 1))), (43, .val (.int .i64 (tp - k 1 + 1))), (44, .val (.agg #[.int .i64 (k 0), .int .i64 (k 1), .int .i64 (k 2), .int .i64 (k 3), .int .i64 (k 4)])), (45, .val (.int .i64 lo)), (46, .val (.int .i64 la)), (10, .val (.int .i64 la))]
    (fun W => ExSt neg z s p6 k 0 0 w W) mixedOk (by kernel_rfl) (by kernel_rfl) (h7.below (Below.refl _ _).drew) (fun W W' h hb => h.below hb) ?_ ?_
  · refine gSt (gStep_run rfl (gRun_move 8 39 (.inl rfl) rfl (by decide +kernel) (fun v w h => h))) ?_
    refine gSt (gStep_run rfl ?_) ?_
    · intro ρ W hC hc hf hL
      have e6 : ρ (.tmp 6) = .pointer (some ⟨p6, 0, none⟩) := hL 6 (by decide +kernel)
      simp [go_sem, hc, hf, e6]
      exact ⟨Below.refl _ _, rfl⟩
    refine gSt (gStep_run rfl ?_) ?_
    · intro ρ W hC hc hf hL
      have e40 : ρ (.tmp 40) = .pointer (some ⟨p6, 1, none⟩) := hL 40 (by decide +kernel)
      have l0 := hC.rk 1 (by decide)
      simp [go_sem, hc, hf, e40, l0]
      exact ⟨Below.refl _ _, rfl⟩
    refine gSt (gStep_run rfl ?_) ?_
    · intro ρ W hC hc hf hL
      have e39 : ρ (.tmp 39) = .int .i64 tp := hL 39 (by decide +kernel)
      have e41 : ρ (.tmp 41) = .int .i64 (k 1) := hL 41 (by decide +kernel)
      have l0 : IntKind.i64.wrap (tp - k 1) = tp - k 1 := by rw [IntKind.wrap_i64]; omega
      simp [go_sem, hc, hf, e39, e41, l0]
      exact ⟨Below.refl _ _, rfl⟩
    refine gSt (gStep_run rfl ?_) ?_
    · intro ρ W hC hc hf hL
      have e42 : ρ (.tmp 42) = .int .i64 (tp - k 1) := hL 42 (by decide +kernel)
      have l0 : IntKind.i64.wrap (tp - k 1 + 1) = tp - k 1 + 1 := by rw [IntKind.wrap_i64]; omega
      simp [go_sem, hc, hf, e42, l0]
      exact ⟨Below.refl _ _, rfl⟩
    refine gSt (gStep_run rfl ?_) ?_
    · intro ρ W hC hc hf hL
      have e6 : ρ (.tmp 6) = .pointer (some ⟨p6, 0, none⟩) := hL 6 (by decide +kernel)
      have l0 := hC.rk
      simp [go_sem, hc, hf, e6, l0]
      exact ⟨Below.refl _ _, rfl⟩
    refine gSt (gStep_run rfl ?_) ?_
    · intro ρ W hC hc hf hL
      have e44 : ρ (.tmp 44) = .agg #[.int .i64 (k 0), .int .i64 (k 1), .int .i64 (k 2), .int .i64 (k 3), .int .i64 (k 4)] := hL 44 (by decide +kernel)
      simp [go_sem, hc, hf, e44]
      refine (HLO.out W).mono ?_
      rintro e w' ⟨rfl, hb⟩
      exact ⟨_, rfl, by first | exact hb | (subst hb; exact Below.refl _ _), rfl⟩
    refine gSt (gStep_run rfl ?_) ?_
    · intro ρ W hC hc hf hL
      have e43 : ρ (.tmp 43) = .int .i64 (tp - k 1 + 1) := hL 43 (by decide +kernel)
      have e45 : ρ (.tmp 45) = .int .i64 lo := hL 45 (by decide +kernel)
      have l0 := HMX.out
      simp [go_sem, hc, hf, e43, e45, l0]
      exact ⟨Below.refl _ _, rfl⟩
    refine gSt (gStep_run rfl (gRun_move 46 10 (.inr rfl) rfl (by decide +kernel) (fun v w h => h))) ?_
    exact gSt0
  · intro W hC
    refine gFi 39 rfl ?_
    rintro _ rfl
    refine gFi 40 rfl ?_
    rintro _ rfl
    refine gFi 41 rfl ?_
    rintro _ rfl
    refine gFi 42 rfl ?_
    rintro _ rfl
    refine gFi 43 rfl ?_
    rintro _ rfl
    refine gFi 44 rfl ?_
    rintro _ rfl
    refine gFi 45 rfl ?_
    rintro _ rfl
    refine gFi 46 rfl ?_
    rintro _ rfl
    refine gFi 10 rfl ?_
    rintro _ rfl
    refine gFi0 ?_
    simp only [List.drop_succ_cons, List.drop_zero, Act.put, List.setIfInBounds_toArray, List.set_cons_succ, List.set_cons_zero]
    have HS := hide hC
    clear hC h7
    have ln := HS.out.n.n
    have le := HS.out.n.e
    have l0 := HS.out.n.x0
    have l1 := HS.out.n.x1
    have l2 := HS.out.n.x2
    have l3 := HS.out.n.x3
    have l4 := HS.out.n.x4
    have l5 := HS.out.n.x5
    have l6 := HS.out.n.x6
    have l7 := HS.out.n.x7
    go_wp2_with fail
    refine (HAT.out _).mono ?_
    rintro e w5 ⟨rfl, hb5⟩
    replace HS := hide (HS.out.below hb5)
    clear hb5 ln le l0 l1 l2 l3 l4 l5 l6 l7
    go_upto_region 9 with fail
    refine wp_gen (fun W => ExSt neg z s p6 k 0 0 w W ∧ LiesF W w5.heap.size (dgl u)) ⟨HS.out.below (below_allocs _ _), liesF_new _ _ _⟩ ?_
    clear HS
    generalize w5.heap.size = p11
    rintro W5 ⟨g1, g2⟩
    have HS := hide g1
    have HL := hide g2
    have hk := g1.rk
    clear g1 g2
    have hem := HEM.out
    go_upto_region 11 with fail
    refine wp_gen (fun W => ExSt neg z s p6 k 0 0 w W ∧ LiesF W p11 (dgl u)) ⟨HS.out, HL.out⟩ ?_
    clear HS HL hem hk
    rintro W7 h1
    refine wp_region_grow 5 [(62, .val (.agg #[.int .u64 (dgl (u) 0 : Nat), .int .u64 (dgl (u) 1 : Nat), .int .u64 (dgl (u) 2 : Nat), .int .u64 (dgl (u) 3 : Nat), .int .u64 (dgl (u) 4 : Nat), .int .u64 (dgl (u) 5 : Nat), .int .u64 (dgl (u) 6 : Nat), .int .u64 (dgl (u) 7 : Nat)])), (63, .val (.int .i64 (l : Nat))), (64, .val (.pointer (some ⟨p6, 1, none⟩))), (65, .val (.int .i64 (k 1))), (66, .val (.bool true))]
      (fun W => ExSt neg z s p6 k 0 0 w W ∧ LiesF W p11 (dgl u)) mixedOk (by kernel_rfl) (by kernel_rfl) (⟨h1.1.below (Below.refl _ _).drew, h1.2.below (Below.refl _ _).drew⟩) (fun W W' h hb => ⟨h.1.below hb, h.2.below hb⟩) ?_ ?_
    · refine gSt (gStep_run rfl ?_) ?_
      · intro ρ W hC hc hf hL
        have e11 : ρ (.tmp 11) = .pointer (some ⟨p11, 0, none⟩) := hL 11 (by decide +kernel)
        have l0 := hC.2.1
        simp [go_sem, hc, hf, e11, l0]
        exact ⟨Below.refl _ _, rfl⟩
      refine gSt (gStep_run rfl ?_) ?_
      · intro ρ W hC hc hf hL
        have e62 : ρ (.tmp 62) = .agg #[.int .u64 (dgl (u) 0 : Nat), .int .u64 (dgl (u) 1 : Nat), .int .u64 (dgl (u) 2 : Nat), .int .u64 (dgl (u) 3 : Nat), .int .u64 (dgl (u) 4 : Nat), .int .u64 (dgl (u) 5 : Nat), .int .u64 (dgl (u) 6 : Nat), .int .u64 (dgl (u) 7 : Nat)] := hL 62 (by decide +kernel)
        simp [go_sem, hc, hf, e62]
        refine (HLN.out W).mono ?_
        rintro e w' ⟨rfl, hb⟩
        exact ⟨_, rfl, by first | exact hb | (subst hb; exact Below.refl _ _), rfl⟩
      refine gSt (gStep_run rfl ?_) ?_
      · intro ρ W hC hc hf hL
        have e6 : ρ (.tmp 6) = .pointer (some ⟨p6, 0, none⟩) := hL 6 (by decide +kernel)
        simp [go_sem, hc, hf, e6]
        exact ⟨Below.refl _ _, rfl⟩
      refine gSt (gStep_run rfl ?_) ?_
      · intro ρ W hC hc hf hL
        have e64 : ρ (.tmp 64) = .pointer (some ⟨p6, 1, none⟩) := hL 64 (by decide +kernel)
        have l0 := hC.1.rk 1 (by decide)
        simp [go_sem, hc, hf, e64, l0]
        exact ⟨Below.refl _ _, rfl⟩
      refine gSt (gStep_run rfl ?_) ?_
      · intro ρ W hC hc hf hL
        have e63 : ρ (.tmp 63) = .int .i64 (l : Nat) := hL 63 (by decide +kernel)
        have e65 : ρ (.tmp 65) = .int .i64 (k 1) := hL 65 (by decide +kernel)
        have l0 := HLL.out
        simp [go_sem, hc, hf, e63, e65, l0, -decide_eq_true_eq, -decide_eq_false_iff_not]
        exact ⟨Below.refl _ _, rfl⟩
      exact gSt0
    · intro W hC
      refine gFi 62 rfl ?_
      rintro _ rfl
      refine gFi 63 rfl ?_
      rintro _ rfl
      refine gFi 64 rfl ?_
      rintro _ rfl
      refine gFi 65 rfl ?_
      rintro _ rfl
      refine gFi 66 rfl ?_
      rintro _ rfl
      refine gFi0 ?_
      simp only [List.drop_succ_cons, List.drop_zero, Act.put, List.setIfInBounds_toArray, List.set_cons_succ, List.set_cons_zero]
      have HS := hide hC.1
      have HL := hide hC.2
      clear hC h1
      have hq := HL.out.1
      have ln := HS.out.n.n
      have le := HS.out.n.e
      have l0 := HS.out.n.x0
      have l1 := HS.out.n.x1
      have l2 := HS.out.n.x2
      have l3 := HS.out.n.x3
      have l4 := HS.out.n.x4
      have l5 := HS.out.n.x5
      have l6 := HS.out.n.x6
      have l7 := HS.out.n.x7
      go_wp2_with fail
      refine (HMK.out _ HS.out.g).mono ?_
      rintro e w7 ⟨rfl, hb7⟩
      replace HS := hide (HS.out.below hb7)
      clear hb7 hq HL ln le l0 l1 l2 l3 l4 l5 l6 l7
      have q0 := HS.out.r.h
      have q1 := HS.out.r.l
      have hrf := HS.out.fr
      have hlt := HS.out.r.lt
      have HB := hide HS.out.bel
      clear HS
      go_wp2
      exact bodyPost_ret (v := .tuple #[.agg #[.int .u64 (dgl (c) 1 : Nat), .int .u64 (dgl (c) 0 : Nat)], .bool ok]) (by simp [results, Tryd.results11, go_sem, hlt, q0, q1]) rfl ⟨rfl, (HB.out.setCell (p := ⟨w.heap.size + 1, 0, none⟩) (Nat.le_succ _) _).setCell (p := ⟨w.heap.size + 1, 1, none⟩) (Nat.le_succ _) _⟩
      

set_option maxHeartbeats 4000000 in
theorem exact_N (f z tp lo la : Int) (neg wh ok ov : Bool) (k : Nat → Int) (s u v l pw c : Nat)
    (HO : Hid (∀ w, FmtG w → Calls Tryd.prog 47 #[.int .i64 f] w fun e w' => e = .returned (.tuple #[.agg #[.int .i64 (k 0), .int .i64 (k 1), .int .i64 (k 2), .int .i64 (k 3), .int .i64 (k 4)], .bool true]) ∧ Below w.heap.size w w'))
    (HR : Hid (∀ w, Calls Tryd.prog 14 #[.agg #[.bool (neg), .int .i64 (z), .int .u64 (dgl (s) 0 : Nat), .int .u64 (dgl (s) 1 : Nat), .int .u64 (dgl (s) 2 : Nat), .int .u64 (dgl (s) 3 : Nat), .int .u64 (dgl (s) 4 : Nat), .int .u64 (dgl (s) 5 : Nat), .int .u64 (dgl (s) 6 : Nat), .int .u64 (dgl (s) 7 : Nat)]] w fun e w' => e = .returned (.bool true) ∧ Below w.heap.size w w'))
    (HT : Hid (∀ w, Calls Tryd.prog 48 #[.agg #[.bool (neg), .int .i64 (z), .int .u64 (dgl (s) 0 : Nat), .int .u64 (dgl (s) 1 : Nat), .int .u64 (dgl (s) 2 : Nat), .int .u64 (dgl (s) 3 : Nat), .int .u64 (dgl (s) 4 : Nat), .int .u64 (dgl (s) 5 : Nat), .int .u64 (dgl (s) 6 : Nat), .int .u64 (dgl (s) 7 : Nat)]] w fun e w' => e = .returned (.tuple #[.int .i64 tp, .bool true]) ∧ Below w.heap.size w w'))
    (htp : -3000000 ≤ tp ∧ tp ≤ 3000000) (hk1 : 1 ≤ k 1 ∧ k 1 ≤ 200) (hlo : -20000 ≤ lo ∧ lo ≤ 0) (HMX : Hid (max (tp - k 1 + 1) lo = la)) (hla : -3000000 ≤ la ∧ la ≤ 3000000)
    (HLO : Hid (∀ w, Calls Tryd.prog 50 #[.agg #[.int .i64 (k 0), .int .i64 (k 1), .int .i64 (k 2), .int .i64 (k 3), .int .i64 (k 4)]] w fun e w' => e = .returned (.int .i64 lo) ∧ Below w.heap.size w w'))
    (HAT : Hid (∀ w, Calls Tryd.prog 51 #[.agg #[.bool (neg), .int .i64 (z), .int .u64 (dgl (s) 0 : Nat), .int .u64 (dgl (s) 1 : Nat), .int .u64 (dgl (s) 2 : Nat), .int .u64 (dgl (s) 3 : Nat), .int .u64 (dgl (s) 4 : Nat), .int .u64 (dgl (s) 5 : Nat), .int .u64 (dgl (s) 6 : Nat), .int .u64 (dgl (s) 7 : Nat)], .int .i64 la] w fun e w' => e = .returned (.tuple #[.agg #[.int .u64 (dgl (u) 0 : Nat), .int .u64 (dgl (u) 1 : Nat), .int .u64 (dgl (u) 2 : Nat), .int .u64 (dgl (u) 3 : Nat), .int .u64 (dgl (u) 4 : Nat), .int .u64 (dgl (u) 5 : Nat), .int .u64 (dgl (u) 6 : Nat), .int .u64 (dgl (u) 7 : Nat)], .bool true]) ∧ Below w.heap.size w w'))
    (HEM : Hid (¬ k 2 < tp))
    (HLN : Hid (∀ w, Calls Tryd.prog 52 #[.agg #[.int .u64 (dgl (u) 0 : Nat), .int .u64 (dgl (u) 1 : Nat), .int .u64 (dgl (u) 2 : Nat), .int .u64 (dgl (u) 3 : Nat), .int .u64 (dgl (u) 4 : Nat), .int .u64 (dgl (u) 5 : Nat), .int .u64 (dgl (u) 6 : Nat), .int .u64 (dgl (u) 7 : Nat)]] w fun e w' => e = .returned (.int .i64 (l : Nat)) ∧ Below w.heap.size w w'))
    (HLL : Hid (decide ((l : Int) < k 1) = false))
    (HPW : Hid (∀ w, Calls Tryd.prog 55 #[.int .i64 (k 1 - 1)] w fun e w' => e = .returned (.agg #[.int .u64 (dgl (pw) 0 : Nat), .int .u64 (dgl (pw) 1 : Nat), .int .u64 (dgl (pw) 2 : Nat), .int .u64 (dgl (pw) 3 : Nat), .int .u64 (dgl (pw) 4 : Nat), .int .u64 (dgl (pw) 5 : Nat), .int .u64 (dgl (pw) 6 : Nat), .int .u64 (dgl (pw) 7 : Nat)]) ∧ Below w.heap.size w w'))
    (HSB : Hid (∀ w, Calls Tryd.prog 54 #[.agg #[.int .u64 (dgl (u) 0 : Nat), .int .u64 (dgl (u) 1 : Nat), .int .u64 (dgl (u) 2 : Nat), .int .u64 (dgl (u) 3 : Nat), .int .u64 (dgl (u) 4 : Nat), .int .u64 (dgl (u) 5 : Nat), .int .u64 (dgl (u) 6 : Nat), .int .u64 (dgl (u) 7 : Nat)], .agg #[.int .u64 (dgl (pw) 0 : Nat), .int .u64 (dgl (pw) 1 : Nat), .int .u64 (dgl (pw) 2 : Nat), .int .u64 (dgl (pw) 3 : Nat), .int .u64 (dgl (pw) 4 : Nat), .int .u64 (dgl (pw) 5 : Nat), .int .u64 (dgl (pw) 6 : Nat), .int .u64 (dgl (pw) 7 : Nat)]] w fun e w' => e = .returned (.tuple #[.agg #[.int .u64 (dgl (v) 0 : Nat), .int .u64 (dgl (v) 1 : Nat), .int .u64 (dgl (v) 2 : Nat), .int .u64 (dgl (v) 3 : Nat), .int .u64 (dgl (v) 4 : Nat), .int .u64 (dgl (v) 5 : Nat), .int .u64 (dgl (v) 6 : Nat), .int .u64 (dgl (v) 7 : Nat)], .bool ov]) ∧ Below w.heap.size w w'))
    (HMK : Hid (∀ w, FmtG w → Calls Tryd.prog 53 #[.int .i64 f, .bool neg, .int .i64 (la - lo + 1), .agg #[.int .u64 (dgl (v) 0 : Nat), .int .u64 (dgl (v) 1 : Nat), .int .u64 (dgl (v) 2 : Nat), .int .u64 (dgl (v) 3 : Nat), .int .u64 (dgl (v) 4 : Nat), .int .u64 (dgl (v) 5 : Nat), .int .u64 (dgl (v) 6 : Nat), .int .u64 (dgl (v) 7 : Nat)]] w fun e w' => e = .returned (.tuple #[.agg #[.int .u64 (dgl (c) 1 : Nat), .int .u64 (dgl (c) 0 : Nat)], .bool ok]) ∧ Below w.heap.size w w')) (w : World) (hg : FmtG w) :
    Calls Tryd.prog 11 #[.int .i64 f, .agg #[.bool (neg), .int .i64 (z), .int .u64 (dgl (s) 0 : Nat), .int .u64 (dgl (s) 1 : Nat), .int .u64 (dgl (s) 2 : Nat), .int .u64 (dgl (s) 3 : Nat), .int .u64 (dgl (s) 4 : Nat), .int .u64 (dgl (s) 5 : Nat), .int .u64 (dgl (s) 6 : Nat), .int .u64 (dgl (s) 7 : Nat)]] w fun e w' => e = .returned (.tuple #[.agg #[.int .u64 (dgl (c) 1 : Nat), .int .u64 (dgl (c) 0 : Nat)], .bool ok]) ∧ Below w.heap.size w w' := by
  have HS := hide (ex0_start neg z s w hg)
  clear hg
  go_enter Tryd.func11, Tryd.ntmps11
  go_wp2_with fail
  refine (HO.out _ HS.out.g).mono ?_
  rintro e w1 ⟨rfl, hb1⟩
  replace HS := hide (HS.out.below hb1)
  clear hb1
  go_upto_region 2 with fail
  refine wp_gen (fun W => ExSt neg z s w1.heap.size k 0 0 w W) (by have h := exSt_start k HS.out; exact h) ?_
  clear HS
  generalize w1.heap.size = p6
  rintro W1 g1
  have HS := hide g1
  clear g1
  have ln := HS.out.n.n
  have le := HS.out.n.e
  have l0 := HS.out.n.x0
  have l1 := HS.out.n.x1
  have l2 := HS.out.n.x2
  have l3 := HS.out.n.x3
  have l4 := HS.out.n.x4
  have l5 := HS.out.n.x5
  have l6 := HS.out.n.x6
  have l7 := HS.out.n.x7
  go_wp2_with fail
  refine (HR.out _).mono ?_
  rintro e w2 ⟨rfl, hb2⟩
  replace HS := hide (HS.out.below hb2)
  clear hb2 ln le l0 l1 l2 l3 l4 l5 l6 l7
  have ln := HS.out.n.n
  have le := HS.out.n.e
  have l0 := HS.out.n.x0
  have l1 := HS.out.n.x1
  have l2 := HS.out.n.x2
  have l3 := HS.out.n.x3
  have l4 := HS.out.n.x4
  have l5 := HS.out.n.x5
  have l6 := HS.out.n.x6
  have l7 := HS.out.n.x7
  go_wp2_with fail
  refine (HT.out _).mono ?_
  rintro e w3 ⟨rfl, hb3⟩
  replace HS := hide (HS.out.below hb3)
  clear hb3 ln le l0 l1 l2 l3 l4 l5 l6 l7
  go_upto_region 7 with fail
  refine wp_gen (fun W => ExSt neg z s p6 k 0 0 w W) HS.out ?_
  clear HS
  rintro W4 h7
  refine wp_region_grow 9 [(39, .val (.int .i64 tp)), (40, .val (.pointer (some ⟨p6, 1, none⟩))), (41, .val (.int .i64 (k 1))), (42, .val (.int .i64 (tp - k 1))), (43, .val (.int .i64 (tp - k 1 + 1))), (44, .val (.agg #[.int .i64 (k 0), .int .i64 (k 1), .int .i64 (k 2), .int .i64 (k 3), .int .i64 (k 4)])), (45, .val (.int .i64 lo)), (46, .val (.int .i64 la)), (10, .val (.int .i64 la))]
    (fun W => ExSt neg z s p6 k 0 0 w W) mixedOk (by kernel_rfl) (by kernel_rfl) (h7.below (Below.refl _ _).drew) (fun W W' h hb => h.below hb) ?_ ?_
  · refine gSt (gStep_run rfl (gRun_move 8 39 (.inl rfl) rfl (by decide +kernel) (fun v w h => h))) ?_
    refine gSt (gStep_run rfl ?_) ?_
    · intro ρ W hC hc hf hL
      have e6 : ρ (.tmp 6) = .pointer (some ⟨p6, 0, none⟩) := hL 6 (by decide +kernel)
      simp [go_sem, hc, hf, e6]
      exact ⟨Below.refl _ _, rfl⟩
    refine gSt (gStep_run rfl ?_) ?_
    · intro ρ W hC hc hf hL
      have e40 : ρ (.tmp 40) = .pointer (some ⟨p6, 1, none⟩) := hL 40 (by decide +kernel)
      have l0 := hC.rk 1 (by decide)
      simp [go_sem, hc, hf, e40, l0]
      exact ⟨Below.refl _ _, rfl⟩
    refine gSt (gStep_run rfl ?_) ?_
    · intro ρ W hC hc hf hL
      have e39 : ρ (.tmp 39) = .int .i64 tp := hL 39 (by decide +kernel)
      have e41 : ρ (.tmp 41) = .int .i64 (k 1) := hL 41 (by decide +kernel)
      have l0 : IntKind.i64.wrap (tp - k 1) = tp - k 1 := by rw [IntKind.wrap_i64]; omega
      simp [go_sem, hc, hf, e39, e41, l0]
      exact ⟨Below.refl _ _, rfl⟩
    refine gSt (gStep_run rfl ?_) ?_
    · intro ρ W hC hc hf hL
      have e42 : ρ (.tmp 42) = .int .i64 (tp - k 1) := hL 42 (by decide +kernel)
      have l0 : IntKind.i64.wrap (tp - k 1 + 1) = tp - k 1 + 1 := by rw [IntKind.wrap_i64]; omega
      simp [go_sem, hc, hf, e42, l0]
      exact ⟨Below.refl _ _, rfl⟩
    refine gSt (gStep_run rfl ?_) ?_
    · intro ρ W hC hc hf hL
      have e6 : ρ (.tmp 6) = .pointer (some ⟨p6, 0, none⟩) := hL 6 (by decide +kernel)
      have l0 := hC.rk
      simp [go_sem, hc, hf, e6, l0]
      exact ⟨Below.refl _ _, rfl⟩
    refine gSt (gStep_run rfl ?_) ?_
    · intro ρ W hC hc hf hL
      have e44 : ρ (.tmp 44) = .agg #[.int .i64 (k 0), .int .i64 (k 1), .int .i64 (k 2), .int .i64 (k 3), .int .i64 (k 4)] := hL 44 (by decide +kernel)
      simp [go_sem, hc, hf, e44]
      refine (HLO.out W).mono ?_
      rintro e w' ⟨rfl, hb⟩
      exact ⟨_, rfl, by first | exact hb | (subst hb; exact Below.refl _ _), rfl⟩
    refine gSt (gStep_run rfl ?_) ?_
    · intro ρ W hC hc hf hL
      have e43 : ρ (.tmp 43) = .int .i64 (tp - k 1 + 1) := hL 43 (by decide +kernel)
      have e45 : ρ (.tmp 45) = .int .i64 lo := hL 45 (by decide +kernel)
      have l0 := HMX.out
      simp [go_sem, hc, hf, e43, e45, l0]
      exact ⟨Below.refl _ _, rfl⟩
    refine gSt (gStep_run rfl (gRun_move 46 10 (.inr rfl) rfl (by decide +kernel) (fun v w h => h))) ?_
    exact gSt0
  · intro W hC
    refine gFi 39 rfl ?_
    rintro _ rfl
    refine gFi 40 rfl ?_
    rintro _ rfl
    refine gFi 41 rfl ?_
    rintro _ rfl
    refine gFi 42 rfl ?_
    rintro _ rfl
    refine gFi 43 rfl ?_
    rintro _ rfl
    refine gFi 44 rfl ?_
    rintro _ rfl
    refine gFi 45 rfl ?_
    rintro _ rfl
    refine gFi 46 rfl ?_
    rintro _ rfl
    refine gFi 10 rfl ?_
    rintro _ rfl
    refine gFi0 ?_
    simp only [List.drop_succ_cons, List.drop_zero, Act.put, List.setIfInBounds_toArray, List.set_cons_succ, List.set_cons_zero]
    have HS := hide hC
    clear hC h7
    have ln := HS.out.n.n
    have le := HS.out.n.e
    have l0 := HS.out.n.x0
    have l1 := HS.out.n.x1
    have l2 := HS.out.n.x2
    have l3 := HS.out.n.x3
    have l4 := HS.out.n.x4
    have l5 := HS.out.n.x5
    have l6 := HS.out.n.x6
    have l7 := HS.out.n.x7
    go_wp2_with fail
    refine (HAT.out _).mono ?_
    rintro e w5 ⟨rfl, hb5⟩
    replace HS := hide (HS.out.below hb5)
    clear hb5 ln le l0 l1 l2 l3 l4 l5 l6 l7
    go_upto_region 9 with fail
    refine wp_gen (fun W => ExSt neg z s p6 k 0 0 w W ∧ LiesF W w5.heap.size (dgl u)) ⟨HS.out.below (below_allocs _ _), liesF_new _ _ _⟩ ?_
    clear HS
    generalize w5.heap.size = p11
    rintro W5 ⟨g1, g2⟩
    have HS := hide g1
    have HL := hide g2
    have hk := g1.rk
    clear g1 g2
    have hem := HEM.out
    go_upto_region 11 with fail
    refine wp_gen (fun W => ExSt neg z s p6 k 0 0 w W ∧ LiesF W p11 (dgl u)) ⟨HS.out, HL.out⟩ ?_
    clear HS HL hem hk
    rintro W7 h1
    refine wp_region_grow 5 [(62, .val (.agg #[.int .u64 (dgl (u) 0 : Nat), .int .u64 (dgl (u) 1 : Nat), .int .u64 (dgl (u) 2 : Nat), .int .u64 (dgl (u) 3 : Nat), .int .u64 (dgl (u) 4 : Nat), .int .u64 (dgl (u) 5 : Nat), .int .u64 (dgl (u) 6 : Nat), .int .u64 (dgl (u) 7 : Nat)])), (63, .val (.int .i64 (l : Nat))), (64, .val (.pointer (some ⟨p6, 1, none⟩))), (65, .val (.int .i64 (k 1))), (66, .val (.bool false))]
      (fun W => ExSt neg z s p6 k 0 0 w W ∧ LiesF W p11 (dgl u)) mixedOk (by kernel_rfl) (by kernel_rfl) (⟨h1.1.below (Below.refl _ _).drew, h1.2.below (Below.refl _ _).drew⟩) (fun W W' h hb => ⟨h.1.below hb, h.2.below hb⟩) ?_ ?_
    · refine gSt (gStep_run rfl ?_) ?_
      · intro ρ W hC hc hf hL
        have e11 : ρ (.tmp 11) = .pointer (some ⟨p11, 0, none⟩) := hL 11 (by decide +kernel)
        have l0 := hC.2.1
        simp [go_sem, hc, hf, e11, l0]
        exact ⟨Below.refl _ _, rfl⟩
      refine gSt (gStep_run rfl ?_) ?_
      · intro ρ W hC hc hf hL
        have e62 : ρ (.tmp 62) = .agg #[.int .u64 (dgl (u) 0 : Nat), .int .u64 (dgl (u) 1 : Nat), .int .u64 (dgl (u) 2 : Nat), .int .u64 (dgl (u) 3 : Nat), .int .u64 (dgl (u) 4 : Nat), .int .u64 (dgl (u) 5 : Nat), .int .u64 (dgl (u) 6 : Nat), .int .u64 (dgl (u) 7 : Nat)] := hL 62 (by decide +kernel)
        simp [go_sem, hc, hf, e62]
        refine (HLN.out W).mono ?_
        rintro e w' ⟨rfl, hb⟩
        exact ⟨_, rfl, by first | exact hb | (subst hb; exact Below.refl _ _), rfl⟩
      refine gSt (gStep_run rfl ?_) ?_
      · intro ρ W hC hc hf hL
        have e6 : ρ (.tmp 6) = .pointer (some ⟨p6, 0, none⟩) := hL 6 (by decide +kernel)
        simp [go_sem, hc, hf, e6]
        exact ⟨Below.refl _ _, rfl⟩
      refine gSt (gStep_run rfl ?_) ?_
      · intro ρ W hC hc hf hL
        have e64 : ρ (.tmp 64) = .pointer (some ⟨p6, 1, none⟩) := hL 64 (by decide +kernel)
        have l0 := hC.1.rk 1 (by decide)
        simp [go_sem, hc, hf, e64, l0]
        exact ⟨Below.refl _ _, rfl⟩
      refine gSt (gStep_run rfl ?_) ?_
      · intro ρ W hC hc hf hL
        have e63 : ρ (.tmp 63) = .int .i64 (l : Nat) := hL 63 (by decide +kernel)
        have e65 : ρ (.tmp 65) = .int .i64 (k 1) := hL 65 (by decide +kernel)
        have l0 := HLL.out
        simp [go_sem, hc, hf, e63, e65, l0, -decide_eq_true_eq, -decide_eq_false_iff_not]
        exact ⟨Below.refl _ _, rfl⟩
      exact gSt0
    · intro W hC
      refine gFi 62 rfl ?_
      rintro _ rfl
      refine gFi 63 rfl ?_
      rintro _ rfl
      refine gFi 64 rfl ?_
      rintro _ rfl
      refine gFi 65 rfl ?_
      rintro _ rfl
      refine gFi 66 rfl ?_
      rintro _ rfl
      refine gFi0 ?_
      simp only [List.drop_succ_cons, List.drop_zero, Act.put, List.setIfInBounds_toArray, List.set_cons_succ, List.set_cons_zero]
      have HS := hide hC.1
      have HL := hide hC.2
      clear hC h1
      go_upto_region 13 with fail
      refine wp_gen (fun W => ExSt neg z s p6 k 0 0 w W ∧ LiesF W p11 (dgl u)) ⟨HS.out, HL.out⟩ ?_
      clear HS HL
      rintro W8 h5
      refine wp_region_storeK 12 [10] [75, 76, 77, 78, 79, 80, 74, 81, 82, 13, 14] (fun bs => [(75, .val (.agg #[.int .u64 (dgl (u) 0 : Nat), .int .u64 (dgl (u) 1 : Nat), .int .u64 (dgl (u) 2 : Nat), .int .u64 (dgl (u) 3 : Nat), .int .u64 (dgl (u) 4 : Nat), .int .u64 (dgl (u) 5 : Nat), .int .u64 (dgl (u) 6 : Nat), .int .u64 (dgl (u) 7 : Nat)])), (76, .val (.pointer (some ⟨p6, 1, none⟩))), (77, .val (.int .i64 (k 1))), (78, .val (.int .i64 (k 1 - 1))), (79, .val (.agg #[.int .u64 (dgl (pw) 0 : Nat), .int .u64 (dgl (pw) 1 : Nat), .int .u64 (dgl (pw) 2 : Nat), .int .u64 (dgl (pw) 3 : Nat), .int .u64 (dgl (pw) 4 : Nat), .int .u64 (dgl (pw) 5 : Nat), .int .u64 (dgl (pw) 6 : Nat), .int .u64 (dgl (pw) 7 : Nat)])), (80, .val (.tuple #[.agg #[.int .u64 (dgl (v) 0 : Nat), .int .u64 (dgl (v) 1 : Nat), .int .u64 (dgl (v) 2 : Nat), .int .u64 (dgl (v) 3 : Nat), .int .u64 (dgl (v) 4 : Nat), .int .u64 (dgl (v) 5 : Nat), .int .u64 (dgl (v) 6 : Nat), .int .u64 (dgl (v) 7 : Nat)], .bool ov])), (74, .val (.tuple #[.agg #[.int .u64 (dgl (v) 0 : Nat), .int .u64 (dgl (v) 1 : Nat), .int .u64 (dgl (v) 2 : Nat), .int .u64 (dgl (v) 3 : Nat), .int .u64 (dgl (v) 4 : Nat), .int .u64 (dgl (v) 5 : Nat), .int .u64 (dgl (v) 6 : Nat), .int .u64 (dgl (v) 7 : Nat)], .bool ov])), (81, .val (.agg #[.int .u64 (dgl (v) 0 : Nat), .int .u64 (dgl (v) 1 : Nat), .int .u64 (dgl (v) 2 : Nat), .int .u64 (dgl (v) 3 : Nat), .int .u64 (dgl (v) 4 : Nat), .int .u64 (dgl (v) 5 : Nat), .int .u64 (dgl (v) 6 : Nat), .int .u64 (dgl (v) 7 : Nat)])), (82, .val (.bool ov)), (13, bif bs.headD false then SlotIs.box (p6 + 1) (dgl v) else SlotIs.box (p6 + 1) (fun _ => 0)), (14, .val (.bool ov))])
        (fun bs W => ExSt neg z s p6 k 0 0 w W ∧ (bs.headD false = false → LiesF W p11 (dgl u))) (fun bs => rfl) mixedOk (by kernel_rfl) (by kernel_rfl) (by kernel_rfl) (⟨h5.1.below (Below.refl _ _).drew, fun _ => h5.2.below (Below.refl _ _).drew⟩) (fun bs W W' h hb => ⟨h.1.below hb, fun e => (h.2 e).below hb⟩) ?_ ?_
      · refine kSt rfl (fun φ hφ => gStep_run rfl ?_) ?_
        · intro ρ W hC hc hf hL
          have e11 : ρ (.tmp 11) = .pointer (some ⟨p11, 0, none⟩) := hL 11 (by decide +kernel)
          have hφ0 : φ 10 = false := hφ 10 (by simp) (by kernel_rfl)
          have l0 := (hC.2 hφ0).1
          simp [go_sem, hc, hf, e11, l0]
          exact ⟨Below.refl _ _, rfl⟩
        refine kSt rfl (fun φ hφ => gStep_run rfl ?_) ?_
        · intro ρ W hC hc hf hL
          have e6 : ρ (.tmp 6) = .pointer (some ⟨p6, 0, none⟩) := hL 6 (by decide +kernel)
          simp [go_sem, hc, hf, e6]
          exact ⟨Below.refl _ _, rfl⟩
        refine kSt rfl (fun φ hφ => gStep_run rfl ?_) ?_
        · intro ρ W hC hc hf hL
          have e76 : ρ (.tmp 76) = .pointer (some ⟨p6, 1, none⟩) := hL 76 (by decide +kernel)
          have l0 := hC.1.rk 1 (by decide)
          simp [go_sem, hc, hf, e76, l0]
          exact ⟨Below.refl _ _, rfl⟩
        refine kSt rfl (fun φ hφ => gStep_run rfl ?_) ?_
        · intro ρ W hC hc hf hL
          have e77 : ρ (.tmp 77) = .int .i64 (k 1) := hL 77 (by decide +kernel)
          have l0 : IntKind.i64.wrap (k 1 - 1) = k 1 - 1 := by rw [IntKind.wrap_i64]; omega
          simp [go_sem, hc, hf, e77, l0]
          exact ⟨Below.refl _ _, rfl⟩
        refine kSt rfl (fun φ hφ => gStep_run rfl ?_) ?_
        · intro ρ W hC hc hf hL
          have e78 : ρ (.tmp 78) = .int .i64 (k 1 - 1) := hL 78 (by decide +kernel)
          simp [go_sem, hc, hf, e78]
          refine (HPW.out W).mono ?_
          rintro e w' ⟨rfl, hb⟩
          exact ⟨_, rfl, by first | exact hb | (subst hb; exact Below.refl _ _), rfl⟩
        refine kSt rfl (fun φ hφ => gStep_run rfl ?_) ?_
        · intro ρ W hC hc hf hL
          have e75 : ρ (.tmp 75) = .agg #[.int .u64 (dgl (u) 0 : Nat), .int .u64 (dgl (u) 1 : Nat), .int .u64 (dgl (u) 2 : Nat), .int .u64 (dgl (u) 3 : Nat), .int .u64 (dgl (u) 4 : Nat), .int .u64 (dgl (u) 5 : Nat), .int .u64 (dgl (u) 6 : Nat), .int .u64 (dgl (u) 7 : Nat)] := hL 75 (by decide +kernel)
          have e79 : ρ (.tmp 79) = .agg #[.int .u64 (dgl (pw) 0 : Nat), .int .u64 (dgl (pw) 1 : Nat), .int .u64 (dgl (pw) 2 : Nat), .int .u64 (dgl (pw) 3 : Nat), .int .u64 (dgl (pw) 4 : Nat), .int .u64 (dgl (pw) 5 : Nat), .int .u64 (dgl (pw) 6 : Nat), .int .u64 (dgl (pw) 7 : Nat)] := hL 79 (by decide +kernel)
          simp [go_sem, hc, hf, e75, e79]
          refine (HSB.out W).mono ?_
          rintro e w' ⟨rfl, hb⟩
          exact ⟨_, rfl, by first | exact hb | (subst hb; exact Below.refl _ _), rfl⟩
        refine kSt rfl (fun φ hφ => gStep_run rfl (gRun_move 80 74 (.inl rfl) rfl (by decide +kernel) (fun v w h => h))) ?_
        refine kSt rfl (fun φ hφ => gStep_run rfl ?_) ?_
        · intro ρ W hC hc hf hL
          have e74 : ρ (.tmp 74) = .tuple #[.agg #[.int .u64 (dgl (v) 0 : Nat), .int .u64 (dgl (v) 1 : Nat), .int .u64 (dgl (v) 2 : Nat), .int .u64 (dgl (v) 3 : Nat), .int .u64 (dgl (v) 4 : Nat), .int .u64 (dgl (v) 5 : Nat), .int .u64 (dgl (v) 6 : Nat), .int .u64 (dgl (v) 7 : Nat)], .bool ov] := hL 74 (by decide +kernel)
          simp [go_sem, hc, hf, e74]
          exact ⟨Below.refl _ _, rfl⟩
        refine kSt rfl (fun φ hφ => gStep_run rfl ?_) ?_
        · intro ρ W hC hc hf hL
          have e74 : ρ (.tmp 74) = .tuple #[.agg #[.int .u64 (dgl (v) 0 : Nat), .int .u64 (dgl (v) 1 : Nat), .int .u64 (dgl (v) 2 : Nat), .int .u64 (dgl (v) 3 : Nat), .int .u64 (dgl (v) 4 : Nat), .int .u64 (dgl (v) 5 : Nat), .int .u64 (dgl (v) 6 : Nat), .int .u64 (dgl (v) 7 : Nat)], .bool ov] := hL 74 (by decide +kernel)
          simp [go_sem, hc, hf, e74]
          exact ⟨Below.refl _ _, rfl⟩
        refine kSt rfl (fun φ hφ => gStep_run rfl ?_) ?_
        · intro ρ W hC hc hf hL
          have hφ0 : φ 10 = false := hφ 10 (by simp) (by kernel_rfl)
          simp [go_sem, hc, hf]
          refine ⟨below_allocs _ _, ?_⟩
          show (bif φ 10 then SlotIs.box (p6 + 1) (dgl v) else SlotIs.box (p6 + 1) (fun _ => 0)).R _ _
          rw [hφ0]
          exact ⟨_, rfl, hC.1.lk, liesF_new _ (fun _ => 0) _, fun i => by simp [go_sem]⟩
        refine kStS rfl ⟨rfl, rfl, ?_⟩ ?_
        · intro φ ρ W hφ hC hc hL
          have b13 := hL 13 (by decide +kernel)
          have e81 : ρ (.tmp 81) = .agg #[.int .u64 (dgl (v) 0 : Nat), .int .u64 (dgl (v) 1 : Nat), .int .u64 (dgl (v) 2 : Nat), .int .u64 (dgl (v) 3 : Nat), .int .u64 (dgl (v) 4 : Nat), .int .u64 (dgl (v) 5 : Nat), .int .u64 (dgl (v) 6 : Nat), .int .u64 (dgl (v) 7 : Nat)] := hL 81 (by decide +kernel)
          have b13 : (bif φ 10 then SlotIs.box (p6 + 1) (dgl v) else SlotIs.box (p6 + 1) (fun _ => 0)).R (ρ (.tmp 13)) W := hL 13 (by decide +kernel)
          rw [hφ] at b13
          obtain ⟨p13, e13, q13, l13, z13⟩ := b13
          have hz := l13.1
          have hzl := l13.2
          refine gUpon_of ((((((((W.setCell ⟨p13, 0, none⟩ (.int .u64 (dgl v 0 : Nat))).setCell ⟨p13, 1, none⟩ (.int .u64 (dgl v 1 : Nat))).setCell ⟨p13, 2, none⟩ (.int .u64 (dgl v 2 : Nat))).setCell ⟨p13, 3, none⟩ (.int .u64 (dgl v 3 : Nat))).setCell ⟨p13, 4, none⟩ (.int .u64 (dgl v 4 : Nat))).setCell ⟨p13, 5, none⟩ (.int .u64 (dgl v 5 : Nat))).setCell ⟨p13, 6, none⟩ (.int .u64 (dgl v 6 : Nat))).setCell ⟨p13, 7, none⟩ (.int .u64 (dgl v 7 : Nat))) ?_ (fun _ => ?_)
          · simp [go_sem, hc, e81, e13, hz, hzl, z13, gUpon]
          have hs8 := below_set8 (Below.refl (p6 + 1) W) p13 q13 (.int .u64 (dgl v 0 : Nat)) (.int .u64 (dgl v 1 : Nat)) (.int .u64 (dgl v 2 : Nat)) (.int .u64 (dgl v 3 : Nat)) (.int .u64 (dgl v 4 : Nat)) (.int .u64 (dgl v 5 : Nat)) (.int .u64 (dgl v 6 : Nat)) (.int .u64 (dgl v 7 : Nat))
          refine ⟨⟨hC.1.under hs8 (by omega), fun e => absurd (show (φ 10 || true) = false from e) (by rw [Bool.or_true]; decide)⟩, fun t => ?_⟩
          refine (tbl_imp rfl (fun _ => val_imp) (tbl_imp rfl (fun _ => val_imp) (tbl_imp rfl (fun _ => val_imp) (tbl_imp rfl (fun _ => val_imp) (tbl_imp rfl (fun _ => val_imp) (tbl_imp rfl (fun _ => val_imp) (tbl_imp rfl (fun _ => val_imp) (tbl_imp rfl (fun _ => val_imp) (tbl_imp rfl (fun _ => val_imp) (tbl_imp rfl (fun ht h => ?_) (tbl_imp rfl (fun _ => val_imp) tbl_nil_imp)))))))))))
          subst ht
          show (bif (φ 10 || true) then SlotIs.box (p6 + 1) (dgl v) else SlotIs.box (p6 + 1) (fun _ => 0)).R _ _
          rw [Bool.or_true]
          exact ⟨p13, e13, q13, set8_same W p13 (dgl v) (fun _ => 0) l13, fun i => by simpa [go_sem] using z13 i⟩
        refine kSt rfl (fun φ hφ => gStep_run rfl (gRun_move 82 14 (.inr rfl) rfl (by decide +kernel) (fun v w h => h))) ?_
        exact kSt0
      · intro W hC
        refine gFi 75 rfl ?_
        rintro _ rfl
        refine gFi 76 rfl ?_
        rintro _ rfl
        refine gFi 77 rfl ?_
        rintro _ rfl
        refine gFi 78 rfl ?_
        rintro _ rfl
        refine gFi 79 rfl ?_
        rintro _ rfl
        refine gFi 80 rfl ?_
        rintro _ rfl
        refine gFi 74 rfl ?_
        rintro _ rfl
        refine gFi 81 rfl ?_
        rintro _ rfl
        refine gFi 82 rfl ?_
        rintro _ rfl
        refine gFi 13 rfl ?_
        rintro _ ⟨p13, rfl, q13, l13, z13⟩
        refine gFiN rfl ?_
        refine gFi 14 rfl ?_
        rintro _ rfl
        refine gFi0 ?_
        simp only [List.drop_succ_cons, List.drop_zero, Act.put, List.setIfInBounds_toArray, List.set_cons_succ, List.set_cons_zero]
        have HS := hide hC.1
        have HL := hide l13
        have HN2 := hide q13
        clear hC l13 q13 z13 h5
        go_upto_region 14 with fail
        refine wp_gen (fun W => ExSt neg z s p6 k 0 0 w W ∧ LiesF W p13 (dgl v)) ⟨HS.out, HL.out⟩ ?_
        clear HS HL
        rintro W9 ⟨h5, h6⟩
        refine wp_region_storeK 14 [12] [83, 84, 85, 86, 87, 88, 89, 90, 91, 92, 93, 94, 5] (fun bs => [(83, .val (.int .i64 f)), (84, .val (.pointer (some ⟨w.heap.size, 0, none⟩))), (85, .val (.bool neg)), (86, .val (.int .i64 la)), (87, .val (.agg #[.int .i64 (k 0), .int .i64 (k 1), .int .i64 (k 2), .int .i64 (k 3), .int .i64 (k 4)])), (88, .val (.int .i64 lo)), (89, .val (.int .i64 (la - lo))), (90, .val (.int .i64 (la - lo + 1))), (91, .val (.agg #[.int .u64 (dgl (v) 0 : Nat), .int .u64 (dgl (v) 1 : Nat), .int .u64 (dgl (v) 2 : Nat), .int .u64 (dgl (v) 3 : Nat), .int .u64 (dgl (v) 4 : Nat), .int .u64 (dgl (v) 5 : Nat), .int .u64 (dgl (v) 6 : Nat), .int .u64 (dgl (v) 7 : Nat)])), (92, .val (.tuple #[.agg #[.int .u64 (dgl (c) 1 : Nat), .int .u64 (dgl (c) 0 : Nat)], .bool ok])), (93, .val (.agg #[.int .u64 (dgl (c) 1 : Nat), .int .u64 (dgl (c) 0 : Nat)])), (94, .val (.bool ok)), (5, .val (.bool ok))])
          (fun bs W => ∀ p, bs.headD false = p → ExSt neg z s p6 k (bif p then dgl c 1 else 0) (bif p then dgl c 0 else 0) w W ∧ LiesF W p13 (dgl v)) (fun bs => rfl) mixedOk (by kernel_rfl) (by kernel_rfl) (by kernel_rfl) (fun p hp => by subst hp; exact ⟨h5.below (Below.refl _ _).drew, h6.below (Below.refl _ _).drew⟩) (fun bs W W' h hb p hp => ⟨(h p hp).1.below hb, (h p hp).2.below hb⟩) ?_ ?_
        · refine kSt rfl (fun φ hφ => gStep_run rfl (gRun_move 0 83 (.inl rfl) rfl (by decide +kernel) (fun v w h => h))) ?_
          refine kSt rfl (fun φ hφ => gStep_run rfl ?_) ?_
          · intro ρ W hC hc hf hL
            have e3 : ρ (.tmp 3) = .pointer (some ⟨w.heap.size, 0, none⟩) := hL 3 (by decide +kernel)
            simp [go_sem, hc, hf, e3]
            exact ⟨Below.refl _ _, rfl⟩
          refine kSt rfl (fun φ hφ => gStep_run rfl ?_) ?_
          · intro ρ W hC hc hf hL
            have e84 : ρ (.tmp 84) = .pointer (some ⟨w.heap.size, 0, none⟩) := hL 84 (by decide +kernel)
            have hφ0 : φ 12 = false := hφ 12 (by simp) (by kernel_rfl)
            have hD : ExSt neg z s p6 k 0 0 w W ∧ LiesF W p13 (dgl v) := hC false hφ0
            have l0 := hD.1.n.n
            simp [go_sem, hc, hf, e84, l0]
            exact ⟨Below.refl _ _, rfl⟩
          refine kSt rfl (fun φ hφ => gStep_run rfl (gRun_move 10 86 (.inl rfl) rfl (by decide +kernel) (fun v w h => h))) ?_
          refine kSt rfl (fun φ hφ => gStep_run rfl ?_) ?_
          · intro ρ W hC hc hf hL
            have e6 : ρ (.tmp 6) = .pointer (some ⟨p6, 0, none⟩) := hL 6 (by decide +kernel)
            have hφ0 : φ 12 = false := hφ 12 (by simp) (by kernel_rfl)
            have hD : ExSt neg z s p6 k 0 0 w W ∧ LiesF W p13 (dgl v) := hC false hφ0
            have l0 := hD.1.rk
            simp [go_sem, hc, hf, e6, l0]
            exact ⟨Below.refl _ _, rfl⟩
          refine kSt rfl (fun φ hφ => gStep_run rfl ?_) ?_
          · intro ρ W hC hc hf hL
            have e87 : ρ (.tmp 87) = .agg #[.int .i64 (k 0), .int .i64 (k 1), .int .i64 (k 2), .int .i64 (k 3), .int .i64 (k 4)] := hL 87 (by decide +kernel)
            simp [go_sem, hc, hf, e87]
            refine (HLO.out W).mono ?_
            rintro e w' ⟨rfl, hb⟩
            exact ⟨_, rfl, by first | exact hb | (subst hb; exact Below.refl _ _), rfl⟩
          refine kSt rfl (fun φ hφ => gStep_run rfl ?_) ?_
          · intro ρ W hC hc hf hL
            have e86 : ρ (.tmp 86) = .int .i64 la := hL 86 (by decide +kernel)
            have e88 : ρ (.tmp 88) = .int .i64 lo := hL 88 (by decide +kernel)
            have l0 : IntKind.i64.wrap (la - lo) = la - lo := by rw [IntKind.wrap_i64]; omega
            simp [go_sem, hc, hf, e86, e88, l0]
            exact ⟨Below.refl _ _, rfl⟩
          refine kSt rfl (fun φ hφ => gStep_run rfl ?_) ?_
          · intro ρ W hC hc hf hL
            have e89 : ρ (.tmp 89) = .int .i64 (la - lo) := hL 89 (by decide +kernel)
            have l0 : IntKind.i64.wrap (la - lo + 1) = la - lo + 1 := by rw [IntKind.wrap_i64]; omega
            simp [go_sem, hc, hf, e89, l0]
            exact ⟨Below.refl _ _, rfl⟩
          refine kSt rfl (fun φ hφ => gStep_run rfl ?_) ?_
          · intro ρ W hC hc hf hL
            have e13 : ρ (.tmp 13) = .pointer (some ⟨p13, 0, none⟩) := hL 13 (by decide +kernel)
            have hφ0 : φ 12 = false := hφ 12 (by simp) (by kernel_rfl)
            have hD : ExSt neg z s p6 k 0 0 w W ∧ LiesF W p13 (dgl v) := hC false hφ0
            have l0 := hD.2.1
            simp [go_sem, hc, hf, e13, l0]
            exact ⟨Below.refl _ _, rfl⟩
          refine kSt rfl (fun φ hφ => gStep_run rfl ?_) ?_
          · intro ρ W hC hc hf hL
            have e83 : ρ (.tmp 83) = .int .i64 f := hL 83 (by decide +kernel)
            have e85 : ρ (.tmp 85) = .bool neg := hL 85 (by decide +kernel)
            have e90 : ρ (.tmp 90) = .int .i64 (la - lo + 1) := hL 90 (by decide +kernel)
            have e91 : ρ (.tmp 91) = .agg #[.int .u64 (dgl (v) 0 : Nat), .int .u64 (dgl (v) 1 : Nat), .int .u64 (dgl (v) 2 : Nat), .int .u64 (dgl (v) 3 : Nat), .int .u64 (dgl (v) 4 : Nat), .int .u64 (dgl (v) 5 : Nat), .int .u64 (dgl (v) 6 : Nat), .int .u64 (dgl (v) 7 : Nat)] := hL 91 (by decide +kernel)
            have hφ0 : φ 12 = false := hφ 12 (by simp) (by kernel_rfl)
            have hD : ExSt neg z s p6 k 0 0 w W ∧ LiesF W p13 (dgl v) := hC false hφ0
            simp [go_sem, hc, hf, e83, e85, e90, e91]
            refine (HMK.out W hD.1.g).mono ?_
            rintro e w' ⟨rfl, hb⟩
            exact ⟨_, rfl, by first | exact hb | (subst hb; exact Below.refl _ _), rfl⟩
          refine kSt rfl (fun φ hφ => gStep_run rfl ?_) ?_
          · intro ρ W hC hc hf hL
            have e92 : ρ (.tmp 92) = .tuple #[.agg #[.int .u64 (dgl (c) 1 : Nat), .int .u64 (dgl (c) 0 : Nat)], .bool ok] := hL 92 (by decide +kernel)
            simp [go_sem, hc, hf, e92]
            exact ⟨Below.refl _ _, rfl⟩
          refine kSt rfl (fun φ hφ => gStep_run rfl ?_) ?_
          · intro ρ W hC hc hf hL
            have e92 : ρ (.tmp 92) = .tuple #[.agg #[.int .u64 (dgl (c) 1 : Nat), .int .u64 (dgl (c) 0 : Nat)], .bool ok] := hL 92 (by decide +kernel)
            simp [go_sem, hc, hf, e92]
            exact ⟨Below.refl _ _, rfl⟩
          refine kStS rfl ⟨rfl, rfl, ?_⟩ ?_
          · intro φ ρ W hφ hC hc hL
            have e4 : ρ (.tmp 4) = .pointer (some ⟨w.heap.size + 1, 0, none⟩) := hL 4 (by decide +kernel)
            have e93 : ρ (.tmp 93) = .agg #[.int .u64 (dgl (c) 1 : Nat), .int .u64 (dgl (c) 0 : Nat)] := hL 93 (by decide +kernel)
            have hD : ExSt neg z s p6 k 0 0 w W ∧ LiesF W p13 (dgl v) := hC false hφ
            have q0 := hD.1.r.h
            have q1 := hD.1.r.l
            have hrf := hD.1.fr
            have hrl := hD.1.r.lt
            refine gUpon_of ((W.setCell ⟨w.heap.size + 1, 0, none⟩ (.int .u64 (dgl c 1 : Nat))).setCell ⟨w.heap.size + 1, 1, none⟩ (.int .u64 (dgl c 0 : Nat))) ?_ (fun _ => ?_)
            · simp [go_sem, hc, e4, e93, hrf, hrl, q0, q1, gUpon]
            refine ⟨fun p hp => ?_, fun t => (tbl_imp rfl (fun _ => val_imp) (tbl_imp rfl (fun _ => val_imp) (tbl_imp rfl (fun _ => val_imp) (tbl_imp rfl (fun _ => val_imp) (tbl_imp rfl (fun _ => val_imp) (tbl_imp rfl (fun _ => val_imp) (tbl_imp rfl (fun _ => val_imp) (tbl_imp rfl (fun _ => val_imp) (tbl_imp rfl (fun _ => val_imp) (tbl_imp rfl (fun _ => val_imp) (tbl_imp rfl (fun _ => val_imp) (tbl_imp rfl (fun _ => val_imp) (tbl_imp rfl (fun _ => val_imp) tbl_nil_imp)))))))))))))⟩
            have hp2 : (φ 12 || true) = p := hp
            rw [Bool.or_true] at hp2
            subst hp2
            exact ⟨hD.1.setR (dgl c 1) (dgl c 0), lies_set2 hD.2 (by have h5 := hD.1.lo; have h6 := HN2.out; omega)⟩
          refine kSt rfl (fun φ hφ => gStep_run rfl (gRun_move 94 5 (.inr rfl) rfl (by decide +kernel) (fun v w h => h))) ?_
          exact kSt0
        · intro W hC
          refine gFi 83 rfl ?_
          rintro _ rfl
          refine gFi 84 rfl ?_
          rintro _ rfl
          refine gFi 85 rfl ?_
          rintro _ rfl
          refine gFi 86 rfl ?_
          rintro _ rfl
          refine gFi 87 rfl ?_
          rintro _ rfl
          refine gFi 88 rfl ?_
          rintro _ rfl
          refine gFi 89 rfl ?_
          rintro _ rfl
          refine gFi 90 rfl ?_
          rintro _ rfl
          refine gFi 91 rfl ?_
          rintro _ rfl
          refine gFi 92 rfl ?_
          rintro _ rfl
          refine gFi 93 rfl ?_
          rintro _ rfl
          refine gFi 94 rfl ?_
          rintro _ rfl
          refine gFiN rfl ?_
          refine gFi 5 rfl ?_
          rintro _ rfl
          refine gFi0 ?_
          simp only [List.drop_succ_cons, List.drop_zero, Act.put, List.setIfInBounds_toArray, List.set_cons_succ, List.set_cons_zero]
          have HC := hide (hC true rfl).1
          clear hC h5 h6
          have q0 := HC.out.r.h
          have q1 := HC.out.r.l
          simp only [cond_true] at q0 q1
          have hlt := HC.out.r.lt
          have HB := hide HC.out.bel
          clear HC
          go_wp2
          exact bodyPost_ret (v := .tuple #[.agg #[.int .u64 (dgl (c) 1 : Nat), .int .u64 (dgl (c) 0 : Nat)], .bool ok]) (by simp [results, Tryd.results11, go_sem, hlt, q0, q1]) rfl ⟨rfl, HB.out⟩

end Go.Proofs.YtpcjdllijkjdkaaDoor

/- Small laws: bounds of right numbers; == on words. -/
set_option linter.unusedVariables false
set_option linter.unusedSimpArgs false
set_option maxRecDepth 8000
namespace Go.Proofs.YtpcjdllijkjdkaaDoor
open Go.RowKit Plain

theorem rgtB {z : Int} (h : rgt z = true) : -1048576 ≤ z ∧ z ≤ 1048576 := by
  unfold rgt at h
  rw [Bool.and_eq_true, decide_eq_true_iff, decide_eq_true_iff] at h
  exact h
theorem wordEq {a b : Nat} (ha : a < 2 ^ 128) (hb : b < 2 ^ 128) (w : World) : (Op.equalIn 10000 28 (.agg #[.int .u64 (dgl (a) 1 : Nat), .int .u64 (dgl (a) 0 : Nat)]) (.agg #[.int .u64 (dgl (b) 1 : Nat), .int .u64 (dgl (b) 0 : Nat)])).run Tryd.prog w = .ok (decide (a = b)) w := by
  have u3 := Tryd.underlying22
  have uw := Tryd.underlying28
  have e1 := word_back a ha
  have e2 := word_back b hb
  have hk : a = b ↔ (dgl a 1 = dgl b 1 ∧ dgl a 0 = dgl b 0) := by
    constructor
    · intro h; subst h; exact ⟨rfl, rfl⟩
    · rintro ⟨h1, h2⟩
      rw [← e1, ← e2, h1, h2]
  rw [show decide (a = b) = decide (dgl a 1 = dgl b 1 ∧ dgl a 0 = dgl b 0) from decide_eq_decide.2 hk]
  generalize dgl a 1 = x1
  generalize dgl a 0 = x0
  generalize dgl b 1 = y1
  generalize dgl b 0 = y0
  rw [show (10000 : Nat) = 9999 + 1 from rfl]
  go_simp
  simp only [Int.ofNat_inj]
  by_cases h1 : x1 = y1
  · by_cases h2 : x0 = y0
    · simp [h1, h2]
    · simp [h1, h2]
  · simp [h1]

end Go.Proofs.YtpcjdllijkjdkaaDoor

