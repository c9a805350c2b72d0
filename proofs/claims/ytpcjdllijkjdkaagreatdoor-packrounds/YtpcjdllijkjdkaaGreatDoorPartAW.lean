/- Contracts and laws: UnpE, UnpF, NanA, NanB, UnpG. -/
import Derived.Test.YtpcjdllijkjdkaaGreatDoorPartAV
import Derived.Test.YtpcjdllijkjdkaaGreatDoorPartAT
import Derived.Test.YtpcjdllijkjdkaaGreatDoorPartAO
import Derived.Test.YtpcjdllijkjdkaaGreatDoorPartAK
/- Contracts: the document's Size. -/
set_option linter.unusedVariables false
set_option linter.unusedSimpArgs false
set_option maxRecDepth 8000
namespace Go.Proofs.YtpcjdllijkjdkaaGreatDoor
open Go.RowKit Plain

theorem ret_i64 {a b : Int} (h : a = b) : Ending.returned (.int .i64 a) = Ending.returned (.int .i64 b) := by rw [h]
structure SzSt (n1 n2 : Bool) (v1 v2 : Value) (ea eb : Int) (a b K : Nat) (w W : World) : Prop where
  a0 : W.cell? ⟨w.heap.size, 0, none⟩ = some (.bool n1)
  a1 : W.cell? ⟨w.heap.size, 1, none⟩ = some v1
  a2 : W.cell? ⟨w.heap.size, 2, none⟩ = some (.int .i64 ea)
  b0 : W.cell? ⟨w.heap.size + 1, 0, none⟩ = some (.bool n2)
  b1 : W.cell? ⟨w.heap.size + 1, 1, none⟩ = some v2
  b2 : W.cell? ⟨w.heap.size + 1, 2, none⟩ = some (.int .i64 eb)
  va : BigV W v1 a K
  vb : BigV W v2 b K
  lt : w.heap.size + 1 < W.heap.size
  bel : Below w.heap.size w W
theorem SzSt.below {n1 n2 : Bool} {v1 v2 : Value} {ea eb : Int} {a b K : Nat} {w W W' : World} (h : SzSt n1 n2 v1 v2 ea eb a b K w W) (hb : Below W.heap.size W W') : SzSt n1 n2 v1 v2 ea eb a b K w W' := by
  have h1 := h.lt
  have h0 : w.heap.size < W.heap.size := by omega
  exact ⟨(hb.cell (p := ⟨w.heap.size, 0, none⟩) h0).trans h.a0, (hb.cell (p := ⟨w.heap.size, 1, none⟩) h0).trans h.a1, (hb.cell (p := ⟨w.heap.size, 2, none⟩) h0).trans h.a2, (hb.cell (p := ⟨w.heap.size + 1, 0, none⟩) h1).trans h.b0, (hb.cell (p := ⟨w.heap.size + 1, 1, none⟩) h1).trans h.b1, (hb.cell (p := ⟨w.heap.size + 1, 2, none⟩) h1).trans h.b2, h.va.below hb, h.vb.below hb, Nat.lt_of_lt_of_le h.lt hb.size, below_trans h.bel hb⟩
theorem szSt_start (n1 n2 : Bool) (ao1 ao2 : Option Addr) (l1 ca1 l2 ca2 : Nat) (ea eb : Int) (a b K : Nat) (w : World) (ha : BigV w (.slice ao1 l1 ca1) a K) (hb : BigV w (.slice ao2 l2 ca2) b K) :
    SzSt n1 n2 (.slice ao1 l1 ca1) (.slice ao2 l2 ca2) ea eb a b K w ((w.alloc (.cells #[.bool n1, .slice ao1 l1 ca1, .int .i64 ea] 73)).alloc (.cells #[.bool n2, .slice ao2 l2 ca2, .int .i64 eb] 73)) :=
  ⟨by simp [go_sem], by simp [go_sem], by simp [go_sem], by simp [go_sem], by simp [go_sem], by simp [go_sem], (ha.below (below_allocs _ _)).below (below_allocs _ _), (hb.below (below_allocs _ _)).below (below_allocs _ _), by simp, below_trans (below_allocs _ _) (below_allocs _ _)⟩

set_option maxHeartbeats 2000000 in
theorem size_ZZ (n1 n2 : Bool) (ao1 ao2 : Option Addr) (l1 ca1 l2 ca2 : Nat) (ea eb : Int) (a b K x y : Nat) (r : Int)
    (HLA : Hid (∀ w, BigV w (.slice ao1 l1 ca1) a K → Calls Tryz.prog 10 #[.slice ao1 l1 ca1] w fun e w' => e = .returned (.int .i64 0) ∧ w' = w))
    (HLB : Hid (∀ w, BigV w (.slice ao2 l2 ca2) b K → Calls Tryz.prog 10 #[.slice ao2 l2 ca2] w fun e w' => e = .returned (.int .i64 0) ∧ w' = w))
    (hea : -100000000 ≤ ea ∧ ea ≤ 100000000) (heb : -100000000 ≤ eb ∧ eb ≤ 100000000) (w : World) (hva : BigV w (.slice ao1 l1 ca1) a K) (hvb : BigV w (.slice ao2 l2 ca2) b K) :
    Calls Tryz.prog 68 #[.agg #[.bool n1, .slice ao1 l1 ca1, .int .i64 ea], .agg #[.bool n2, .slice ao2 l2 ca2, .int .i64 eb]] w fun e w' => e = .returned (.int .i64 0) ∧ Below w.heap.size w w' := by
  have HST := hide (szSt_start n1 n2 ao1 ao2 l1 ca1 l2 ca2 ea eb a b K w hva hvb)
  clear hva hvb
  go_enter Tryz.func68, Tryz.ntmps68
  go_upto_region 1 with fail
  refine wp_gen (fun W => SzSt n1 n2 (.slice ao1 l1 ca1) (.slice ao2 l2 ca2) ea eb a b K w W) HST.out ?_
  clear HST
  rintro W1 h1
  refine wp_region_grow 8 [(8, .val (.pointer (some ⟨w.heap.size, 1, none⟩))), (9, .val (.slice ao1 l1 ca1)), (10, .val (.int .i64 0)), (11, .val (.pointer (some ⟨w.heap.size + 1, 1, none⟩))), (12, .val (.slice ao2 l2 ca2)), (13, .val (.int .i64 0)), (5, .val (.int .i64 0)), (6, .val (.int .i64 0))]
    (fun W => SzSt n1 n2 (.slice ao1 l1 ca1) (.slice ao2 l2 ca2) ea eb a b K w W) mixedOk (by kernel_rfl) (by kernel_rfl) (h1.below (Below.refl _ _).drew) (fun W W' h hb => h.below hb) ?_ ?_
  · refine gSt (gStep_run rfl ?_) ?_
    · intro ρ W hC hc hf hL
      have e2 : ρ (.tmp 2) = .pointer (some ⟨w.heap.size, 0, none⟩) := hL 2 (by decide +kernel)
      simp [go_sem, hc, hf, e2]
      exact ⟨Below.refl _ _, rfl⟩
    refine gSt (gStep_run rfl ?_) ?_
    · intro ρ W hC hc hf hL
      have e8 : ρ (.tmp 8) = .pointer (some ⟨w.heap.size, 1, none⟩) := hL 8 (by decide +kernel)
      have l0 := hC.a1
      simp [go_sem, hc, hf, e8, l0]
      exact ⟨Below.refl _ _, rfl⟩
    refine gSt (gStep_run rfl ?_) ?_
    · intro ρ W hC hc hf hL
      have e9 : ρ (.tmp 9) = .slice ao1 l1 ca1 := hL 9 (by decide +kernel)
      simp [go_sem, hc, hf, e9]
      refine (HLA.out W hC.va).mono ?_
      rintro e w' ⟨rfl, hb⟩
      exact ⟨_, rfl, by first | exact hb | (subst hb; exact Below.refl _ _), rfl⟩
    refine gSt (gStep_run rfl ?_) ?_
    · intro ρ W hC hc hf hL
      have e3 : ρ (.tmp 3) = .pointer (some ⟨w.heap.size + 1, 0, none⟩) := hL 3 (by decide +kernel)
      simp [go_sem, hc, hf, e3]
      exact ⟨Below.refl _ _, rfl⟩
    refine gSt (gStep_run rfl ?_) ?_
    · intro ρ W hC hc hf hL
      have e11 : ρ (.tmp 11) = .pointer (some ⟨w.heap.size + 1, 1, none⟩) := hL 11 (by decide +kernel)
      have l0 := hC.b1
      simp [go_sem, hc, hf, e11, l0]
      exact ⟨Below.refl _ _, rfl⟩
    refine gSt (gStep_run rfl ?_) ?_
    · intro ρ W hC hc hf hL
      have e12 : ρ (.tmp 12) = .slice ao2 l2 ca2 := hL 12 (by decide +kernel)
      simp [go_sem, hc, hf, e12]
      refine (HLB.out W hC.vb).mono ?_
      rintro e w' ⟨rfl, hb⟩
      exact ⟨_, rfl, by first | exact hb | (subst hb; exact Below.refl _ _), rfl⟩
    refine gSt (gStep_run rfl (gRun_move 10 5 (.inr rfl) rfl (by decide +kernel) (fun v w h => h))) ?_
    refine gSt (gStep_run rfl (gRun_move 13 6 (.inr rfl) rfl (by decide +kernel) (fun v w h => h))) ?_
    exact gSt0
  · intro W hC
    refine gFi 8 rfl ?_
    rintro _ rfl
    refine gFi 9 rfl ?_
    rintro _ rfl
    refine gFi 10 rfl ?_
    rintro _ rfl
    refine gFi 11 rfl ?_
    rintro _ rfl
    refine gFi 12 rfl ?_
    rintro _ rfl
    refine gFi 13 rfl ?_
    rintro _ rfl
    refine gFi 5 rfl ?_
    rintro _ rfl
    refine gFi 6 rfl ?_
    rintro _ rfl
    refine gFi0 ?_
    simp only [List.drop_succ_cons, List.drop_zero, Act.put, List.setIfInBounds_toArray, List.set_cons_succ, List.set_cons_zero]
    have HB := hide hC.bel
    have HQ : Hid (min (0 : Int) 1 - min 0 1 = 0) := by unfold Hid; decide
    clear hC h1
    go_wp2
    go_ret
    exact ⟨ret_i64 HQ.out, HB.out⟩

set_option maxHeartbeats 2000000 in
theorem size_ZP (n1 n2 : Bool) (ao1 ao2 : Option Addr) (l1 ca1 l2 ca2 : Nat) (ea eb : Int) (a b K x y : Nat) (r : Int)
    (HLA : Hid (∀ w, BigV w (.slice ao1 l1 ca1) a K → Calls Tryz.prog 10 #[.slice ao1 l1 ca1] w fun e w' => e = .returned (.int .i64 0) ∧ w' = w))
    (HLB : Hid (∀ w, BigV w (.slice ao2 l2 ca2) b K → Calls Tryz.prog 10 #[.slice ao2 l2 ca2] w fun e w' => e = .returned (.int .i64 (y : Nat)) ∧ w' = w))
    (hy : 1 ≤ y ∧ y ≤ 100000)
    (hea : -100000000 ≤ ea ∧ ea ≤ 100000000) (heb : -100000000 ≤ eb ∧ eb ≤ 100000000) (w : World) (hva : BigV w (.slice ao1 l1 ca1) a K) (hvb : BigV w (.slice ao2 l2 ca2) b K) :
    Calls Tryz.prog 68 #[.agg #[.bool n1, .slice ao1 l1 ca1, .int .i64 ea], .agg #[.bool n2, .slice ao2 l2 ca2, .int .i64 eb]] w fun e w' => e = .returned (.int .i64 (-1)) ∧ Below w.heap.size w w' := by
  have HST := hide (szSt_start n1 n2 ao1 ao2 l1 ca1 l2 ca2 ea eb a b K w hva hvb)
  clear hva hvb
  go_enter Tryz.func68, Tryz.ntmps68
  go_upto_region 1 with fail
  refine wp_gen (fun W => SzSt n1 n2 (.slice ao1 l1 ca1) (.slice ao2 l2 ca2) ea eb a b K w W) HST.out ?_
  clear HST
  rintro W1 h1
  refine wp_region_grow 8 [(8, .val (.pointer (some ⟨w.heap.size, 1, none⟩))), (9, .val (.slice ao1 l1 ca1)), (10, .val (.int .i64 0)), (11, .val (.pointer (some ⟨w.heap.size + 1, 1, none⟩))), (12, .val (.slice ao2 l2 ca2)), (13, .val (.int .i64 (y : Nat))), (5, .val (.int .i64 0)), (6, .val (.int .i64 (y : Nat)))]
    (fun W => SzSt n1 n2 (.slice ao1 l1 ca1) (.slice ao2 l2 ca2) ea eb a b K w W) mixedOk (by kernel_rfl) (by kernel_rfl) (h1.below (Below.refl _ _).drew) (fun W W' h hb => h.below hb) ?_ ?_
  · refine gSt (gStep_run rfl ?_) ?_
    · intro ρ W hC hc hf hL
      have e2 : ρ (.tmp 2) = .pointer (some ⟨w.heap.size, 0, none⟩) := hL 2 (by decide +kernel)
      simp [go_sem, hc, hf, e2]
      exact ⟨Below.refl _ _, rfl⟩
    refine gSt (gStep_run rfl ?_) ?_
    · intro ρ W hC hc hf hL
      have e8 : ρ (.tmp 8) = .pointer (some ⟨w.heap.size, 1, none⟩) := hL 8 (by decide +kernel)
      have l0 := hC.a1
      simp [go_sem, hc, hf, e8, l0]
      exact ⟨Below.refl _ _, rfl⟩
    refine gSt (gStep_run rfl ?_) ?_
    · intro ρ W hC hc hf hL
      have e9 : ρ (.tmp 9) = .slice ao1 l1 ca1 := hL 9 (by decide +kernel)
      simp [go_sem, hc, hf, e9]
      refine (HLA.out W hC.va).mono ?_
      rintro e w' ⟨rfl, hb⟩
      exact ⟨_, rfl, by first | exact hb | (subst hb; exact Below.refl _ _), rfl⟩
    refine gSt (gStep_run rfl ?_) ?_
    · intro ρ W hC hc hf hL
      have e3 : ρ (.tmp 3) = .pointer (some ⟨w.heap.size + 1, 0, none⟩) := hL 3 (by decide +kernel)
      simp [go_sem, hc, hf, e3]
      exact ⟨Below.refl _ _, rfl⟩
    refine gSt (gStep_run rfl ?_) ?_
    · intro ρ W hC hc hf hL
      have e11 : ρ (.tmp 11) = .pointer (some ⟨w.heap.size + 1, 1, none⟩) := hL 11 (by decide +kernel)
      have l0 := hC.b1
      simp [go_sem, hc, hf, e11, l0]
      exact ⟨Below.refl _ _, rfl⟩
    refine gSt (gStep_run rfl ?_) ?_
    · intro ρ W hC hc hf hL
      have e12 : ρ (.tmp 12) = .slice ao2 l2 ca2 := hL 12 (by decide +kernel)
      simp [go_sem, hc, hf, e12]
      refine (HLB.out W hC.vb).mono ?_
      rintro e w' ⟨rfl, hb⟩
      exact ⟨_, rfl, by first | exact hb | (subst hb; exact Below.refl _ _), rfl⟩
    refine gSt (gStep_run rfl (gRun_move 10 5 (.inr rfl) rfl (by decide +kernel) (fun v w h => h))) ?_
    refine gSt (gStep_run rfl (gRun_move 13 6 (.inr rfl) rfl (by decide +kernel) (fun v w h => h))) ?_
    exact gSt0
  · intro W hC
    refine gFi 8 rfl ?_
    rintro _ rfl
    refine gFi 9 rfl ?_
    rintro _ rfl
    refine gFi 10 rfl ?_
    rintro _ rfl
    refine gFi 11 rfl ?_
    rintro _ rfl
    refine gFi 12 rfl ?_
    rintro _ rfl
    refine gFi 13 rfl ?_
    rintro _ rfl
    refine gFi 5 rfl ?_
    rintro _ rfl
    refine gFi 6 rfl ?_
    rintro _ rfl
    refine gFi0 ?_
    simp only [List.drop_succ_cons, List.drop_zero, Act.put, List.setIfInBounds_toArray, List.set_cons_succ, List.set_cons_zero]
    have HB := hide hC.bel
    have HQ : Hid (min (0 : Int) 1 - min (y : Int) 1 = -1) := by unfold Hid; omega
    clear hC h1
    go_wp2
    go_ret
    exact ⟨ret_i64 HQ.out, HB.out⟩

set_option maxHeartbeats 2000000 in
theorem size_PZ (n1 n2 : Bool) (ao1 ao2 : Option Addr) (l1 ca1 l2 ca2 : Nat) (ea eb : Int) (a b K x y : Nat) (r : Int)
    (HLA : Hid (∀ w, BigV w (.slice ao1 l1 ca1) a K → Calls Tryz.prog 10 #[.slice ao1 l1 ca1] w fun e w' => e = .returned (.int .i64 (x : Nat)) ∧ w' = w))
    (HLB : Hid (∀ w, BigV w (.slice ao2 l2 ca2) b K → Calls Tryz.prog 10 #[.slice ao2 l2 ca2] w fun e w' => e = .returned (.int .i64 0) ∧ w' = w))
    (hx : 1 ≤ x ∧ x ≤ 100000)
    (hea : -100000000 ≤ ea ∧ ea ≤ 100000000) (heb : -100000000 ≤ eb ∧ eb ≤ 100000000) (w : World) (hva : BigV w (.slice ao1 l1 ca1) a K) (hvb : BigV w (.slice ao2 l2 ca2) b K) :
    Calls Tryz.prog 68 #[.agg #[.bool n1, .slice ao1 l1 ca1, .int .i64 ea], .agg #[.bool n2, .slice ao2 l2 ca2, .int .i64 eb]] w fun e w' => e = .returned (.int .i64 1) ∧ Below w.heap.size w w' := by
  have HST := hide (szSt_start n1 n2 ao1 ao2 l1 ca1 l2 ca2 ea eb a b K w hva hvb)
  clear hva hvb
  go_enter Tryz.func68, Tryz.ntmps68
  go_upto_region 1 with fail
  refine wp_gen (fun W => SzSt n1 n2 (.slice ao1 l1 ca1) (.slice ao2 l2 ca2) ea eb a b K w W) HST.out ?_
  clear HST
  rintro W1 h1
  refine wp_region_grow 8 [(8, .val (.pointer (some ⟨w.heap.size, 1, none⟩))), (9, .val (.slice ao1 l1 ca1)), (10, .val (.int .i64 (x : Nat))), (11, .val (.pointer (some ⟨w.heap.size + 1, 1, none⟩))), (12, .val (.slice ao2 l2 ca2)), (13, .val (.int .i64 0)), (5, .val (.int .i64 (x : Nat))), (6, .val (.int .i64 0))]
    (fun W => SzSt n1 n2 (.slice ao1 l1 ca1) (.slice ao2 l2 ca2) ea eb a b K w W) mixedOk (by kernel_rfl) (by kernel_rfl) (h1.below (Below.refl _ _).drew) (fun W W' h hb => h.below hb) ?_ ?_
  · refine gSt (gStep_run rfl ?_) ?_
    · intro ρ W hC hc hf hL
      have e2 : ρ (.tmp 2) = .pointer (some ⟨w.heap.size, 0, none⟩) := hL 2 (by decide +kernel)
      simp [go_sem, hc, hf, e2]
      exact ⟨Below.refl _ _, rfl⟩
    refine gSt (gStep_run rfl ?_) ?_
    · intro ρ W hC hc hf hL
      have e8 : ρ (.tmp 8) = .pointer (some ⟨w.heap.size, 1, none⟩) := hL 8 (by decide +kernel)
      have l0 := hC.a1
      simp [go_sem, hc, hf, e8, l0]
      exact ⟨Below.refl _ _, rfl⟩
    refine gSt (gStep_run rfl ?_) ?_
    · intro ρ W hC hc hf hL
      have e9 : ρ (.tmp 9) = .slice ao1 l1 ca1 := hL 9 (by decide +kernel)
      simp [go_sem, hc, hf, e9]
      refine (HLA.out W hC.va).mono ?_
      rintro e w' ⟨rfl, hb⟩
      exact ⟨_, rfl, by first | exact hb | (subst hb; exact Below.refl _ _), rfl⟩
    refine gSt (gStep_run rfl ?_) ?_
    · intro ρ W hC hc hf hL
      have e3 : ρ (.tmp 3) = .pointer (some ⟨w.heap.size + 1, 0, none⟩) := hL 3 (by decide +kernel)
      simp [go_sem, hc, hf, e3]
      exact ⟨Below.refl _ _, rfl⟩
    refine gSt (gStep_run rfl ?_) ?_
    · intro ρ W hC hc hf hL
      have e11 : ρ (.tmp 11) = .pointer (some ⟨w.heap.size + 1, 1, none⟩) := hL 11 (by decide +kernel)
      have l0 := hC.b1
      simp [go_sem, hc, hf, e11, l0]
      exact ⟨Below.refl _ _, rfl⟩
    refine gSt (gStep_run rfl ?_) ?_
    · intro ρ W hC hc hf hL
      have e12 : ρ (.tmp 12) = .slice ao2 l2 ca2 := hL 12 (by decide +kernel)
      simp [go_sem, hc, hf, e12]
      refine (HLB.out W hC.vb).mono ?_
      rintro e w' ⟨rfl, hb⟩
      exact ⟨_, rfl, by first | exact hb | (subst hb; exact Below.refl _ _), rfl⟩
    refine gSt (gStep_run rfl (gRun_move 10 5 (.inr rfl) rfl (by decide +kernel) (fun v w h => h))) ?_
    refine gSt (gStep_run rfl (gRun_move 13 6 (.inr rfl) rfl (by decide +kernel) (fun v w h => h))) ?_
    exact gSt0
  · intro W hC
    refine gFi 8 rfl ?_
    rintro _ rfl
    refine gFi 9 rfl ?_
    rintro _ rfl
    refine gFi 10 rfl ?_
    rintro _ rfl
    refine gFi 11 rfl ?_
    rintro _ rfl
    refine gFi 12 rfl ?_
    rintro _ rfl
    refine gFi 13 rfl ?_
    rintro _ rfl
    refine gFi 5 rfl ?_
    rintro _ rfl
    refine gFi 6 rfl ?_
    rintro _ rfl
    refine gFi0 ?_
    simp only [List.drop_succ_cons, List.drop_zero, Act.put, List.setIfInBounds_toArray, List.set_cons_succ, List.set_cons_zero]
    have HB := hide hC.bel
    have HQ : Hid (min (x : Int) 1 - min 0 1 = 1) := by unfold Hid; omega
    clear hC h1
    go_wp2
    go_ret
    exact ⟨ret_i64 HQ.out, HB.out⟩

set_option maxHeartbeats 2000000 in
theorem size_T (n1 n2 : Bool) (ao1 ao2 : Option Addr) (l1 ca1 l2 ca2 : Nat) (ea eb : Int) (a b K x y : Nat) (r : Int)
    (HLA : Hid (∀ w, BigV w (.slice ao1 l1 ca1) a K → Calls Tryz.prog 10 #[.slice ao1 l1 ca1] w fun e w' => e = .returned (.int .i64 (x : Nat)) ∧ w' = w))
    (HLB : Hid (∀ w, BigV w (.slice ao2 l2 ca2) b K → Calls Tryz.prog 10 #[.slice ao2 l2 ca2] w fun e w' => e = .returned (.int .i64 (y : Nat)) ∧ w' = w))
    (hx : 1 ≤ x ∧ x ≤ 100000)
    (hy : 1 ≤ y ∧ y ≤ 100000)
    (hea : -100000000 ≤ ea ∧ ea ≤ 100000000) (heb : -100000000 ≤ eb ∧ eb ≤ 100000000)
    (HNE : Hid (((ea + (x : Int)) != (eb + (y : Int))) = true)) (w : World) (hva : BigV w (.slice ao1 l1 ca1) a K) (hvb : BigV w (.slice ao2 l2 ca2) b K) :
    Calls Tryz.prog 68 #[.agg #[.bool n1, .slice ao1 l1 ca1, .int .i64 ea], .agg #[.bool n2, .slice ao2 l2 ca2, .int .i64 eb]] w fun e w' => e = .returned (.int .i64 (ea + x - eb - y)) ∧ Below w.heap.size w w' := by
  have HST := hide (szSt_start n1 n2 ao1 ao2 l1 ca1 l2 ca2 ea eb a b K w hva hvb)
  clear hva hvb
  go_enter Tryz.func68, Tryz.ntmps68
  go_upto_region 1 with fail
  refine wp_gen (fun W => SzSt n1 n2 (.slice ao1 l1 ca1) (.slice ao2 l2 ca2) ea eb a b K w W) HST.out ?_
  clear HST
  rintro W1 h1
  refine wp_region_grow 8 [(8, .val (.pointer (some ⟨w.heap.size, 1, none⟩))), (9, .val (.slice ao1 l1 ca1)), (10, .val (.int .i64 (x : Nat))), (11, .val (.pointer (some ⟨w.heap.size + 1, 1, none⟩))), (12, .val (.slice ao2 l2 ca2)), (13, .val (.int .i64 (y : Nat))), (5, .val (.int .i64 (x : Nat))), (6, .val (.int .i64 (y : Nat)))]
    (fun W => SzSt n1 n2 (.slice ao1 l1 ca1) (.slice ao2 l2 ca2) ea eb a b K w W) mixedOk (by kernel_rfl) (by kernel_rfl) (h1.below (Below.refl _ _).drew) (fun W W' h hb => h.below hb) ?_ ?_
  · refine gSt (gStep_run rfl ?_) ?_
    · intro ρ W hC hc hf hL
      have e2 : ρ (.tmp 2) = .pointer (some ⟨w.heap.size, 0, none⟩) := hL 2 (by decide +kernel)
      simp [go_sem, hc, hf, e2]
      exact ⟨Below.refl _ _, rfl⟩
    refine gSt (gStep_run rfl ?_) ?_
    · intro ρ W hC hc hf hL
      have e8 : ρ (.tmp 8) = .pointer (some ⟨w.heap.size, 1, none⟩) := hL 8 (by decide +kernel)
      have l0 := hC.a1
      simp [go_sem, hc, hf, e8, l0]
      exact ⟨Below.refl _ _, rfl⟩
    refine gSt (gStep_run rfl ?_) ?_
    · intro ρ W hC hc hf hL
      have e9 : ρ (.tmp 9) = .slice ao1 l1 ca1 := hL 9 (by decide +kernel)
      simp [go_sem, hc, hf, e9]
      refine (HLA.out W hC.va).mono ?_
      rintro e w' ⟨rfl, hb⟩
      exact ⟨_, rfl, by first | exact hb | (subst hb; exact Below.refl _ _), rfl⟩
    refine gSt (gStep_run rfl ?_) ?_
    · intro ρ W hC hc hf hL
      have e3 : ρ (.tmp 3) = .pointer (some ⟨w.heap.size + 1, 0, none⟩) := hL 3 (by decide +kernel)
      simp [go_sem, hc, hf, e3]
      exact ⟨Below.refl _ _, rfl⟩
    refine gSt (gStep_run rfl ?_) ?_
    · intro ρ W hC hc hf hL
      have e11 : ρ (.tmp 11) = .pointer (some ⟨w.heap.size + 1, 1, none⟩) := hL 11 (by decide +kernel)
      have l0 := hC.b1
      simp [go_sem, hc, hf, e11, l0]
      exact ⟨Below.refl _ _, rfl⟩
    refine gSt (gStep_run rfl ?_) ?_
    · intro ρ W hC hc hf hL
      have e12 : ρ (.tmp 12) = .slice ao2 l2 ca2 := hL 12 (by decide +kernel)
      simp [go_sem, hc, hf, e12]
      refine (HLB.out W hC.vb).mono ?_
      rintro e w' ⟨rfl, hb⟩
      exact ⟨_, rfl, by first | exact hb | (subst hb; exact Below.refl _ _), rfl⟩
    refine gSt (gStep_run rfl (gRun_move 10 5 (.inr rfl) rfl (by decide +kernel) (fun v w h => h))) ?_
    refine gSt (gStep_run rfl (gRun_move 13 6 (.inr rfl) rfl (by decide +kernel) (fun v w h => h))) ?_
    exact gSt0
  · intro W hC
    refine gFi 8 rfl ?_
    rintro _ rfl
    refine gFi 9 rfl ?_
    rintro _ rfl
    refine gFi 10 rfl ?_
    rintro _ rfl
    refine gFi 11 rfl ?_
    rintro _ rfl
    refine gFi 12 rfl ?_
    rintro _ rfl
    refine gFi 13 rfl ?_
    rintro _ rfl
    refine gFi 5 rfl ?_
    rintro _ rfl
    refine gFi 6 rfl ?_
    rintro _ rfl
    refine gFi0 ?_
    simp only [List.drop_succ_cons, List.drop_zero, Act.put, List.setIfInBounds_toArray, List.set_cons_succ, List.set_cons_zero]
    have HB := hide hC.bel
    have hne := HNE.out
    have l0 := hC.a2
    have l1 := hC.b2
    have hx1 : (((x : Nat) : Int) == 0) = false := by rw [beq_eq_false_iff_ne]; omega
    have hy1 : (((y : Nat) : Int) == 0) = false := by rw [beq_eq_false_iff_ne]; omega
    clear hC h1
    go_wp2
    go_ret
    exact ⟨rfl, HB.out⟩

set_option maxHeartbeats 2000000 in
theorem size_E (n1 n2 : Bool) (ao1 ao2 : Option Addr) (l1 ca1 l2 ca2 : Nat) (ea eb : Int) (a b K x y : Nat) (r : Int)
    (HLA : Hid (∀ w, BigV w (.slice ao1 l1 ca1) a K → Calls Tryz.prog 10 #[.slice ao1 l1 ca1] w fun e w' => e = .returned (.int .i64 (x : Nat)) ∧ w' = w))
    (HLB : Hid (∀ w, BigV w (.slice ao2 l2 ca2) b K → Calls Tryz.prog 10 #[.slice ao2 l2 ca2] w fun e w' => e = .returned (.int .i64 (y : Nat)) ∧ w' = w))
    (hx : 1 ≤ x ∧ x ≤ 100000)
    (hy : 1 ≤ y ∧ y ≤ 100000)
    (hea : -100000000 ≤ ea ∧ ea ≤ 100000000) (heb : -100000000 ≤ eb ∧ eb ≤ 100000000)
    (HEQ : Hid (((ea + (x : Int)) != (eb + (y : Int))) = false)) (m : Int) (HM : Hid (min ea eb = m)) (hm : -100000000 ≤ m ∧ m ≤ ea ∧ m ≤ eb) (u v : Nat) (K2 : Nat)
    (HSA : Hid (∀ w, BigV w (.slice ao1 l1 ca1) a K → Calls Tryz.prog 28 #[.slice ao1 l1 ca1, .int .i64 (ea - m)] w fun e w' => ∃ q, e = .returned q ∧ BigV w' q u K2 ∧ Below w.heap.size w w'))
    (HSB : Hid (∀ w, BigV w (.slice ao2 l2 ca2) b K → Calls Tryz.prog 28 #[.slice ao2 l2 ca2, .int .i64 (eb - m)] w fun e w' => ∃ q, e = .returned q ∧ BigV w' q v K2 ∧ Below w.heap.size w w'))
    (HCM : Hid (∀ p q w, BigV w p u K2 → BigV w q v K2 → Calls Tryz.prog 94 #[p, q] w fun e w' => e = .returned (.int .i64 r) ∧ w' = w)) (w : World) (hva : BigV w (.slice ao1 l1 ca1) a K) (hvb : BigV w (.slice ao2 l2 ca2) b K) :
    Calls Tryz.prog 68 #[.agg #[.bool n1, .slice ao1 l1 ca1, .int .i64 ea], .agg #[.bool n2, .slice ao2 l2 ca2, .int .i64 eb]] w fun e w' => e = .returned (.int .i64 r) ∧ Below w.heap.size w w' := by
  have HST := hide (szSt_start n1 n2 ao1 ao2 l1 ca1 l2 ca2 ea eb a b K w hva hvb)
  clear hva hvb
  go_enter Tryz.func68, Tryz.ntmps68
  go_upto_region 1 with fail
  refine wp_gen (fun W => SzSt n1 n2 (.slice ao1 l1 ca1) (.slice ao2 l2 ca2) ea eb a b K w W) HST.out ?_
  clear HST
  rintro W1 h1
  refine wp_region_grow 8 [(8, .val (.pointer (some ⟨w.heap.size, 1, none⟩))), (9, .val (.slice ao1 l1 ca1)), (10, .val (.int .i64 (x : Nat))), (11, .val (.pointer (some ⟨w.heap.size + 1, 1, none⟩))), (12, .val (.slice ao2 l2 ca2)), (13, .val (.int .i64 (y : Nat))), (5, .val (.int .i64 (x : Nat))), (6, .val (.int .i64 (y : Nat)))]
    (fun W => SzSt n1 n2 (.slice ao1 l1 ca1) (.slice ao2 l2 ca2) ea eb a b K w W) mixedOk (by kernel_rfl) (by kernel_rfl) (h1.below (Below.refl _ _).drew) (fun W W' h hb => h.below hb) ?_ ?_
  · refine gSt (gStep_run rfl ?_) ?_
    · intro ρ W hC hc hf hL
      have e2 : ρ (.tmp 2) = .pointer (some ⟨w.heap.size, 0, none⟩) := hL 2 (by decide +kernel)
      simp [go_sem, hc, hf, e2]
      exact ⟨Below.refl _ _, rfl⟩
    refine gSt (gStep_run rfl ?_) ?_
    · intro ρ W hC hc hf hL
      have e8 : ρ (.tmp 8) = .pointer (some ⟨w.heap.size, 1, none⟩) := hL 8 (by decide +kernel)
      have l0 := hC.a1
      simp [go_sem, hc, hf, e8, l0]
      exact ⟨Below.refl _ _, rfl⟩
    refine gSt (gStep_run rfl ?_) ?_
    · intro ρ W hC hc hf hL
      have e9 : ρ (.tmp 9) = .slice ao1 l1 ca1 := hL 9 (by decide +kernel)
      simp [go_sem, hc, hf, e9]
      refine (HLA.out W hC.va).mono ?_
      rintro e w' ⟨rfl, hb⟩
      exact ⟨_, rfl, by first | exact hb | (subst hb; exact Below.refl _ _), rfl⟩
    refine gSt (gStep_run rfl ?_) ?_
    · intro ρ W hC hc hf hL
      have e3 : ρ (.tmp 3) = .pointer (some ⟨w.heap.size + 1, 0, none⟩) := hL 3 (by decide +kernel)
      simp [go_sem, hc, hf, e3]
      exact ⟨Below.refl _ _, rfl⟩
    refine gSt (gStep_run rfl ?_) ?_
    · intro ρ W hC hc hf hL
      have e11 : ρ (.tmp 11) = .pointer (some ⟨w.heap.size + 1, 1, none⟩) := hL 11 (by decide +kernel)
      have l0 := hC.b1
      simp [go_sem, hc, hf, e11, l0]
      exact ⟨Below.refl _ _, rfl⟩
    refine gSt (gStep_run rfl ?_) ?_
    · intro ρ W hC hc hf hL
      have e12 : ρ (.tmp 12) = .slice ao2 l2 ca2 := hL 12 (by decide +kernel)
      simp [go_sem, hc, hf, e12]
      refine (HLB.out W hC.vb).mono ?_
      rintro e w' ⟨rfl, hb⟩
      exact ⟨_, rfl, by first | exact hb | (subst hb; exact Below.refl _ _), rfl⟩
    refine gSt (gStep_run rfl (gRun_move 10 5 (.inr rfl) rfl (by decide +kernel) (fun v w h => h))) ?_
    refine gSt (gStep_run rfl (gRun_move 13 6 (.inr rfl) rfl (by decide +kernel) (fun v w h => h))) ?_
    exact gSt0
  · intro W hC
    refine gFi 8 rfl ?_
    rintro _ rfl
    refine gFi 9 rfl ?_
    rintro _ rfl
    refine gFi 10 rfl ?_
    rintro _ rfl
    refine gFi 11 rfl ?_
    rintro _ rfl
    refine gFi 12 rfl ?_
    rintro _ rfl
    refine gFi 13 rfl ?_
    rintro _ rfl
    refine gFi 5 rfl ?_
    rintro _ rfl
    refine gFi 6 rfl ?_
    rintro _ rfl
    refine gFi0 ?_
    simp only [List.drop_succ_cons, List.drop_zero, Act.put, List.setIfInBounds_toArray, List.set_cons_succ, List.set_cons_zero]
    have HS := hide hC
    have hne := HEQ.out
    have hmm := HM.out
    have q0 := hC.a2
    have q1 := hC.b2
    have hx1 : (((x : Nat) : Int) == 0) = false := by rw [beq_eq_false_iff_ne]; omega
    have hy1 : (((y : Nat) : Int) == 0) = false := by rw [beq_eq_false_iff_ne]; omega
    clear hC h1
    go_upto_region 7 with fail
    all_goals
      refine wp_gen (fun W => SzSt n1 n2 (.slice ao1 l1 ca1) (.slice ao2 l2 ca2) ea eb a b K w W) HS.out ?_
      clear HS q0 q1 hne hx1 hy1 hmm
      rintro W7 h7
      refine wp_region_grow 16 [(48, .val (.pointer (some ⟨w.heap.size, 1, none⟩))), (49, .val (.slice ao1 l1 ca1)), (50, .val (.pointer (some ⟨w.heap.size, 2, none⟩))), (51, .val (.int .i64 ea)), (52, .val (.int .i64 m)), (53, .val (.int .i64 (ea - m))), (54, .big u K2), (55, .val (.pointer (some ⟨w.heap.size + 1, 1, none⟩))), (56, .val (.slice ao2 l2 ca2)), (57, .val (.pointer (some ⟨w.heap.size + 1, 2, none⟩))), (58, .val (.int .i64 eb)), (59, .val (.int .i64 m)), (60, .val (.int .i64 (eb - m))), (61, .big v K2), (62, .val (.int .i64 r)), (4, .val (.int .i64 r))]
        (fun W => SzSt n1 n2 (.slice ao1 l1 ca1) (.slice ao2 l2 ca2) ea eb a b K w W) mixedOk (by kernel_rfl) (by kernel_rfl) (h7.below (Below.refl _ _).drew) (fun W W' h hb => h.below hb) ?_ ?_
      · refine gSt (gStep_run rfl ?_) ?_
        · intro ρ W hC hc hf hL
          have e2 : ρ (.tmp 2) = .pointer (some ⟨w.heap.size, 0, none⟩) := hL 2 (by decide +kernel)
          simp [go_sem, hc, hf, e2]
          exact ⟨Below.refl _ _, rfl⟩
        refine gSt (gStep_run rfl ?_) ?_
        · intro ρ W hC hc hf hL
          have e48 : ρ (.tmp 48) = .pointer (some ⟨w.heap.size, 1, none⟩) := hL 48 (by decide +kernel)
          have l0 := hC.a1
          simp [go_sem, hc, hf, e48, l0]
          exact ⟨Below.refl _ _, rfl⟩
        refine gSt (gStep_run rfl ?_) ?_
        · intro ρ W hC hc hf hL
          have e2 : ρ (.tmp 2) = .pointer (some ⟨w.heap.size, 0, none⟩) := hL 2 (by decide +kernel)
          simp [go_sem, hc, hf, e2]
          exact ⟨Below.refl _ _, rfl⟩
        refine gSt (gStep_run rfl ?_) ?_
        · intro ρ W hC hc hf hL
          have e50 : ρ (.tmp 50) = .pointer (some ⟨w.heap.size, 2, none⟩) := hL 50 (by decide +kernel)
          have l0 := hC.a2
          simp [go_sem, hc, hf, e50, l0]
          exact ⟨Below.refl _ _, rfl⟩
        refine gSt (gStep_run rfl (gRun_move 7 52 (.inl rfl) rfl (by decide +kernel) (fun v w h => h))) ?_
        refine gSt (gStep_run rfl ?_) ?_
        · intro ρ W hC hc hf hL
          have e51 : ρ (.tmp 51) = .int .i64 ea := hL 51 (by decide +kernel)
          have e52 : ρ (.tmp 52) = .int .i64 m := hL 52 (by decide +kernel)
          have l0 : IntKind.i64.wrap (ea - m) = ea - m := by rw [IntKind.wrap_i64]; omega
          simp [go_sem, hc, hf, e51, e52, l0]
          exact ⟨Below.refl _ _, rfl⟩
        refine gSt (gStep_run rfl ?_) ?_
        · intro ρ W hC hc hf hL
          have e49 : ρ (.tmp 49) = .slice ao1 l1 ca1 := hL 49 (by decide +kernel)
          have e53 : ρ (.tmp 53) = .int .i64 (ea - m) := hL 53 (by decide +kernel)
          simp [go_sem, hc, hf, e49, e53]
          refine (HSA.out W hC.va).mono ?_
          rintro e w' ⟨v, rfl, hv, hb⟩
          exact ⟨_, rfl, hb, hv⟩
        refine gSt (gStep_run rfl ?_) ?_
        · intro ρ W hC hc hf hL
          have e3 : ρ (.tmp 3) = .pointer (some ⟨w.heap.size + 1, 0, none⟩) := hL 3 (by decide +kernel)
          simp [go_sem, hc, hf, e3]
          exact ⟨Below.refl _ _, rfl⟩
        refine gSt (gStep_run rfl ?_) ?_
        · intro ρ W hC hc hf hL
          have e55 : ρ (.tmp 55) = .pointer (some ⟨w.heap.size + 1, 1, none⟩) := hL 55 (by decide +kernel)
          have l0 := hC.b1
          simp [go_sem, hc, hf, e55, l0]
          exact ⟨Below.refl _ _, rfl⟩
        refine gSt (gStep_run rfl ?_) ?_
        · intro ρ W hC hc hf hL
          have e3 : ρ (.tmp 3) = .pointer (some ⟨w.heap.size + 1, 0, none⟩) := hL 3 (by decide +kernel)
          simp [go_sem, hc, hf, e3]
          exact ⟨Below.refl _ _, rfl⟩
        refine gSt (gStep_run rfl ?_) ?_
        · intro ρ W hC hc hf hL
          have e57 : ρ (.tmp 57) = .pointer (some ⟨w.heap.size + 1, 2, none⟩) := hL 57 (by decide +kernel)
          have l0 := hC.b2
          simp [go_sem, hc, hf, e57, l0]
          exact ⟨Below.refl _ _, rfl⟩
        refine gSt (gStep_run rfl (gRun_move 7 59 (.inl rfl) rfl (by decide +kernel) (fun v w h => h))) ?_
        refine gSt (gStep_run rfl ?_) ?_
        · intro ρ W hC hc hf hL
          have e58 : ρ (.tmp 58) = .int .i64 eb := hL 58 (by decide +kernel)
          have e59 : ρ (.tmp 59) = .int .i64 m := hL 59 (by decide +kernel)
          have l0 : IntKind.i64.wrap (eb - m) = eb - m := by rw [IntKind.wrap_i64]; omega
          simp [go_sem, hc, hf, e58, e59, l0]
          exact ⟨Below.refl _ _, rfl⟩
        refine gSt (gStep_run rfl ?_) ?_
        · intro ρ W hC hc hf hL
          have e56 : ρ (.tmp 56) = .slice ao2 l2 ca2 := hL 56 (by decide +kernel)
          have e60 : ρ (.tmp 60) = .int .i64 (eb - m) := hL 60 (by decide +kernel)
          simp [go_sem, hc, hf, e56, e60]
          refine (HSB.out W hC.vb).mono ?_
          rintro e w' ⟨v, rfl, hv, hb⟩
          exact ⟨_, rfl, hb, hv⟩
        refine gSt (gStep_run rfl ?_) ?_
        · intro ρ W hC hc hf hL
          have b54 : BigV W (ρ (.tmp 54)) (u) (K2) := hL 54 (by decide +kernel)
          have b61 : BigV W (ρ (.tmp 61)) (v) (K2) := hL 61 (by decide +kernel)
          simp [go_sem, hc, hf]
          refine (HCM.out _ _ W b54 b61).mono ?_
          rintro e w' ⟨rfl, hb⟩
          exact ⟨_, rfl, by first | exact hb | (subst hb; exact Below.refl _ _), rfl⟩
        refine gSt (gStep_run rfl (gRun_move 62 4 (.inr rfl) rfl (by decide +kernel) (fun v w h => h))) ?_
        exact gSt0
      · intro W hC
        refine gFi 48 rfl ?_
        rintro _ rfl
        refine gFi 49 rfl ?_
        rintro _ rfl
        refine gFi 50 rfl ?_
        rintro _ rfl
        refine gFi 51 rfl ?_
        rintro _ rfl
        refine gFi 52 rfl ?_
        rintro _ rfl
        refine gFi 53 rfl ?_
        rintro _ rfl
        refine gFi 54 rfl ?_
        rintro u54 b54
        refine gFi 55 rfl ?_
        rintro _ rfl
        refine gFi 56 rfl ?_
        rintro _ rfl
        refine gFi 57 rfl ?_
        rintro _ rfl
        refine gFi 58 rfl ?_
        rintro _ rfl
        refine gFi 59 rfl ?_
        rintro _ rfl
        refine gFi 60 rfl ?_
        rintro _ rfl
        refine gFi 61 rfl ?_
        rintro u61 b61
        refine gFi 62 rfl ?_
        rintro _ rfl
        refine gFi 4 rfl ?_
        rintro _ rfl
        refine gFi0 ?_
        simp only [List.drop_succ_cons, List.drop_zero, Act.put, List.setIfInBounds_toArray, List.set_cons_succ, List.set_cons_zero]
        have HB := hide hC.bel
        clear hC h7 b54 b61
        go_wp2
        go_ret
        exact ⟨rfl, HB.out⟩
    

end Go.Proofs.YtpcjdllijkjdkaaGreatDoor

/- Contracts: the document's Size, with its numbers; unpack.Top. -/
set_option linter.unusedVariables false
set_option linter.unusedSimpArgs false
set_option maxRecDepth 8000
namespace Go.Proofs.YtpcjdllijkjdkaaGreatDoor
open Go.RowKit Plain

theorem len_qq {a : Nat} (h : a < QQ) : Go.bitLen a ≤ 512 := by
  obtain ⟨q, hq⟩ : ∃ q, q = 512 := ⟨_, rfl⟩
  have e := qq_pow q hq
  have := (len_le a q).2 (by rw [e]; exact h)
  omega
theorem len_pos {a : Nat} (h : a ≠ 0) : 1 ≤ Go.bitLen a := by
  rcases Nat.eq_zero_or_pos (Go.bitLen a) with h0 | h0
  · exact absurd (by have := (len_le a 0).1 (by omega); simpa using this) h
  · exact h0
theorem len_ge {a : Nat} (h : a ≠ 0) : 2 ^ (Go.bitLen a - 1) ≤ a := by
  have h1 := len_pos h
  rcases Nat.lt_or_ge a (2 ^ (Go.bitLen a - 1)) with h2 | h2
  · have := (len_le a (Go.bitLen a - 1)).2 h2
    omega
  · exact h2
theorem len_lt (a : Nat) : a < 2 ^ Go.bitLen a := (len_le a _).1 (Nat.le_refl _)
/-- A number, held against another one: the document's Size. -/
def sizeZ (a : Nat) (ea : Int) (b : Nat) (eb : Int) : Int :=
  if a = 0 then (if b = 0 then 0 else -1) else if b = 0 then 1 else if ea + (Go.bitLen a : Int) ≠ eb + (Go.bitLen b : Int) then ea + (Go.bitLen a : Int) - eb - (Go.bitLen b : Int) else cmpN (a * 2 ^ (ea - min ea eb).toNat) (b * 2 ^ (eb - min ea eb).toNat)
/-- A number, brought to an exponent. -/
def vl (a : Nat) (e m : Int) : Nat := a * 2 ^ (e - m).toNat
theorem vl_lt {a : Nat} {e m : Int} (hm : m ≤ e) : vl a e m < 2 ^ (e + (Go.bitLen a : Int) - m).toNat := by
  have h := len_lt a
  rw [show (e + (Go.bitLen a : Int) - m).toNat = Go.bitLen a + (e - m).toNat by omega, Nat.pow_add]
  exact Nat.mul_lt_mul_of_pos_right h (Nat.two_pow_pos _)
theorem vl_ge {a : Nat} {e m : Int} (hm : m ≤ e) (h0 : a ≠ 0) : 2 ^ (e + (Go.bitLen a : Int) - 1 - m).toNat ≤ vl a e m := by
  have h := len_ge h0
  have h1 := len_pos h0
  rw [show (e + (Go.bitLen a : Int) - 1 - m).toNat = (Go.bitLen a - 1) + (e - m).toNat by omega, Nat.pow_add]
  exact Nat.mul_le_mul_right _ h
theorem vl_up {a : Nat} {e m k : Int} (hk : k ≤ m) (hm : m ≤ e) : vl a e k = vl a e m * 2 ^ (m - k).toNat := by
  unfold vl
  rw [Nat.mul_assoc, ← Nat.pow_add]
  congr 2
  omega
theorem vl_zero (e m : Int) : vl 0 e m = 0 := Nat.zero_mul _
theorem vl_pos {a : Nat} (e m : Int) (h : a ≠ 0) : 0 < vl a e m := Nat.mul_pos (Nat.pos_of_ne_zero h) (Nat.two_pow_pos _)
theorem cmpN_neg (x y : Nat) : cmpN x y < 0 ↔ x < y := by
  unfold cmpN
  repeat' split
  all_goals (constructor <;> intro h <;> omega)
theorem cmpN_zero (x y : Nat) : cmpN x y = 0 ↔ x = y := by
  unfold cmpN
  repeat' split
  all_goals (constructor <;> intro h <;> omega)
/-- What Size says: by the numbers brought to one exponent. -/
theorem sizeZ_spec (a b : Nat) (ea eb m : Int) (h1 : m ≤ ea) (h2 : m ≤ eb) : (sizeZ a ea b eb < 0 ↔ vl a ea m < vl b eb m) ∧ (sizeZ a ea b eb = 0 ↔ vl a ea m = vl b eb m) := by
  unfold sizeZ
  by_cases ha : a = 0
  · rw [if_pos ha]
    subst ha
    by_cases hb : b = 0
    · rw [if_pos hb]; subst hb; rw [vl_zero, vl_zero]; exact ⟨by omega, by omega⟩
    · rw [if_neg hb, vl_zero]
      have := vl_pos eb m hb
      exact ⟨by omega, by omega⟩
  rw [if_neg ha]
  by_cases hb : b = 0
  · rw [if_pos hb]
    subst hb
    rw [vl_zero]
    have := vl_pos ea m ha
    exact ⟨by omega, by omega⟩
  rw [if_neg hb]
  by_cases ht : ea + (Go.bitLen a : Int) ≠ eb + (Go.bitLen b : Int)
  · rw [if_pos ht]
    have la := vl_lt (a := a) h1
    have ga := vl_ge h1 ha
    have lb := vl_lt (a := b) h2
    have gb := vl_ge h2 hb
    rcases Int.lt_or_gt_of_ne ht with hl | hl
    · have : 2 ^ (ea + (Go.bitLen a : Int) - m).toNat ≤ 2 ^ (eb + (Go.bitLen b : Int) - 1 - m).toNat := Nat.pow_le_pow_right (by decide) (by omega)
      exact ⟨by omega, by omega⟩
    · have : 2 ^ (eb + (Go.bitLen b : Int) - m).toNat ≤ 2 ^ (ea + (Go.bitLen a : Int) - 1 - m).toNat := Nat.pow_le_pow_right (by decide) (by omega)
      exact ⟨by omega, by omega⟩
  · rw [if_neg ht, cmpN_neg, cmpN_zero, vl_up (a := a) (m := min ea eb) (k := m) (by omega) (by omega), vl_up (a := b) (m := min ea eb) (k := m) (by omega) (by omega)]
    have hp := Nat.two_pow_pos (min ea eb - m).toNat
    exact ⟨⟨fun h => Nat.mul_lt_mul_of_pos_right h hp, fun h => Nat.lt_of_mul_lt_mul_right h⟩, ⟨fun h => by unfold vl; rw [h], fun h => Nat.eq_of_mul_eq_mul_right hp h⟩⟩

theorem BigV.slice {W : World} {v : Value} {s K : Nat} (h : BigV W v s K) : ∃ ao l ca, v = .slice ao l ca := by
  obtain ⟨l, ⟨ao, ca, rfl, -⟩, -⟩ := h
  exact ⟨_, _, _, rfl⟩
theorem refSize_any (n1 n2 : Bool) (a b : Nat) (ea eb : Int) (u v : Value) (w : World) (hu : NumV w u n1 ea a 40) (hv : NumV w v n2 eb b 40) (ha : a < QQ) (hb : b < QQ) (hea : -100000000 ≤ ea ∧ ea ≤ 100000000) (heb : -100000000 ≤ eb ∧ eb ≤ 100000000) :
    Calls Tryz.prog 68 #[u, v] w fun e w' => e = .returned (.int .i64 (sizeZ a ea b eb)) ∧ Below w.heap.size w w' := by
  obtain ⟨u, rfl, hu⟩ := hu
  obtain ⟨v, rfl, hv⟩ := hv
  obtain ⟨ao1, l1, ca1, rfl⟩ := hu.slice
  obtain ⟨ao2, l2, ca2, rfl⟩ := hv.slice
  have la := len_qq ha
  have lb := len_qq hb
  have HLA : ∀ w, BigV w (.slice ao1 l1 ca1) a 40 → _ := fun w h => refLen_any a 40 _ w h (by decide)
  have HLB : ∀ w, BigV w (.slice ao2 l2 ca2) b 40 → _ := fun w h => refLen_any b 40 _ w h (by decide)
  unfold sizeZ
  by_cases h1 : a = 0
  · rw [if_pos h1]
    have e1 : Go.bitLen a = 0 := by rw [h1]; rfl
    rw [e1] at HLA
    by_cases h2 : b = 0
    · rw [if_pos h2]
      have e2 : Go.bitLen b = 0 := by rw [h2]; rfl
      rw [e2] at HLB
      exact size_ZZ n1 n2 ao1 ao2 l1 ca1 l2 ca2 ea eb a b 40 0 0 0 HLA HLB hea heb w hu hv
    · rw [if_neg h2]
      exact size_ZP n1 n2 ao1 ao2 l1 ca1 l2 ca2 ea eb a b 40 0 (Go.bitLen b) 0 HLA HLB ⟨len_pos h2, by omega⟩ hea heb w hu hv
  rw [if_neg h1]
  by_cases h2 : b = 0
  · rw [if_pos h2]
    have e2 : Go.bitLen b = 0 := by rw [h2]; rfl
    rw [e2] at HLB
    exact size_PZ n1 n2 ao1 ao2 l1 ca1 l2 ca2 ea eb a b 40 (Go.bitLen a) 0 0 HLA HLB ⟨len_pos h1, by omega⟩ hea heb w hu hv
  rw [if_neg h2]
  by_cases ht : ea + (Go.bitLen a : Int) ≠ eb + (Go.bitLen b : Int)
  · rw [if_pos ht]
    exact size_T n1 n2 ao1 ao2 l1 ca1 l2 ca2 ea eb a b 40 (Go.bitLen a) (Go.bitLen b) 0 HLA HLB ⟨len_pos h1, by omega⟩ ⟨len_pos h2, by omega⟩ hea heb (by unfold Hid; rw [bne_iff_ne]; exact ht) w hu hv
  · rw [if_neg ht]
    have p1 := len_pos h1
    have p2 := len_pos h2
    refine size_E n1 n2 ao1 ao2 l1 ca1 l2 ca2 ea eb a b 40 (Go.bitLen a) (Go.bitLen b) _ HLA HLB ⟨p1, by omega⟩ ⟨p2, by omega⟩ hea heb (by unfold Hid; rw [bne_eq_false_iff_eq]; omega) (min ea eb) rfl (by omega)
      (a * 2 ^ (ea - min ea eb).toNat) (b * 2 ^ (eb - min ea eb).toNat) 100
      (fun w h => (refShl_int a 40 (ea - min ea eb).toNat (ea - min ea eb) _ w h (by decide) (by omega) (by omega)).mono fun e w' ⟨q, e1, e2, e3⟩ => ⟨q, e1, e2.mono (by omega), e3⟩)
      (fun w h => (refShl_int b 40 (eb - min ea eb).toNat (eb - min ea eb) _ w h (by decide) (by omega) (by omega)).mono fun e w' ⟨q, e1, e2, e3⟩ => ⟨q, e1, e2.mono (by omega), e3⟩)
      (fun p q w hp hq => cmp_any _ _ 100 100 p q w hp hq) w hu hv

set_option maxHeartbeats 1000000 in
theorem top_Z (neg : Bool) (z : Int) (s : Nat) (hr : rgt z = true) (hz : -1048576 ≤ z ∧ z ≤ 1048576) (w : World) : Calls Tryz.prog 53 #[.agg #[.bool (neg), .int .i64 (z), .int .u64 (dgl (0) 0 : Nat), .int .u64 (dgl (0) 1 : Nat), .int .u64 (dgl (0) 2 : Nat), .int .u64 (dgl (0) 3 : Nat), .int .u64 (dgl (0) 4 : Nat), .int .u64 (dgl (0) 5 : Nat), .int .u64 (dgl (0) 6 : Nat), .int .u64 (dgl (0) 7 : Nat)]] w fun e w' => e = .returned (.tuple #[.int .i64 0, .bool false]) ∧ Below w.heap.size w w' := by
  have HR := hide (fun w => uRight_any neg z 0 w)
  rw [hr] at HR
  have HS := hide (show NB (w.alloc (.cells #[.bool (neg), .int .i64 (z), .int .u64 (dgl (0) 0 : Nat), .int .u64 (dgl (0) 1 : Nat), .int .u64 (dgl (0) 2 : Nat), .int .u64 (dgl (0) 3 : Nat), .int .u64 (dgl (0) 4 : Nat), .int .u64 (dgl (0) 5 : Nat), .int .u64 (dgl (0) 6 : Nat), .int .u64 (dgl (0) 7 : Nat)] 27)) w.heap.size neg z 0 ∧ Below w.heap.size w (w.alloc (.cells #[.bool (neg), .int .i64 (z), .int .u64 (dgl (0) 0 : Nat), .int .u64 (dgl (0) 1 : Nat), .int .u64 (dgl (0) 2 : Nat), .int .u64 (dgl (0) 3 : Nat), .int .u64 (dgl (0) 4 : Nat), .int .u64 (dgl (0) 5 : Nat), .int .u64 (dgl (0) 6 : Nat), .int .u64 (dgl (0) 7 : Nat)] 27)) from ⟨nb_new _ _ _ _ _, below_allocs _ _⟩)
  have hq : ∀ w, (Op.equalIn 10000 25 (.agg #[.int .u64 (dgl (0) 0 : Nat), .int .u64 (dgl (0) 1 : Nat), .int .u64 (dgl (0) 2 : Nat), .int .u64 (dgl (0) 3 : Nat), .int .u64 (dgl (0) 4 : Nat), .int .u64 (dgl (0) 5 : Nat), .int .u64 (dgl (0) 6 : Nat), .int .u64 (dgl (0) 7 : Nat)]) (.agg #[.int .u64 0, .int .u64 0, .int .u64 0, .int .u64 0, .int .u64 0, .int .u64 0, .int .u64 0, .int .u64 0])).run Tryz.prog w = .ok true w := fun w => by have := wide_eqz (a := 0) (Nat.lt_trans (by decide) one_lt_qq) w; simpa using this
  clear hr
  go_enter Tryz.func53, Tryz.ntmps53
  have ln := HS.out.1.n
  have le := HS.out.1.e
  have l0 := HS.out.1.x0
  have l1 := HS.out.1.x1
  have l2 := HS.out.1.x2
  have l3 := HS.out.1.x3
  have l4 := HS.out.1.x4
  have l5 := HS.out.1.x5
  have l6 := HS.out.1.x6
  have l7 := HS.out.1.x7
  go_wp2_with fail
  refine (HR.out _).mono ?_
  rintro e w1 ⟨rfl, hb1⟩
  replace HS := hide (show NB w1 w.heap.size neg z 0 ∧ Below w.heap.size w w1 from ⟨HS.out.1.below hb1, below_trans HS.out.2 hb1⟩)
  clear hb1 ln le l0 l1 l2 l3 l4 l5 l6 l7
  have ln := HS.out.1.n
  have le := HS.out.1.e
  have l0 := HS.out.1.x0
  have l1 := HS.out.1.x1
  have l2 := HS.out.1.x2
  have l3 := HS.out.1.x3
  have l4 := HS.out.1.x4
  have l5 := HS.out.1.x5
  have l6 := HS.out.1.x6
  have l7 := HS.out.1.x7
  have HB := hide HS.out.2
  clear HS
  go_wp2
  exact bodyPost_ret (v := .tuple #[.int .i64 0, .bool false]) (by simp [results, Tryz.results53, go_sem]) rfl ⟨rfl, HB.out⟩

set_option maxHeartbeats 1000000 in
theorem top_Y (neg : Bool) (z : Int) (s : Nat) (hr : rgt z = true) (hz : -1048576 ≤ z ∧ z ≤ 1048576) (hs : s < QQ) (h0 : s ≠ 0) (w : World) : Calls Tryz.prog 53 #[.agg #[.bool (neg), .int .i64 (z), .int .u64 (dgl (s) 0 : Nat), .int .u64 (dgl (s) 1 : Nat), .int .u64 (dgl (s) 2 : Nat), .int .u64 (dgl (s) 3 : Nat), .int .u64 (dgl (s) 4 : Nat), .int .u64 (dgl (s) 5 : Nat), .int .u64 (dgl (s) 6 : Nat), .int .u64 (dgl (s) 7 : Nat)]] w fun e w' => e = .returned (.tuple #[.int .i64 (z + (Go.bitLen s : Int) - 1), .bool true]) ∧ Below w.heap.size w w' := by
  have HR := hide (fun w => uRight_any neg z s w)
  rw [hr] at HR
  have HS := hide (show NB (w.alloc (.cells #[.bool (neg), .int .i64 (z), .int .u64 (dgl (s) 0 : Nat), .int .u64 (dgl (s) 1 : Nat), .int .u64 (dgl (s) 2 : Nat), .int .u64 (dgl (s) 3 : Nat), .int .u64 (dgl (s) 4 : Nat), .int .u64 (dgl (s) 5 : Nat), .int .u64 (dgl (s) 6 : Nat), .int .u64 (dgl (s) 7 : Nat)] 27)) w.heap.size neg z s ∧ Below w.heap.size w (w.alloc (.cells #[.bool (neg), .int .i64 (z), .int .u64 (dgl (s) 0 : Nat), .int .u64 (dgl (s) 1 : Nat), .int .u64 (dgl (s) 2 : Nat), .int .u64 (dgl (s) 3 : Nat), .int .u64 (dgl (s) 4 : Nat), .int .u64 (dgl (s) 5 : Nat), .int .u64 (dgl (s) 6 : Nat), .int .u64 (dgl (s) 7 : Nat)] 27)) from ⟨nb_new _ _ _ _ _, below_allocs _ _⟩)
  have hq : ∀ w, (Op.equalIn 10000 25 (.agg #[.int .u64 (dgl (s) 0 : Nat), .int .u64 (dgl (s) 1 : Nat), .int .u64 (dgl (s) 2 : Nat), .int .u64 (dgl (s) 3 : Nat), .int .u64 (dgl (s) 4 : Nat), .int .u64 (dgl (s) 5 : Nat), .int .u64 (dgl (s) 6 : Nat), .int .u64 (dgl (s) 7 : Nat)]) (.agg #[.int .u64 0, .int .u64 0, .int .u64 0, .int .u64 0, .int .u64 0, .int .u64 0, .int .u64 0, .int .u64 0])).run Tryz.prog w = .ok false w := fun w => by have := wide_eqz hs w; rw [decide_eq_false h0] at this; exact this
  have HLN := hide (fun w => wideLen_any s hs w)
  have hln := len_qq hs
  have HQ := hide hq
  clear hs h0
  generalize Go.bitLen s = l at *
  clear hr
  go_enter Tryz.func53, Tryz.ntmps53
  have ln := HS.out.1.n
  have le := HS.out.1.e
  have l0 := HS.out.1.x0
  have l1 := HS.out.1.x1
  have l2 := HS.out.1.x2
  have l3 := HS.out.1.x3
  have l4 := HS.out.1.x4
  have l5 := HS.out.1.x5
  have l6 := HS.out.1.x6
  have l7 := HS.out.1.x7
  go_wp2_with fail
  refine (HR.out _).mono ?_
  rintro e w1 ⟨rfl, hb1⟩
  replace HS := hide (show NB w1 w.heap.size neg z s ∧ Below w.heap.size w w1 from ⟨HS.out.1.below hb1, below_trans HS.out.2 hb1⟩)
  clear hb1 ln le l0 l1 l2 l3 l4 l5 l6 l7
  have ln := HS.out.1.n
  have le := HS.out.1.e
  have l0 := HS.out.1.x0
  have l1 := HS.out.1.x1
  have l2 := HS.out.1.x2
  have l3 := HS.out.1.x3
  have l4 := HS.out.1.x4
  have l5 := HS.out.1.x5
  have l6 := HS.out.1.x6
  have l7 := HS.out.1.x7
  go_upto_region 3 with fail
  refine wp_gen (fun W => NB W w.heap.size neg z s ∧ Below w.heap.size w W) HS.out ?_
  clear HS hq ln le l0 l1 l2 l3 l4 l5 l6 l7
  rintro W1 h1
  refine wp_region_grow 9 [(13, .val (.pointer (some ⟨w.heap.size, 1, none⟩))), (14, .val (.int .i64 z)), (15, .val (.pointer (some ⟨w.heap.size, 2, none⟩))), (16, .val (.agg #[.int .u64 (dgl (s) 0 : Nat), .int .u64 (dgl (s) 1 : Nat), .int .u64 (dgl (s) 2 : Nat), .int .u64 (dgl (s) 3 : Nat), .int .u64 (dgl (s) 4 : Nat), .int .u64 (dgl (s) 5 : Nat), .int .u64 (dgl (s) 6 : Nat), .int .u64 (dgl (s) 7 : Nat)])), (17, .val (.int .i64 (l : Nat))), (18, .val (.int .i64 (z + (l : Int)))), (19, .val (.int .i64 (z + (l : Int) - 1))), (2, .val (.int .i64 (z + (l : Int) - 1))), (3, .val (.bool true))]
    (fun W => NB W w.heap.size neg z s ∧ Below w.heap.size w W) mixedOk (by kernel_rfl) (by kernel_rfl) (⟨h1.1.below (Below.refl _ _).drew, below_trans h1.2 (Below.refl _ _).drew⟩) (fun W W' h hb => ⟨h.1.below hb, below_trans h.2 hb⟩) ?_ ?_
  · refine gSt (gStep_run rfl ?_) ?_
    · intro ρ W hC hc hf hL
      have e1 : ρ (.tmp 1) = .pointer (some ⟨w.heap.size, 0, none⟩) := hL 1 (by decide +kernel)
      simp [go_sem, hc, hf, e1]
      exact ⟨Below.refl _ _, rfl⟩
    refine gSt (gStep_run rfl ?_) ?_
    · intro ρ W hC hc hf hL
      have e13 : ρ (.tmp 13) = .pointer (some ⟨w.heap.size, 1, none⟩) := hL 13 (by decide +kernel)
      have l0 := hC.1.e
      simp [go_sem, hc, hf, e13, l0]
      exact ⟨Below.refl _ _, rfl⟩
    refine gSt (gStep_run rfl ?_) ?_
    · intro ρ W hC hc hf hL
      have e1 : ρ (.tmp 1) = .pointer (some ⟨w.heap.size, 0, none⟩) := hL 1 (by decide +kernel)
      simp [go_sem, hc, hf, e1]
      exact ⟨Below.refl _ _, rfl⟩
    refine gSt (gStep_run rfl ?_) ?_
    · intro ρ W hC hc hf hL
      have e15 : ρ (.tmp 15) = .pointer (some ⟨w.heap.size, 2, none⟩) := hL 15 (by decide +kernel)
      have l0 := hC.1.x0
      have l1 := hC.1.x1
      have l2 := hC.1.x2
      have l3 := hC.1.x3
      have l4 := hC.1.x4
      have l5 := hC.1.x5
      have l6 := hC.1.x6
      have l7 := hC.1.x7
      simp [go_sem, hc, hf, e15, l0, l1, l2, l3, l4, l5, l6, l7]
      exact ⟨Below.refl _ _, rfl⟩
    refine gSt (gStep_run rfl ?_) ?_
    · intro ρ W hC hc hf hL
      have e16 : ρ (.tmp 16) = .agg #[.int .u64 (dgl (s) 0 : Nat), .int .u64 (dgl (s) 1 : Nat), .int .u64 (dgl (s) 2 : Nat), .int .u64 (dgl (s) 3 : Nat), .int .u64 (dgl (s) 4 : Nat), .int .u64 (dgl (s) 5 : Nat), .int .u64 (dgl (s) 6 : Nat), .int .u64 (dgl (s) 7 : Nat)] := hL 16 (by decide +kernel)
      simp [go_sem, hc, hf, e16]
      refine (HLN.out W).mono ?_
      rintro e w' ⟨rfl, hb⟩
      exact ⟨_, rfl, by first | exact hb | (subst hb; exact Below.refl _ _), rfl⟩
    refine gSt (gStep_run rfl ?_) ?_
    · intro ρ W hC hc hf hL
      have e14 : ρ (.tmp 14) = .int .i64 z := hL 14 (by decide +kernel)
      have e17 : ρ (.tmp 17) = .int .i64 (l : Nat) := hL 17 (by decide +kernel)
      have l0 : IntKind.i64.wrap (z + (l : Int)) = z + (l : Int) := by rw [IntKind.wrap_i64]; omega
      simp [go_sem, hc, hf, e14, e17, l0]
      exact ⟨Below.refl _ _, rfl⟩
    refine gSt (gStep_run rfl ?_) ?_
    · intro ρ W hC hc hf hL
      have e18 : ρ (.tmp 18) = .int .i64 (z + (l : Int)) := hL 18 (by decide +kernel)
      have l0 : IntKind.i64.wrap (z + (l : Int) - 1) = z + (l : Int) - 1 := by rw [IntKind.wrap_i64]; omega
      simp [go_sem, hc, hf, e18, l0]
      exact ⟨Below.refl _ _, rfl⟩
    refine gSt (gStep_run rfl (gRun_move 19 2 (.inr rfl) rfl (by decide +kernel) (fun v w h => h))) ?_
    refine gSt (gStep_run rfl (gRun_const _ 3 (.inr rfl) rfl (fun w => rfl))) ?_
    exact gSt0
  · intro W hC
    refine gFi 13 rfl ?_
    rintro _ rfl
    refine gFi 14 rfl ?_
    rintro _ rfl
    refine gFi 15 rfl ?_
    rintro _ rfl
    refine gFi 16 rfl ?_
    rintro _ rfl
    refine gFi 17 rfl ?_
    rintro _ rfl
    refine gFi 18 rfl ?_
    rintro _ rfl
    refine gFi 19 rfl ?_
    rintro _ rfl
    refine gFi 2 rfl ?_
    rintro _ rfl
    refine gFi 3 rfl ?_
    rintro _ rfl
    refine gFi0 ?_
    simp only [List.drop_succ_cons, List.drop_zero, Act.put, List.setIfInBounds_toArray, List.set_cons_succ, List.set_cons_zero]
    have HB := hide hC.2
    clear hC h1
    go_wp2
    exact bodyPost_ret (v := .tuple #[.int .i64 (z + (l : Int) - 1), .bool true]) (by simp [results, Tryz.results53, go_sem]) rfl ⟨rfl, HB.out⟩

end Go.Proofs.YtpcjdllijkjdkaaGreatDoor

/- Contracts: nan.quietBit, Payload, With, Quieted. -/
set_option linter.unusedVariables false
set_option linter.unusedSimpArgs false
set_option maxRecDepth 8000
namespace Go.Proofs.YtpcjdllijkjdkaaGreatDoor
open Go.RowKit Plain

theorem WB.under {W W' : World} {p x y : Nat} (h : WB W p x y) {C : Nat} (hb : Below C W W') (hc : p < C) : WB W' p x y :=
  ⟨(hb.cell (p := ⟨p, 0, none⟩) hc).trans h.h, (hb.cell (p := ⟨p, 1, none⟩) hc).trans h.l, Nat.lt_of_lt_of_le h.lt hb.size⟩
def qb (f : Int) : Nat := tU f (2 ^ 9) (2 ^ 22) (2 ^ 51) (2 ^ 111) 0
end Go.Proofs.YtpcjdllijkjdkaaGreatDoor

/- Contracts: nan.Payload, With, Quieted at any format, with their numbers. -/
set_option linter.unusedVariables false
set_option linter.unusedSimpArgs false
set_option maxRecDepth 8000
namespace Go.Proofs.YtpcjdllijkjdkaaGreatDoor
open Go.RowKit Plain

theorem own_N {B P F a : Nat} (hB : B = P + F) (hP : 0 < P) (h : clsN B P F a ≠ 0) : a = fldN B P F a * 2 ^ (P - 1) + frcN B P a + (bif negN B a then 2 ^ (B - 1) else 0) := by
  have hb := cls_fit h
  have e1 : fldN B P F a = a / 2 ^ (P - 1) % 2 ^ F := if_pos hb
  have e2 : frcN B P a = a % 2 ^ (P - 1) := if_pos hb
  have e3 : negN B a = (a / 2 ^ (P + F - 1) % 2 == 1) := by
    unfold negN
    rw [decide_eq_true hb, Bool.true_and, hB]
  subst hB
  rw [e1, e2, e3]
  exact (ownN hP hb).symm
theorem own_u {f : Int} {a : Nat} (h : clsU f a ≠ 0) : a = fldU f a * (2 * qb f) + frcU f a + (bif negU f a then 2 ^ (bU f - 1) else 0) := by
  rcases f_cases f with rfl | rfl | rfl | rfl | h0
  · exact own_N (B := 16) (P := 11) (F := 5) rfl (by decide) h
  · exact own_N (B := 32) (P := 24) (F := 8) rfl (by decide) h
  · exact own_N (B := 64) (P := 53) (F := 11) rfl (by decide) h
  · exact own_N (B := 128) (P := 113) (F := 15) rfl (by decide) h
  · exact absurd (tU_none f h0 _ _ _ _ _) h
theorem qb_small (f : Int) : 2 * qb f < QQ := by
  unfold qb tU
  repeat' split
  all_goals decide +kernel
end Go.Proofs.YtpcjdllijkjdkaaGreatDoor

/- Contracts: unpack.Short. -/
set_option linter.unusedVariables false
set_option linter.unusedSimpArgs false
set_option maxRecDepth 8000
namespace Go.Proofs.YtpcjdllijkjdkaaGreatDoor
open Go.RowKit Plain

end Go.Proofs.YtpcjdllijkjdkaaGreatDoor

