/- Contracts and laws: SrtB, SrtC, FlyF, WideV. -/
import Derived.Test.YtbngaajhdaciaaaPartAM
import Derived.Test.YtbngaajhdaciaaaPartAL
/- Contracts: radicandref15.Sub. -/
set_option linter.unusedVariables false
set_option linter.unusedSimpArgs false
set_option maxRecDepth 8000
namespace Go.Proofs.Ytbngaajhdaciaaa
open Go.RowKit Plain

set_option maxHeartbeats 4000000 in
theorem sub15_UT (o1 o2 : Option Addr) (l1 c1 l2 c2 : Nat) (x y K L : Nat)  (w : World) (hx : BigV w (.slice o1 l1 c1) x K) (hy : BigV w (.slice o2 l2 c2) y L) (hK : K ≤ 10000) (hL : L ≤ 10000) :
    Calls Try.prog 36 #[.agg #[.slice o1 l1 c1, .bool true], .agg #[.slice o2 l2 c2, .bool false]] w fun e w' => ∃ v, e = .returned (.agg #[v, .bool true]) ∧ BigV w' v (x + y) (max K L + 1) ∧ Fresh w.heap.size v ∧ Below w.heap.size w w' := by
  have HS := hide (sb15_start o1 o2 l1 c1 l2 c2 true false x y K L w hx hy 65 65 65)
  clear hx hy
  go_enter Try.func36, Try.ntmps36
  have ha0 := HS.out.a0
  have ha1 := HS.out.a1
  have hb0 := HS.out.b0
  have hb1 := HS.out.b1
  go_upto_region 2 with fail
  clear ha0 ha1 hb0 hb1
  refine wp_gen (fun W => Sb15 (.slice o1 l1 c1) (.slice o2 l2 c2) true false x y K L w W) HS.out ?_
  clear HS
  rintro W2 h2
  have HS := hide h2
  clear h2
  refine wp_region_storeK 9 [8] [10, 11, 12, 13, 14, 15, 16, 17] (fun bs => [(10, .val (.pointer (some ⟨w.heap.size, 0, none⟩))), (11, .val (.slice o1 l1 c1)), (12, .val (.pointer (some ⟨w.heap.size + 1, 0, none⟩))), (13, .val (.slice o2 l2 c2)), (14, bif bs.headD false then SlotIs.any  else SlotIs.bigF (x + y) (max K L + 1) (w.heap.size)), (15, .val (.pointer (some ⟨w.heap.size, 1, none⟩))), (16, .val (.bool true)), (17, bif bs.headD false then SlotIs.any  else SlotIs.sg (x + y) (max K L + 1) true (w.heap.size))])
    (fun bs W => Sb15 (.slice o1 l1 c1) (.slice o2 l2 c2) true false x y K L w W ∧ (bs.headD false = true → ∃ ao l ca, W.cell? ⟨w.heap.size + 2, 0, none⟩ = some (.slice ao l ca) ∧ W.cell? ⟨w.heap.size + 2, 1, none⟩ = some (.bool true) ∧ BigV W (.slice ao l ca) (x + y) (max K L + 1) ∧ Fresh w.heap.size (.slice ao l ca))) (fun bs => rfl) mixedOk (by kernel_rfl) (by kernel_rfl) (by kernel_rfl) (⟨HS.out.below (Below.refl _ _).drew, fun h => by cases h⟩) (fun bs W W' h hb => ⟨h.1.below hb, fun hq => by obtain ⟨ao, l, ca, e0, e1, e2, e3⟩ := h.2 hq; exact ⟨ao, l, ca, (hb.cell (p := ⟨w.heap.size + 2, 0, none⟩) h.1.lt).trans e0, (hb.cell (p := ⟨w.heap.size + 2, 1, none⟩) h.1.lt).trans e1, e2.below hb, e3⟩⟩) ?_ ?_
  · refine kSt rfl (fun φ hφ => gStep_run rfl ?_) ?_
    · intro ρ W hC hc hf hL
      have e2 : ρ (.tmp 2) = .pointer (some ⟨w.heap.size, 0, none⟩) := hL 2 (by decide +kernel)
      simp [go_sem, hc, hf, e2]
      exact ⟨Below.refl _ _, rfl⟩
    refine kSt rfl (fun φ hφ => gStep_run rfl ?_) ?_
    · intro ρ W hC hc hf hL
      have e10 : ρ (.tmp 10) = .pointer (some ⟨w.heap.size, 0, none⟩) := hL 10 (by decide +kernel)
      have la0 := hC.1.a0
      simp [go_sem, hc, hf, e10, la0]
      exact ⟨Below.refl _ _, rfl⟩
    refine kSt rfl (fun φ hφ => gStep_run rfl ?_) ?_
    · intro ρ W hC hc hf hL
      have e3 : ρ (.tmp 3) = .pointer (some ⟨w.heap.size + 1, 0, none⟩) := hL 3 (by decide +kernel)
      simp [go_sem, hc, hf, e3]
      exact ⟨Below.refl _ _, rfl⟩
    refine kSt rfl (fun φ hφ => gStep_run rfl ?_) ?_
    · intro ρ W hC hc hf hL
      have e12 : ρ (.tmp 12) = .pointer (some ⟨w.heap.size + 1, 0, none⟩) := hL 12 (by decide +kernel)
      have lb0 := hC.1.b0
      simp [go_sem, hc, hf, e12, lb0]
      exact ⟨Below.refl _ _, rfl⟩
    refine kSt rfl (fun φ hφ => gStep_run rfl ?_) ?_
    · intro ρ W hC hc hf hL
      have hφ0 : φ 8 = false := hφ 8 (by simp) (by kernel_rfl)
      have e11 : ρ (.tmp 11) = .slice o1 l1 c1 := hL 11 (by decide +kernel)
      have e13 : ρ (.tmp 13) = .slice o2 l2 c2 := hL 13 (by decide +kernel)
      simp [go_sem, hc, hf, e11, e13]
      refine (refAddF_any x y K L _ _ _ hC.1.gx hC.1.gy (by omega) (by omega)).mono ?_
      rintro e w' ⟨v, rfl, hv, hfv, hb⟩
      refine ⟨_, rfl, hb, ?_⟩
      show (bif φ 8 then SlotIs.any else SlotIs.bigF (x + y) (max K L + 1) (w.heap.size)).R _ _
      rw [hφ0]
      exact ⟨hv, hfv.mono hC.1.bel.size⟩
    refine kSt rfl (fun φ hφ => gStep_run rfl ?_) ?_
    · intro ρ W hC hc hf hL
      have e2 : ρ (.tmp 2) = .pointer (some ⟨w.heap.size, 0, none⟩) := hL 2 (by decide +kernel)
      simp [go_sem, hc, hf, e2]
      exact ⟨Below.refl _ _, rfl⟩
    refine kSt rfl (fun φ hφ => gStep_run rfl ?_) ?_
    · intro ρ W hC hc hf hL
      have e15 : ρ (.tmp 15) = .pointer (some ⟨w.heap.size, 1, none⟩) := hL 15 (by decide +kernel)
      have la1 := hC.1.a1
      simp [go_sem, hc, hf, e15, la1]
      exact ⟨Below.refl _ _, rfl⟩
    refine kSt rfl (fun φ hφ => gStep_run rfl ?_) ?_
    · intro ρ W hC hc hf hL
      have hφ0 : φ 8 = false := hφ 8 (by simp) (by kernel_rfl)
      have b14 : (bif φ 8 then SlotIs.any  else SlotIs.bigF (x + y) (max K L + 1) (w.heap.size)).R (ρ (.tmp 14)) W := hL 14 (by decide +kernel)
      rw [hφ0] at b14
      have e16 : ρ (.tmp 16) = .bool true := hL 16 (by decide +kernel)
      obtain ⟨ou, lu, cu, eu⟩ := bgs_slice b14.1
      simp [go_sem, hc, hf, e16, eu]
      refine ⟨Below.refl _ _, ?_⟩
      show (bif φ 8 then SlotIs.any else SlotIs.sg (x + y) (max K L + 1) true (w.heap.size)).R _ _
      rw [hφ0]
      exact ⟨_, rfl, by rw [← eu]; exact b14.1, by rw [← eu]; exact b14.2⟩
    refine kStS rfl ⟨rfl, rfl, ?_⟩ ?_
    · intro φ ρ W hφ hC hc hL
      have e4 : ρ (.tmp 4) = .pointer (some ⟨w.heap.size + 2, 0, none⟩) := hL 4 (by decide +kernel)
      have b17 := hL 17 (by decide +kernel)
      have bs : (bif φ 8 then SlotIs.any else SlotIs.sg (x + y) (max K L + 1) true (w.heap.size)).R (ρ (.tmp 17)) W := hL 17 (by decide +kernel)
      rw [hφ] at bs
      obtain ⟨u, eu, hu, hfu⟩ := bs
      obtain ⟨ou, lu, cu, rfl⟩ := bgs_slice hu
      have g := hC.1
      obtain ⟨a0, a1, a2, r0⟩ := g.r0
      obtain ⟨bb, r1⟩ := g.r1
      have rl := g.lt
      have rf := g.fr
      refine gUpon_of ((W.setCell ⟨w.heap.size + 2, 0, none⟩ (.slice ou lu cu)).setCell ⟨w.heap.size + 2, 1, none⟩ (.bool true)) ?_ (fun _ => ?_)
      · simp [go_sem, hc, e4, eu, r0, r1, rl, rf, gUpon]
      refine ⟨⟨g.set ou lu cu true, fun hc => ⟨ou, lu, cu, by simp [go_sem, r0, rl], by simp [go_sem, r1, rl], BigV.set2 hu g.r0 g.r1 g.n2 _ _, hfu⟩⟩, fun t => ?_⟩
      refine (tbl_imp rfl (fun _ => val_imp) (tbl_imp rfl (fun _ => val_imp) (tbl_imp rfl (fun _ => val_imp) (tbl_imp rfl (fun _ => val_imp) (tbl_imp rfl (fun _ _ => ?_) (tbl_imp rfl (fun _ => val_imp) (tbl_imp rfl (fun _ => val_imp) (tbl_imp rfl (fun _ _ => ?_) tbl_nil_imp))))))))
      · show (bif (φ 8 || true) then SlotIs.any else SlotIs.bigF (x + y) (max K L + 1) (w.heap.size)).R _ _
        rw [Bool.or_true]
        trivial
      · show (bif (φ 8 || true) then SlotIs.any else SlotIs.sg (x + y) (max K L + 1) true (w.heap.size)).R _ _
        rw [Bool.or_true]
        trivial
    exact kSt0
  · intro W hC
    refine gFi 10 rfl ?_
    rintro _ rfl
    refine gFi 11 rfl ?_
    rintro _ rfl
    refine gFi 12 rfl ?_
    rintro _ rfl
    refine gFi 13 rfl ?_
    rintro _ rfl
    refine gFi 14 rfl ?_
    rintro u14 b14
    refine gFi 15 rfl ?_
    rintro _ rfl
    refine gFi 16 rfl ?_
    rintro _ rfl
    refine gFi 17 rfl ?_
    rintro u17 b17
    refine gFiN rfl ?_
    refine gFi0 ?_
    simp only [List.drop_succ_cons, List.drop_zero, Act.put, List.setIfInBounds_toArray, List.set_cons_succ, List.set_cons_zero]
    obtain ⟨ao, l, ca, r0, r1, hbv, hfv⟩ := hC.2 rfl
    have HFV := hide hfv
    have HV := hide hbv
    have HBE := hide hC.1.bel
    clear hC hbv hfv HS b14 b17
    go_wp2
    exact bodyPost_ret (v := .agg #[.slice ao l ca, .bool true]) (by simp [results, Try.results36, go_sem, r0, r1]) rfl ⟨_, rfl, HV.out, HFV.out, HBE.out⟩
    

set_option maxHeartbeats 4000000 in
theorem sub15_UF (o1 o2 : Option Addr) (l1 c1 l2 c2 : Nat) (x y K L : Nat)  (w : World) (hx : BigV w (.slice o1 l1 c1) x K) (hy : BigV w (.slice o2 l2 c2) y L) (hK : K ≤ 10000) (hL : L ≤ 10000) :
    Calls Try.prog 36 #[.agg #[.slice o1 l1 c1, .bool false], .agg #[.slice o2 l2 c2, .bool true]] w fun e w' => ∃ v, e = .returned (.agg #[v, .bool false]) ∧ BigV w' v (x + y) (max K L + 1) ∧ Fresh w.heap.size v ∧ Below w.heap.size w w' := by
  have HS := hide (sb15_start o1 o2 l1 c1 l2 c2 false true x y K L w hx hy 65 65 65)
  clear hx hy
  go_enter Try.func36, Try.ntmps36
  have ha0 := HS.out.a0
  have ha1 := HS.out.a1
  have hb0 := HS.out.b0
  have hb1 := HS.out.b1
  go_upto_region 2 with fail
  clear ha0 ha1 hb0 hb1
  refine wp_gen (fun W => Sb15 (.slice o1 l1 c1) (.slice o2 l2 c2) false true x y K L w W) HS.out ?_
  clear HS
  rintro W2 h2
  have HS := hide h2
  clear h2
  refine wp_region_storeK 9 [8] [10, 11, 12, 13, 14, 15, 16, 17] (fun bs => [(10, .val (.pointer (some ⟨w.heap.size, 0, none⟩))), (11, .val (.slice o1 l1 c1)), (12, .val (.pointer (some ⟨w.heap.size + 1, 0, none⟩))), (13, .val (.slice o2 l2 c2)), (14, bif bs.headD false then SlotIs.any  else SlotIs.bigF (x + y) (max K L + 1) (w.heap.size)), (15, .val (.pointer (some ⟨w.heap.size, 1, none⟩))), (16, .val (.bool false)), (17, bif bs.headD false then SlotIs.any  else SlotIs.sg (x + y) (max K L + 1) false (w.heap.size))])
    (fun bs W => Sb15 (.slice o1 l1 c1) (.slice o2 l2 c2) false true x y K L w W ∧ (bs.headD false = true → ∃ ao l ca, W.cell? ⟨w.heap.size + 2, 0, none⟩ = some (.slice ao l ca) ∧ W.cell? ⟨w.heap.size + 2, 1, none⟩ = some (.bool false) ∧ BigV W (.slice ao l ca) (x + y) (max K L + 1) ∧ Fresh w.heap.size (.slice ao l ca))) (fun bs => rfl) mixedOk (by kernel_rfl) (by kernel_rfl) (by kernel_rfl) (⟨HS.out.below (Below.refl _ _).drew, fun h => by cases h⟩) (fun bs W W' h hb => ⟨h.1.below hb, fun hq => by obtain ⟨ao, l, ca, e0, e1, e2, e3⟩ := h.2 hq; exact ⟨ao, l, ca, (hb.cell (p := ⟨w.heap.size + 2, 0, none⟩) h.1.lt).trans e0, (hb.cell (p := ⟨w.heap.size + 2, 1, none⟩) h.1.lt).trans e1, e2.below hb, e3⟩⟩) ?_ ?_
  · refine kSt rfl (fun φ hφ => gStep_run rfl ?_) ?_
    · intro ρ W hC hc hf hL
      have e2 : ρ (.tmp 2) = .pointer (some ⟨w.heap.size, 0, none⟩) := hL 2 (by decide +kernel)
      simp [go_sem, hc, hf, e2]
      exact ⟨Below.refl _ _, rfl⟩
    refine kSt rfl (fun φ hφ => gStep_run rfl ?_) ?_
    · intro ρ W hC hc hf hL
      have e10 : ρ (.tmp 10) = .pointer (some ⟨w.heap.size, 0, none⟩) := hL 10 (by decide +kernel)
      have la0 := hC.1.a0
      simp [go_sem, hc, hf, e10, la0]
      exact ⟨Below.refl _ _, rfl⟩
    refine kSt rfl (fun φ hφ => gStep_run rfl ?_) ?_
    · intro ρ W hC hc hf hL
      have e3 : ρ (.tmp 3) = .pointer (some ⟨w.heap.size + 1, 0, none⟩) := hL 3 (by decide +kernel)
      simp [go_sem, hc, hf, e3]
      exact ⟨Below.refl _ _, rfl⟩
    refine kSt rfl (fun φ hφ => gStep_run rfl ?_) ?_
    · intro ρ W hC hc hf hL
      have e12 : ρ (.tmp 12) = .pointer (some ⟨w.heap.size + 1, 0, none⟩) := hL 12 (by decide +kernel)
      have lb0 := hC.1.b0
      simp [go_sem, hc, hf, e12, lb0]
      exact ⟨Below.refl _ _, rfl⟩
    refine kSt rfl (fun φ hφ => gStep_run rfl ?_) ?_
    · intro ρ W hC hc hf hL
      have hφ0 : φ 8 = false := hφ 8 (by simp) (by kernel_rfl)
      have e11 : ρ (.tmp 11) = .slice o1 l1 c1 := hL 11 (by decide +kernel)
      have e13 : ρ (.tmp 13) = .slice o2 l2 c2 := hL 13 (by decide +kernel)
      simp [go_sem, hc, hf, e11, e13]
      refine (refAddF_any x y K L _ _ _ hC.1.gx hC.1.gy (by omega) (by omega)).mono ?_
      rintro e w' ⟨v, rfl, hv, hfv, hb⟩
      refine ⟨_, rfl, hb, ?_⟩
      show (bif φ 8 then SlotIs.any else SlotIs.bigF (x + y) (max K L + 1) (w.heap.size)).R _ _
      rw [hφ0]
      exact ⟨hv, hfv.mono hC.1.bel.size⟩
    refine kSt rfl (fun φ hφ => gStep_run rfl ?_) ?_
    · intro ρ W hC hc hf hL
      have e2 : ρ (.tmp 2) = .pointer (some ⟨w.heap.size, 0, none⟩) := hL 2 (by decide +kernel)
      simp [go_sem, hc, hf, e2]
      exact ⟨Below.refl _ _, rfl⟩
    refine kSt rfl (fun φ hφ => gStep_run rfl ?_) ?_
    · intro ρ W hC hc hf hL
      have e15 : ρ (.tmp 15) = .pointer (some ⟨w.heap.size, 1, none⟩) := hL 15 (by decide +kernel)
      have la1 := hC.1.a1
      simp [go_sem, hc, hf, e15, la1]
      exact ⟨Below.refl _ _, rfl⟩
    refine kSt rfl (fun φ hφ => gStep_run rfl ?_) ?_
    · intro ρ W hC hc hf hL
      have hφ0 : φ 8 = false := hφ 8 (by simp) (by kernel_rfl)
      have b14 : (bif φ 8 then SlotIs.any  else SlotIs.bigF (x + y) (max K L + 1) (w.heap.size)).R (ρ (.tmp 14)) W := hL 14 (by decide +kernel)
      rw [hφ0] at b14
      have e16 : ρ (.tmp 16) = .bool false := hL 16 (by decide +kernel)
      obtain ⟨ou, lu, cu, eu⟩ := bgs_slice b14.1
      simp [go_sem, hc, hf, e16, eu]
      refine ⟨Below.refl _ _, ?_⟩
      show (bif φ 8 then SlotIs.any else SlotIs.sg (x + y) (max K L + 1) false (w.heap.size)).R _ _
      rw [hφ0]
      exact ⟨_, rfl, by rw [← eu]; exact b14.1, by rw [← eu]; exact b14.2⟩
    refine kStS rfl ⟨rfl, rfl, ?_⟩ ?_
    · intro φ ρ W hφ hC hc hL
      have e4 : ρ (.tmp 4) = .pointer (some ⟨w.heap.size + 2, 0, none⟩) := hL 4 (by decide +kernel)
      have b17 := hL 17 (by decide +kernel)
      have bs : (bif φ 8 then SlotIs.any else SlotIs.sg (x + y) (max K L + 1) false (w.heap.size)).R (ρ (.tmp 17)) W := hL 17 (by decide +kernel)
      rw [hφ] at bs
      obtain ⟨u, eu, hu, hfu⟩ := bs
      obtain ⟨ou, lu, cu, rfl⟩ := bgs_slice hu
      have g := hC.1
      obtain ⟨a0, a1, a2, r0⟩ := g.r0
      obtain ⟨bb, r1⟩ := g.r1
      have rl := g.lt
      have rf := g.fr
      refine gUpon_of ((W.setCell ⟨w.heap.size + 2, 0, none⟩ (.slice ou lu cu)).setCell ⟨w.heap.size + 2, 1, none⟩ (.bool false)) ?_ (fun _ => ?_)
      · simp [go_sem, hc, e4, eu, r0, r1, rl, rf, gUpon]
      refine ⟨⟨g.set ou lu cu false, fun hc => ⟨ou, lu, cu, by simp [go_sem, r0, rl], by simp [go_sem, r1, rl], BigV.set2 hu g.r0 g.r1 g.n2 _ _, hfu⟩⟩, fun t => ?_⟩
      refine (tbl_imp rfl (fun _ => val_imp) (tbl_imp rfl (fun _ => val_imp) (tbl_imp rfl (fun _ => val_imp) (tbl_imp rfl (fun _ => val_imp) (tbl_imp rfl (fun _ _ => ?_) (tbl_imp rfl (fun _ => val_imp) (tbl_imp rfl (fun _ => val_imp) (tbl_imp rfl (fun _ _ => ?_) tbl_nil_imp))))))))
      · show (bif (φ 8 || true) then SlotIs.any else SlotIs.bigF (x + y) (max K L + 1) (w.heap.size)).R _ _
        rw [Bool.or_true]
        trivial
      · show (bif (φ 8 || true) then SlotIs.any else SlotIs.sg (x + y) (max K L + 1) false (w.heap.size)).R _ _
        rw [Bool.or_true]
        trivial
    exact kSt0
  · intro W hC
    refine gFi 10 rfl ?_
    rintro _ rfl
    refine gFi 11 rfl ?_
    rintro _ rfl
    refine gFi 12 rfl ?_
    rintro _ rfl
    refine gFi 13 rfl ?_
    rintro _ rfl
    refine gFi 14 rfl ?_
    rintro u14 b14
    refine gFi 15 rfl ?_
    rintro _ rfl
    refine gFi 16 rfl ?_
    rintro _ rfl
    refine gFi 17 rfl ?_
    rintro u17 b17
    refine gFiN rfl ?_
    refine gFi0 ?_
    simp only [List.drop_succ_cons, List.drop_zero, Act.put, List.setIfInBounds_toArray, List.set_cons_succ, List.set_cons_zero]
    obtain ⟨ao, l, ca, r0, r1, hbv, hfv⟩ := hC.2 rfl
    have HFV := hide hfv
    have HV := hide hbv
    have HBE := hide hC.1.bel
    clear hC hbv hfv HS b14 b17
    go_wp2
    exact bodyPost_ret (v := .agg #[.slice ao l ca, .bool false]) (by simp [results, Try.results36, go_sem, r0, r1]) rfl ⟨_, rfl, HV.out, HFV.out, HBE.out⟩
    

set_option maxHeartbeats 4000000 in
theorem sub15_GT (o1 o2 : Option Addr) (l1 c1 l2 c2 : Nat) (x y K L : Nat) (hlt : y < x) (w : World) (hx : BigV w (.slice o1 l1 c1) x K) (hy : BigV w (.slice o2 l2 c2) y L) (hK : K ≤ 10000) (hL : L ≤ 10000) :
    Calls Try.prog 36 #[.agg #[.slice o1 l1 c1, .bool true], .agg #[.slice o2 l2 c2, .bool true]] w fun e w' => ∃ v, e = .returned (.agg #[v, .bool true]) ∧ BigV w' v (x - y) (K) ∧ Fresh w.heap.size v ∧ Below w.heap.size w w' := by
  have HS := hide (sb15_start o1 o2 l1 c1 l2 c2 true true x y K L w hx hy 65 65 65)
  clear hx hy
  have HLT : Hid (cmpN x y = 1 ∧ y ≤ x) := ⟨by unfold cmpN; rw [if_neg (by omega), if_pos hlt], by omega⟩
  have HC1 : Hid (∀ W, BigV W (.slice o1 l1 c1) x K → BigV W (.slice o2 l2 c2) y L → Calls Try.prog 23 #[.slice o1 l1 c1, .slice o2 l2 c2] W fun e w' => e = .returned (.int .i64 1) ∧ w' = W) := fun W h1 h2 => by have h := cmp_any x y K L _ _ W h1 h2; rw [HLT.out.1] at h; exact h
  go_enter Try.func36, Try.ntmps36
  have ha0 := HS.out.a0
  have ha1 := HS.out.a1
  have hb0 := HS.out.b0
  have hb1 := HS.out.b1
  go_wp2_with fail
  refine (HC1.out _ HS.out.gx HS.out.gy).mono ?_
  rintro e w1 ⟨rfl, hw⟩
  subst w1
  go_upto_region 4 with fail
  clear ha0 ha1 hb0 hb1
  refine wp_gen (fun W => Sb15 (.slice o1 l1 c1) (.slice o2 l2 c2) true true x y K L w W) HS.out ?_
  clear HS
  rintro W2 h2
  have HS := hide h2
  clear h2
  refine wp_region_storeK 17 [16] [24, 25, 26, 27, 28, 29, 30, 31, 32, 33, 34, 35, 36, 37, 38, 39] (fun bs => [(24, .val (.pointer (some ⟨w.heap.size, 0, none⟩))), (25, .val (.slice o1 l1 c1)), (26, .val (.pointer (some ⟨w.heap.size + 1, 0, none⟩))), (27, .val (.slice o2 l2 c2)), (28, bif bs.headD false then SlotIs.any  else SlotIs.bigF (x - y) (K) (w.heap.size)), (29, .val (.pointer (some ⟨w.heap.size, 1, none⟩))), (30, .val (.bool true)), (31, .val (.bool true)), (32, .val (.pointer (some ⟨w.heap.size, 0, none⟩))), (33, .val (.slice o1 l1 c1)), (34, .val (.pointer (some ⟨w.heap.size + 1, 0, none⟩))), (35, .val (.slice o2 l2 c2)), (36, .val (.int .i64 1)), (37, .val (.bool true)), (38, .val (.bool true)), (39, bif bs.headD false then SlotIs.any  else SlotIs.sg (x - y) (K) true (w.heap.size))])
    (fun bs W => Sb15 (.slice o1 l1 c1) (.slice o2 l2 c2) true true x y K L w W ∧ (bs.headD false = true → ∃ ao l ca, W.cell? ⟨w.heap.size + 2, 0, none⟩ = some (.slice ao l ca) ∧ W.cell? ⟨w.heap.size + 2, 1, none⟩ = some (.bool true) ∧ BigV W (.slice ao l ca) (x - y) (K) ∧ Fresh w.heap.size (.slice ao l ca))) (fun bs => rfl) mixedOk (by kernel_rfl) (by kernel_rfl) (by kernel_rfl) (⟨HS.out.below (Below.refl _ _).drew, fun h => by cases h⟩) (fun bs W W' h hb => ⟨h.1.below hb, fun hq => by obtain ⟨ao, l, ca, e0, e1, e2, e3⟩ := h.2 hq; exact ⟨ao, l, ca, (hb.cell (p := ⟨w.heap.size + 2, 0, none⟩) h.1.lt).trans e0, (hb.cell (p := ⟨w.heap.size + 2, 1, none⟩) h.1.lt).trans e1, e2.below hb, e3⟩⟩) ?_ ?_
  · refine kSt rfl (fun φ hφ => gStep_run rfl ?_) ?_
    · intro ρ W hC hc hf hL
      have e2 : ρ (.tmp 2) = .pointer (some ⟨w.heap.size, 0, none⟩) := hL 2 (by decide +kernel)
      simp [go_sem, hc, hf, e2]
      exact ⟨Below.refl _ _, rfl⟩
    refine kSt rfl (fun φ hφ => gStep_run rfl ?_) ?_
    · intro ρ W hC hc hf hL
      have e24 : ρ (.tmp 24) = .pointer (some ⟨w.heap.size, 0, none⟩) := hL 24 (by decide +kernel)
      have la0 := hC.1.a0
      simp [go_sem, hc, hf, e24, la0]
      exact ⟨Below.refl _ _, rfl⟩
    refine kSt rfl (fun φ hφ => gStep_run rfl ?_) ?_
    · intro ρ W hC hc hf hL
      have e3 : ρ (.tmp 3) = .pointer (some ⟨w.heap.size + 1, 0, none⟩) := hL 3 (by decide +kernel)
      simp [go_sem, hc, hf, e3]
      exact ⟨Below.refl _ _, rfl⟩
    refine kSt rfl (fun φ hφ => gStep_run rfl ?_) ?_
    · intro ρ W hC hc hf hL
      have e26 : ρ (.tmp 26) = .pointer (some ⟨w.heap.size + 1, 0, none⟩) := hL 26 (by decide +kernel)
      have lb0 := hC.1.b0
      simp [go_sem, hc, hf, e26, lb0]
      exact ⟨Below.refl _ _, rfl⟩
    refine kSt rfl (fun φ hφ => gStep_run rfl ?_) ?_
    · intro ρ W hC hc hf hL
      have hφ0 : φ 16 = false := hφ 16 (by simp) (by kernel_rfl)
      have e25 : ρ (.tmp 25) = .slice o1 l1 c1 := hL 25 (by decide +kernel)
      have e27 : ρ (.tmp 27) = .slice o2 l2 c2 := hL 27 (by decide +kernel)
      simp [go_sem, hc, hf, e25, e27]
      refine (refSubF_any x y K L _ _ _ hC.1.gx hC.1.gy (by omega) HLT.out.2).mono ?_
      rintro e w' ⟨v, rfl, hv, hfv, hb⟩
      refine ⟨_, rfl, hb, ?_⟩
      show (bif φ 16 then SlotIs.any else SlotIs.bigF (x - y) (K) (w.heap.size)).R _ _
      rw [hφ0]
      exact ⟨hv, hfv.mono hC.1.bel.size⟩
    refine kSt rfl (fun φ hφ => gStep_run rfl ?_) ?_
    · intro ρ W hC hc hf hL
      have e2 : ρ (.tmp 2) = .pointer (some ⟨w.heap.size, 0, none⟩) := hL 2 (by decide +kernel)
      simp [go_sem, hc, hf, e2]
      exact ⟨Below.refl _ _, rfl⟩
    refine kSt rfl (fun φ hφ => gStep_run rfl ?_) ?_
    · intro ρ W hC hc hf hL
      have e29 : ρ (.tmp 29) = .pointer (some ⟨w.heap.size, 1, none⟩) := hL 29 (by decide +kernel)
      have la1 := hC.1.a1
      simp [go_sem, hc, hf, e29, la1]
      exact ⟨Below.refl _ _, rfl⟩
    refine kSt rfl (fun φ hφ => gStep_run rfl (gRun_move 30 31 (.inl rfl) rfl (by decide +kernel) (fun v w h => h))) ?_
    refine kSt rfl (fun φ hφ => gStep_on 7 31 true rfl rfl (by decide +kernel) (fun v w h => h) ?_) ?_
    · intro ρ W hC hc hf hL
      have e2 : ρ (.tmp 2) = .pointer (some ⟨w.heap.size, 0, none⟩) := hL 2 (by decide +kernel)
      simp [go_sem, hc, hf, e2]
      exact ⟨Below.refl _ _, rfl⟩
    refine kSt rfl (fun φ hφ => gStep_on 7 31 true rfl rfl (by decide +kernel) (fun v w h => h) ?_) ?_
    · intro ρ W hC hc hf hL
      have e32 : ρ (.tmp 32) = .pointer (some ⟨w.heap.size, 0, none⟩) := hL 32 (by decide +kernel)
      have la0 := hC.1.a0
      simp [go_sem, hc, hf, e32, la0]
      exact ⟨Below.refl _ _, rfl⟩
    refine kSt rfl (fun φ hφ => gStep_on 7 31 true rfl rfl (by decide +kernel) (fun v w h => h) ?_) ?_
    · intro ρ W hC hc hf hL
      have e3 : ρ (.tmp 3) = .pointer (some ⟨w.heap.size + 1, 0, none⟩) := hL 3 (by decide +kernel)
      simp [go_sem, hc, hf, e3]
      exact ⟨Below.refl _ _, rfl⟩
    refine kSt rfl (fun φ hφ => gStep_on 7 31 true rfl rfl (by decide +kernel) (fun v w h => h) ?_) ?_
    · intro ρ W hC hc hf hL
      have e34 : ρ (.tmp 34) = .pointer (some ⟨w.heap.size + 1, 0, none⟩) := hL 34 (by decide +kernel)
      have lb0 := hC.1.b0
      simp [go_sem, hc, hf, e34, lb0]
      exact ⟨Below.refl _ _, rfl⟩
    refine kSt rfl (fun φ hφ => gStep_on 7 31 true rfl rfl (by decide +kernel) (fun v w h => h) ?_) ?_
    · intro ρ W hC hc hf hL
      have e33 : ρ (.tmp 33) = .slice o1 l1 c1 := hL 33 (by decide +kernel)
      have e35 : ρ (.tmp 35) = .slice o2 l2 c2 := hL 35 (by decide +kernel)
      simp [go_sem, hc, hf, e33, e35]
      refine (HC1.out W hC.1.gx hC.1.gy).mono ?_
      rintro e w' ⟨rfl, hb⟩
      exact ⟨_, rfl, by first | exact hb | (subst hb; exact Below.refl _ _), rfl⟩
    refine kSt rfl (fun φ hφ => gStep_on 7 31 true rfl rfl (by decide +kernel) (fun v w h => h) ?_) ?_
    · intro ρ W hC hc hf hL
      have e36 : ρ (.tmp 36) = .int .i64 1 := hL 36 (by decide +kernel)
      simp [go_sem, hc, hf, e36]
      exact ⟨Below.refl _ _, rfl⟩
    refine kSt rfl (fun φ hφ => gStep_run rfl (gRun_pickT 31 37 38 _ rfl rfl (by decide +kernel) (by decide +kernel) (fun v w h => h) (fun v w h => h))) ?_
    refine kSt rfl (fun φ hφ => gStep_run rfl ?_) ?_
    · intro ρ W hC hc hf hL
      have hφ0 : φ 16 = false := hφ 16 (by simp) (by kernel_rfl)
      have b28 : (bif φ 16 then SlotIs.any  else SlotIs.bigF (x - y) (K) (w.heap.size)).R (ρ (.tmp 28)) W := hL 28 (by decide +kernel)
      rw [hφ0] at b28
      have e38 : ρ (.tmp 38) = .bool true := hL 38 (by decide +kernel)
      obtain ⟨ou, lu, cu, eu⟩ := bgs_slice b28.1
      simp [go_sem, hc, hf, e38, eu]
      refine ⟨Below.refl _ _, ?_⟩
      show (bif φ 16 then SlotIs.any else SlotIs.sg (x - y) (K) true (w.heap.size)).R _ _
      rw [hφ0]
      exact ⟨_, rfl, by rw [← eu]; exact b28.1, by rw [← eu]; exact b28.2⟩
    refine kStS rfl ⟨rfl, rfl, ?_⟩ ?_
    · intro φ ρ W hφ hC hc hL
      have e4 : ρ (.tmp 4) = .pointer (some ⟨w.heap.size + 2, 0, none⟩) := hL 4 (by decide +kernel)
      have b39 := hL 39 (by decide +kernel)
      have bs : (bif φ 16 then SlotIs.any else SlotIs.sg (x - y) (K) true (w.heap.size)).R (ρ (.tmp 39)) W := hL 39 (by decide +kernel)
      rw [hφ] at bs
      obtain ⟨u, eu, hu, hfu⟩ := bs
      obtain ⟨ou, lu, cu, rfl⟩ := bgs_slice hu
      have g := hC.1
      obtain ⟨a0, a1, a2, r0⟩ := g.r0
      obtain ⟨bb, r1⟩ := g.r1
      have rl := g.lt
      have rf := g.fr
      refine gUpon_of ((W.setCell ⟨w.heap.size + 2, 0, none⟩ (.slice ou lu cu)).setCell ⟨w.heap.size + 2, 1, none⟩ (.bool true)) ?_ (fun _ => ?_)
      · simp [go_sem, hc, e4, eu, r0, r1, rl, rf, gUpon]
      refine ⟨⟨g.set ou lu cu true, fun hc => ⟨ou, lu, cu, by simp [go_sem, r0, rl], by simp [go_sem, r1, rl], BigV.set2 hu g.r0 g.r1 g.n2 _ _, hfu⟩⟩, fun t => ?_⟩
      refine (tbl_imp rfl (fun _ => val_imp) (tbl_imp rfl (fun _ => val_imp) (tbl_imp rfl (fun _ => val_imp) (tbl_imp rfl (fun _ => val_imp) (tbl_imp rfl (fun _ _ => ?_) (tbl_imp rfl (fun _ => val_imp) (tbl_imp rfl (fun _ => val_imp) (tbl_imp rfl (fun _ => val_imp) (tbl_imp rfl (fun _ => val_imp) (tbl_imp rfl (fun _ => val_imp) (tbl_imp rfl (fun _ => val_imp) (tbl_imp rfl (fun _ => val_imp) (tbl_imp rfl (fun _ => val_imp) (tbl_imp rfl (fun _ => val_imp) (tbl_imp rfl (fun _ => val_imp) (tbl_imp rfl (fun _ _ => ?_) tbl_nil_imp))))))))))))))))
      · show (bif (φ 16 || true) then SlotIs.any else SlotIs.bigF (x - y) (K) (w.heap.size)).R _ _
        rw [Bool.or_true]
        trivial
      · show (bif (φ 16 || true) then SlotIs.any else SlotIs.sg (x - y) (K) true (w.heap.size)).R _ _
        rw [Bool.or_true]
        trivial
    exact kSt0
  · intro W hC
    refine gFi 24 rfl ?_
    rintro _ rfl
    refine gFi 25 rfl ?_
    rintro _ rfl
    refine gFi 26 rfl ?_
    rintro _ rfl
    refine gFi 27 rfl ?_
    rintro _ rfl
    refine gFi 28 rfl ?_
    rintro u28 b28
    refine gFi 29 rfl ?_
    rintro _ rfl
    refine gFi 30 rfl ?_
    rintro _ rfl
    refine gFi 31 rfl ?_
    rintro _ rfl
    refine gFi 32 rfl ?_
    rintro _ rfl
    refine gFi 33 rfl ?_
    rintro _ rfl
    refine gFi 34 rfl ?_
    rintro _ rfl
    refine gFi 35 rfl ?_
    rintro _ rfl
    refine gFi 36 rfl ?_
    rintro _ rfl
    refine gFi 37 rfl ?_
    rintro _ rfl
    refine gFi 38 rfl ?_
    rintro _ rfl
    refine gFi 39 rfl ?_
    rintro u39 b39
    refine gFiN rfl ?_
    refine gFi0 ?_
    simp only [List.drop_succ_cons, List.drop_zero, Act.put, List.setIfInBounds_toArray, List.set_cons_succ, List.set_cons_zero]
    obtain ⟨ao, l, ca, r0, r1, hbv, hfv⟩ := hC.2 rfl
    have HFV := hide hfv
    have HV := hide hbv
    have HBE := hide hC.1.bel
    clear hC hbv hfv HS b28 b39
    go_wp2
    exact bodyPost_ret (v := .agg #[.slice ao l ca, .bool true]) (by simp [results, Try.results36, go_sem, r0, r1]) rfl ⟨_, rfl, HV.out, HFV.out, HBE.out⟩
    

set_option maxHeartbeats 4000000 in
theorem sub15_GF (o1 o2 : Option Addr) (l1 c1 l2 c2 : Nat) (x y K L : Nat) (hlt : y < x) (w : World) (hx : BigV w (.slice o1 l1 c1) x K) (hy : BigV w (.slice o2 l2 c2) y L) (hK : K ≤ 10000) (hL : L ≤ 10000) :
    Calls Try.prog 36 #[.agg #[.slice o1 l1 c1, .bool false], .agg #[.slice o2 l2 c2, .bool false]] w fun e w' => ∃ v, e = .returned (.agg #[v, .bool false]) ∧ BigV w' v (x - y) (K) ∧ Fresh w.heap.size v ∧ Below w.heap.size w w' := by
  have HS := hide (sb15_start o1 o2 l1 c1 l2 c2 false false x y K L w hx hy 65 65 65)
  clear hx hy
  have HLT : Hid (cmpN x y = 1 ∧ y ≤ x) := ⟨by unfold cmpN; rw [if_neg (by omega), if_pos hlt], by omega⟩
  have HC1 : Hid (∀ W, BigV W (.slice o1 l1 c1) x K → BigV W (.slice o2 l2 c2) y L → Calls Try.prog 23 #[.slice o1 l1 c1, .slice o2 l2 c2] W fun e w' => e = .returned (.int .i64 1) ∧ w' = W) := fun W h1 h2 => by have h := cmp_any x y K L _ _ W h1 h2; rw [HLT.out.1] at h; exact h
  go_enter Try.func36, Try.ntmps36
  have ha0 := HS.out.a0
  have ha1 := HS.out.a1
  have hb0 := HS.out.b0
  have hb1 := HS.out.b1
  go_wp2_with fail
  refine (HC1.out _ HS.out.gx HS.out.gy).mono ?_
  rintro e w1 ⟨rfl, hw⟩
  subst w1
  go_upto_region 4 with fail
  clear ha0 ha1 hb0 hb1
  refine wp_gen (fun W => Sb15 (.slice o1 l1 c1) (.slice o2 l2 c2) false false x y K L w W) HS.out ?_
  clear HS
  rintro W2 h2
  have HS := hide h2
  clear h2
  refine wp_region_storeK 17 [16] [24, 25, 26, 27, 28, 29, 30, 31, 32, 33, 34, 35, 36, 37, 38, 39] (fun bs => [(24, .val (.pointer (some ⟨w.heap.size, 0, none⟩))), (25, .val (.slice o1 l1 c1)), (26, .val (.pointer (some ⟨w.heap.size + 1, 0, none⟩))), (27, .val (.slice o2 l2 c2)), (28, bif bs.headD false then SlotIs.any  else SlotIs.bigF (x - y) (K) (w.heap.size)), (29, .val (.pointer (some ⟨w.heap.size, 1, none⟩))), (30, .val (.bool false)), (31, .val (.bool false)), (32, .val (undef)), (33, .val (undef)), (34, .val (undef)), (35, .val (undef)), (36, .val (undef)), (37, .val (undef)), (38, .val (.bool false)), (39, bif bs.headD false then SlotIs.any  else SlotIs.sg (x - y) (K) false (w.heap.size))])
    (fun bs W => Sb15 (.slice o1 l1 c1) (.slice o2 l2 c2) false false x y K L w W ∧ (bs.headD false = true → ∃ ao l ca, W.cell? ⟨w.heap.size + 2, 0, none⟩ = some (.slice ao l ca) ∧ W.cell? ⟨w.heap.size + 2, 1, none⟩ = some (.bool false) ∧ BigV W (.slice ao l ca) (x - y) (K) ∧ Fresh w.heap.size (.slice ao l ca))) (fun bs => rfl) mixedOk (by kernel_rfl) (by kernel_rfl) (by kernel_rfl) (⟨HS.out.below (Below.refl _ _).drew, fun h => by cases h⟩) (fun bs W W' h hb => ⟨h.1.below hb, fun hq => by obtain ⟨ao, l, ca, e0, e1, e2, e3⟩ := h.2 hq; exact ⟨ao, l, ca, (hb.cell (p := ⟨w.heap.size + 2, 0, none⟩) h.1.lt).trans e0, (hb.cell (p := ⟨w.heap.size + 2, 1, none⟩) h.1.lt).trans e1, e2.below hb, e3⟩⟩) ?_ ?_
  · refine kSt rfl (fun φ hφ => gStep_run rfl ?_) ?_
    · intro ρ W hC hc hf hL
      have e2 : ρ (.tmp 2) = .pointer (some ⟨w.heap.size, 0, none⟩) := hL 2 (by decide +kernel)
      simp [go_sem, hc, hf, e2]
      exact ⟨Below.refl _ _, rfl⟩
    refine kSt rfl (fun φ hφ => gStep_run rfl ?_) ?_
    · intro ρ W hC hc hf hL
      have e24 : ρ (.tmp 24) = .pointer (some ⟨w.heap.size, 0, none⟩) := hL 24 (by decide +kernel)
      have la0 := hC.1.a0
      simp [go_sem, hc, hf, e24, la0]
      exact ⟨Below.refl _ _, rfl⟩
    refine kSt rfl (fun φ hφ => gStep_run rfl ?_) ?_
    · intro ρ W hC hc hf hL
      have e3 : ρ (.tmp 3) = .pointer (some ⟨w.heap.size + 1, 0, none⟩) := hL 3 (by decide +kernel)
      simp [go_sem, hc, hf, e3]
      exact ⟨Below.refl _ _, rfl⟩
    refine kSt rfl (fun φ hφ => gStep_run rfl ?_) ?_
    · intro ρ W hC hc hf hL
      have e26 : ρ (.tmp 26) = .pointer (some ⟨w.heap.size + 1, 0, none⟩) := hL 26 (by decide +kernel)
      have lb0 := hC.1.b0
      simp [go_sem, hc, hf, e26, lb0]
      exact ⟨Below.refl _ _, rfl⟩
    refine kSt rfl (fun φ hφ => gStep_run rfl ?_) ?_
    · intro ρ W hC hc hf hL
      have hφ0 : φ 16 = false := hφ 16 (by simp) (by kernel_rfl)
      have e25 : ρ (.tmp 25) = .slice o1 l1 c1 := hL 25 (by decide +kernel)
      have e27 : ρ (.tmp 27) = .slice o2 l2 c2 := hL 27 (by decide +kernel)
      simp [go_sem, hc, hf, e25, e27]
      refine (refSubF_any x y K L _ _ _ hC.1.gx hC.1.gy (by omega) HLT.out.2).mono ?_
      rintro e w' ⟨v, rfl, hv, hfv, hb⟩
      refine ⟨_, rfl, hb, ?_⟩
      show (bif φ 16 then SlotIs.any else SlotIs.bigF (x - y) (K) (w.heap.size)).R _ _
      rw [hφ0]
      exact ⟨hv, hfv.mono hC.1.bel.size⟩
    refine kSt rfl (fun φ hφ => gStep_run rfl ?_) ?_
    · intro ρ W hC hc hf hL
      have e2 : ρ (.tmp 2) = .pointer (some ⟨w.heap.size, 0, none⟩) := hL 2 (by decide +kernel)
      simp [go_sem, hc, hf, e2]
      exact ⟨Below.refl _ _, rfl⟩
    refine kSt rfl (fun φ hφ => gStep_run rfl ?_) ?_
    · intro ρ W hC hc hf hL
      have e29 : ρ (.tmp 29) = .pointer (some ⟨w.heap.size, 1, none⟩) := hL 29 (by decide +kernel)
      have la1 := hC.1.a1
      simp [go_sem, hc, hf, e29, la1]
      exact ⟨Below.refl _ _, rfl⟩
    refine kSt rfl (fun φ hφ => gStep_run rfl (gRun_move 30 31 (.inl rfl) rfl (by decide +kernel) (fun v w h => h))) ?_
    refine kSt rfl (fun φ hφ => gStep_off 7 31 true rfl rfl (by decide +kernel) (fun v w h => h) (fun w => rfl)) ?_
    refine kSt rfl (fun φ hφ => gStep_off 7 31 true rfl rfl (by decide +kernel) (fun v w h => h) (fun w => rfl)) ?_
    refine kSt rfl (fun φ hφ => gStep_off 7 31 true rfl rfl (by decide +kernel) (fun v w h => h) (fun w => rfl)) ?_
    refine kSt rfl (fun φ hφ => gStep_off 7 31 true rfl rfl (by decide +kernel) (fun v w h => h) (fun w => rfl)) ?_
    refine kSt rfl (fun φ hφ => gStep_off 7 31 true rfl rfl (by decide +kernel) (fun v w h => h) (fun w => rfl)) ?_
    refine kSt rfl (fun φ hφ => gStep_off 7 31 true rfl rfl (by decide +kernel) (fun v w h => h) (fun w => rfl)) ?_
    refine kSt rfl (fun φ hφ => gStep_run rfl (gRun_pickF 31 38 _ _ rfl rfl (by decide +kernel) (fun v w h => h) (fun w => rfl))) ?_
    refine kSt rfl (fun φ hφ => gStep_run rfl ?_) ?_
    · intro ρ W hC hc hf hL
      have hφ0 : φ 16 = false := hφ 16 (by simp) (by kernel_rfl)
      have b28 : (bif φ 16 then SlotIs.any  else SlotIs.bigF (x - y) (K) (w.heap.size)).R (ρ (.tmp 28)) W := hL 28 (by decide +kernel)
      rw [hφ0] at b28
      have e38 : ρ (.tmp 38) = .bool false := hL 38 (by decide +kernel)
      obtain ⟨ou, lu, cu, eu⟩ := bgs_slice b28.1
      simp [go_sem, hc, hf, e38, eu]
      refine ⟨Below.refl _ _, ?_⟩
      show (bif φ 16 then SlotIs.any else SlotIs.sg (x - y) (K) false (w.heap.size)).R _ _
      rw [hφ0]
      exact ⟨_, rfl, by rw [← eu]; exact b28.1, by rw [← eu]; exact b28.2⟩
    refine kStS rfl ⟨rfl, rfl, ?_⟩ ?_
    · intro φ ρ W hφ hC hc hL
      have e4 : ρ (.tmp 4) = .pointer (some ⟨w.heap.size + 2, 0, none⟩) := hL 4 (by decide +kernel)
      have b39 := hL 39 (by decide +kernel)
      have bs : (bif φ 16 then SlotIs.any else SlotIs.sg (x - y) (K) false (w.heap.size)).R (ρ (.tmp 39)) W := hL 39 (by decide +kernel)
      rw [hφ] at bs
      obtain ⟨u, eu, hu, hfu⟩ := bs
      obtain ⟨ou, lu, cu, rfl⟩ := bgs_slice hu
      have g := hC.1
      obtain ⟨a0, a1, a2, r0⟩ := g.r0
      obtain ⟨bb, r1⟩ := g.r1
      have rl := g.lt
      have rf := g.fr
      refine gUpon_of ((W.setCell ⟨w.heap.size + 2, 0, none⟩ (.slice ou lu cu)).setCell ⟨w.heap.size + 2, 1, none⟩ (.bool false)) ?_ (fun _ => ?_)
      · simp [go_sem, hc, e4, eu, r0, r1, rl, rf, gUpon]
      refine ⟨⟨g.set ou lu cu false, fun hc => ⟨ou, lu, cu, by simp [go_sem, r0, rl], by simp [go_sem, r1, rl], BigV.set2 hu g.r0 g.r1 g.n2 _ _, hfu⟩⟩, fun t => ?_⟩
      refine (tbl_imp rfl (fun _ => val_imp) (tbl_imp rfl (fun _ => val_imp) (tbl_imp rfl (fun _ => val_imp) (tbl_imp rfl (fun _ => val_imp) (tbl_imp rfl (fun _ _ => ?_) (tbl_imp rfl (fun _ => val_imp) (tbl_imp rfl (fun _ => val_imp) (tbl_imp rfl (fun _ => val_imp) (tbl_imp rfl (fun _ => val_imp) (tbl_imp rfl (fun _ => val_imp) (tbl_imp rfl (fun _ => val_imp) (tbl_imp rfl (fun _ => val_imp) (tbl_imp rfl (fun _ => val_imp) (tbl_imp rfl (fun _ => val_imp) (tbl_imp rfl (fun _ => val_imp) (tbl_imp rfl (fun _ _ => ?_) tbl_nil_imp))))))))))))))))
      · show (bif (φ 16 || true) then SlotIs.any else SlotIs.bigF (x - y) (K) (w.heap.size)).R _ _
        rw [Bool.or_true]
        trivial
      · show (bif (φ 16 || true) then SlotIs.any else SlotIs.sg (x - y) (K) false (w.heap.size)).R _ _
        rw [Bool.or_true]
        trivial
    exact kSt0
  · intro W hC
    refine gFi 24 rfl ?_
    rintro _ rfl
    refine gFi 25 rfl ?_
    rintro _ rfl
    refine gFi 26 rfl ?_
    rintro _ rfl
    refine gFi 27 rfl ?_
    rintro _ rfl
    refine gFi 28 rfl ?_
    rintro u28 b28
    refine gFi 29 rfl ?_
    rintro _ rfl
    refine gFi 30 rfl ?_
    rintro _ rfl
    refine gFi 31 rfl ?_
    rintro _ rfl
    refine gFi 32 rfl ?_
    rintro _ rfl
    refine gFi 33 rfl ?_
    rintro _ rfl
    refine gFi 34 rfl ?_
    rintro _ rfl
    refine gFi 35 rfl ?_
    rintro _ rfl
    refine gFi 36 rfl ?_
    rintro _ rfl
    refine gFi 37 rfl ?_
    rintro _ rfl
    refine gFi 38 rfl ?_
    rintro _ rfl
    refine gFi 39 rfl ?_
    rintro u39 b39
    refine gFiN rfl ?_
    refine gFi0 ?_
    simp only [List.drop_succ_cons, List.drop_zero, Act.put, List.setIfInBounds_toArray, List.set_cons_succ, List.set_cons_zero]
    obtain ⟨ao, l, ca, r0, r1, hbv, hfv⟩ := hC.2 rfl
    have HFV := hide hfv
    have HV := hide hbv
    have HBE := hide hC.1.bel
    clear hC hbv hfv HS b28 b39
    go_wp2
    exact bodyPost_ret (v := .agg #[.slice ao l ca, .bool false]) (by simp [results, Try.results36, go_sem, r0, r1]) rfl ⟨_, rfl, HV.out, HFV.out, HBE.out⟩
    

set_option maxHeartbeats 4000000 in
theorem sub15_ET (o1 o2 : Option Addr) (l1 c1 l2 c2 : Nat) (x y K L : Nat) (hlt : x = y) (w : World) (hx : BigV w (.slice o1 l1 c1) x K) (hy : BigV w (.slice o2 l2 c2) y L) (hK : K ≤ 10000) (hL : L ≤ 10000) :
    Calls Try.prog 36 #[.agg #[.slice o1 l1 c1, .bool true], .agg #[.slice o2 l2 c2, .bool true]] w fun e w' => ∃ v, e = .returned (.agg #[v, .bool false]) ∧ BigV w' v (x - y) (K) ∧ Fresh w.heap.size v ∧ Below w.heap.size w w' := by
  have HS := hide (sb15_start o1 o2 l1 c1 l2 c2 true true x y K L w hx hy 65 65 65)
  clear hx hy
  have HLT : Hid (cmpN x y = 0 ∧ y ≤ x) := ⟨by unfold cmpN; rw [if_neg (by omega), if_neg (by omega)], by omega⟩
  clear hlt
  have HC1 : Hid (∀ W, BigV W (.slice o1 l1 c1) x K → BigV W (.slice o2 l2 c2) y L → Calls Try.prog 23 #[.slice o1 l1 c1, .slice o2 l2 c2] W fun e w' => e = .returned (.int .i64 0) ∧ w' = W) := fun W h1 h2 => by have h := cmp_any x y K L _ _ W h1 h2; rw [HLT.out.1] at h; exact h
  go_enter Try.func36, Try.ntmps36
  have ha0 := HS.out.a0
  have ha1 := HS.out.a1
  have hb0 := HS.out.b0
  have hb1 := HS.out.b1
  go_wp2_with fail
  refine (HC1.out _ HS.out.gx HS.out.gy).mono ?_
  rintro e w1 ⟨rfl, hw⟩
  subst w1
  go_upto_region 4 with fail
  clear ha0 ha1 hb0 hb1
  refine wp_gen (fun W => Sb15 (.slice o1 l1 c1) (.slice o2 l2 c2) true true x y K L w W) HS.out ?_
  clear HS
  rintro W2 h2
  have HS := hide h2
  clear h2
  refine wp_region_storeK 17 [16] [24, 25, 26, 27, 28, 29, 30, 31, 32, 33, 34, 35, 36, 37, 38, 39] (fun bs => [(24, .val (.pointer (some ⟨w.heap.size, 0, none⟩))), (25, .val (.slice o1 l1 c1)), (26, .val (.pointer (some ⟨w.heap.size + 1, 0, none⟩))), (27, .val (.slice o2 l2 c2)), (28, bif bs.headD false then SlotIs.any  else SlotIs.bigF (x - y) (K) (w.heap.size)), (29, .val (.pointer (some ⟨w.heap.size, 1, none⟩))), (30, .val (.bool true)), (31, .val (.bool true)), (32, .val (.pointer (some ⟨w.heap.size, 0, none⟩))), (33, .val (.slice o1 l1 c1)), (34, .val (.pointer (some ⟨w.heap.size + 1, 0, none⟩))), (35, .val (.slice o2 l2 c2)), (36, .val (.int .i64 0)), (37, .val (.bool false)), (38, .val (.bool false)), (39, bif bs.headD false then SlotIs.any  else SlotIs.sg (x - y) (K) false (w.heap.size))])
    (fun bs W => Sb15 (.slice o1 l1 c1) (.slice o2 l2 c2) true true x y K L w W ∧ (bs.headD false = true → ∃ ao l ca, W.cell? ⟨w.heap.size + 2, 0, none⟩ = some (.slice ao l ca) ∧ W.cell? ⟨w.heap.size + 2, 1, none⟩ = some (.bool false) ∧ BigV W (.slice ao l ca) (x - y) (K) ∧ Fresh w.heap.size (.slice ao l ca))) (fun bs => rfl) mixedOk (by kernel_rfl) (by kernel_rfl) (by kernel_rfl) (⟨HS.out.below (Below.refl _ _).drew, fun h => by cases h⟩) (fun bs W W' h hb => ⟨h.1.below hb, fun hq => by obtain ⟨ao, l, ca, e0, e1, e2, e3⟩ := h.2 hq; exact ⟨ao, l, ca, (hb.cell (p := ⟨w.heap.size + 2, 0, none⟩) h.1.lt).trans e0, (hb.cell (p := ⟨w.heap.size + 2, 1, none⟩) h.1.lt).trans e1, e2.below hb, e3⟩⟩) ?_ ?_
  · refine kSt rfl (fun φ hφ => gStep_run rfl ?_) ?_
    · intro ρ W hC hc hf hL
      have e2 : ρ (.tmp 2) = .pointer (some ⟨w.heap.size, 0, none⟩) := hL 2 (by decide +kernel)
      simp [go_sem, hc, hf, e2]
      exact ⟨Below.refl _ _, rfl⟩
    refine kSt rfl (fun φ hφ => gStep_run rfl ?_) ?_
    · intro ρ W hC hc hf hL
      have e24 : ρ (.tmp 24) = .pointer (some ⟨w.heap.size, 0, none⟩) := hL 24 (by decide +kernel)
      have la0 := hC.1.a0
      simp [go_sem, hc, hf, e24, la0]
      exact ⟨Below.refl _ _, rfl⟩
    refine kSt rfl (fun φ hφ => gStep_run rfl ?_) ?_
    · intro ρ W hC hc hf hL
      have e3 : ρ (.tmp 3) = .pointer (some ⟨w.heap.size + 1, 0, none⟩) := hL 3 (by decide +kernel)
      simp [go_sem, hc, hf, e3]
      exact ⟨Below.refl _ _, rfl⟩
    refine kSt rfl (fun φ hφ => gStep_run rfl ?_) ?_
    · intro ρ W hC hc hf hL
      have e26 : ρ (.tmp 26) = .pointer (some ⟨w.heap.size + 1, 0, none⟩) := hL 26 (by decide +kernel)
      have lb0 := hC.1.b0
      simp [go_sem, hc, hf, e26, lb0]
      exact ⟨Below.refl _ _, rfl⟩
    refine kSt rfl (fun φ hφ => gStep_run rfl ?_) ?_
    · intro ρ W hC hc hf hL
      have hφ0 : φ 16 = false := hφ 16 (by simp) (by kernel_rfl)
      have e25 : ρ (.tmp 25) = .slice o1 l1 c1 := hL 25 (by decide +kernel)
      have e27 : ρ (.tmp 27) = .slice o2 l2 c2 := hL 27 (by decide +kernel)
      simp [go_sem, hc, hf, e25, e27]
      refine (refSubF_any x y K L _ _ _ hC.1.gx hC.1.gy (by omega) HLT.out.2).mono ?_
      rintro e w' ⟨v, rfl, hv, hfv, hb⟩
      refine ⟨_, rfl, hb, ?_⟩
      show (bif φ 16 then SlotIs.any else SlotIs.bigF (x - y) (K) (w.heap.size)).R _ _
      rw [hφ0]
      exact ⟨hv, hfv.mono hC.1.bel.size⟩
    refine kSt rfl (fun φ hφ => gStep_run rfl ?_) ?_
    · intro ρ W hC hc hf hL
      have e2 : ρ (.tmp 2) = .pointer (some ⟨w.heap.size, 0, none⟩) := hL 2 (by decide +kernel)
      simp [go_sem, hc, hf, e2]
      exact ⟨Below.refl _ _, rfl⟩
    refine kSt rfl (fun φ hφ => gStep_run rfl ?_) ?_
    · intro ρ W hC hc hf hL
      have e29 : ρ (.tmp 29) = .pointer (some ⟨w.heap.size, 1, none⟩) := hL 29 (by decide +kernel)
      have la1 := hC.1.a1
      simp [go_sem, hc, hf, e29, la1]
      exact ⟨Below.refl _ _, rfl⟩
    refine kSt rfl (fun φ hφ => gStep_run rfl (gRun_move 30 31 (.inl rfl) rfl (by decide +kernel) (fun v w h => h))) ?_
    refine kSt rfl (fun φ hφ => gStep_on 7 31 true rfl rfl (by decide +kernel) (fun v w h => h) ?_) ?_
    · intro ρ W hC hc hf hL
      have e2 : ρ (.tmp 2) = .pointer (some ⟨w.heap.size, 0, none⟩) := hL 2 (by decide +kernel)
      simp [go_sem, hc, hf, e2]
      exact ⟨Below.refl _ _, rfl⟩
    refine kSt rfl (fun φ hφ => gStep_on 7 31 true rfl rfl (by decide +kernel) (fun v w h => h) ?_) ?_
    · intro ρ W hC hc hf hL
      have e32 : ρ (.tmp 32) = .pointer (some ⟨w.heap.size, 0, none⟩) := hL 32 (by decide +kernel)
      have la0 := hC.1.a0
      simp [go_sem, hc, hf, e32, la0]
      exact ⟨Below.refl _ _, rfl⟩
    refine kSt rfl (fun φ hφ => gStep_on 7 31 true rfl rfl (by decide +kernel) (fun v w h => h) ?_) ?_
    · intro ρ W hC hc hf hL
      have e3 : ρ (.tmp 3) = .pointer (some ⟨w.heap.size + 1, 0, none⟩) := hL 3 (by decide +kernel)
      simp [go_sem, hc, hf, e3]
      exact ⟨Below.refl _ _, rfl⟩
    refine kSt rfl (fun φ hφ => gStep_on 7 31 true rfl rfl (by decide +kernel) (fun v w h => h) ?_) ?_
    · intro ρ W hC hc hf hL
      have e34 : ρ (.tmp 34) = .pointer (some ⟨w.heap.size + 1, 0, none⟩) := hL 34 (by decide +kernel)
      have lb0 := hC.1.b0
      simp [go_sem, hc, hf, e34, lb0]
      exact ⟨Below.refl _ _, rfl⟩
    refine kSt rfl (fun φ hφ => gStep_on 7 31 true rfl rfl (by decide +kernel) (fun v w h => h) ?_) ?_
    · intro ρ W hC hc hf hL
      have e33 : ρ (.tmp 33) = .slice o1 l1 c1 := hL 33 (by decide +kernel)
      have e35 : ρ (.tmp 35) = .slice o2 l2 c2 := hL 35 (by decide +kernel)
      simp [go_sem, hc, hf, e33, e35]
      refine (HC1.out W hC.1.gx hC.1.gy).mono ?_
      rintro e w' ⟨rfl, hb⟩
      exact ⟨_, rfl, by first | exact hb | (subst hb; exact Below.refl _ _), rfl⟩
    refine kSt rfl (fun φ hφ => gStep_on 7 31 true rfl rfl (by decide +kernel) (fun v w h => h) ?_) ?_
    · intro ρ W hC hc hf hL
      have e36 : ρ (.tmp 36) = .int .i64 0 := hL 36 (by decide +kernel)
      simp [go_sem, hc, hf, e36]
      exact ⟨Below.refl _ _, rfl⟩
    refine kSt rfl (fun φ hφ => gStep_run rfl (gRun_pickT 31 37 38 _ rfl rfl (by decide +kernel) (by decide +kernel) (fun v w h => h) (fun v w h => h))) ?_
    refine kSt rfl (fun φ hφ => gStep_run rfl ?_) ?_
    · intro ρ W hC hc hf hL
      have hφ0 : φ 16 = false := hφ 16 (by simp) (by kernel_rfl)
      have b28 : (bif φ 16 then SlotIs.any  else SlotIs.bigF (x - y) (K) (w.heap.size)).R (ρ (.tmp 28)) W := hL 28 (by decide +kernel)
      rw [hφ0] at b28
      have e38 : ρ (.tmp 38) = .bool false := hL 38 (by decide +kernel)
      obtain ⟨ou, lu, cu, eu⟩ := bgs_slice b28.1
      simp [go_sem, hc, hf, e38, eu]
      refine ⟨Below.refl _ _, ?_⟩
      show (bif φ 16 then SlotIs.any else SlotIs.sg (x - y) (K) false (w.heap.size)).R _ _
      rw [hφ0]
      exact ⟨_, rfl, by rw [← eu]; exact b28.1, by rw [← eu]; exact b28.2⟩
    refine kStS rfl ⟨rfl, rfl, ?_⟩ ?_
    · intro φ ρ W hφ hC hc hL
      have e4 : ρ (.tmp 4) = .pointer (some ⟨w.heap.size + 2, 0, none⟩) := hL 4 (by decide +kernel)
      have b39 := hL 39 (by decide +kernel)
      have bs : (bif φ 16 then SlotIs.any else SlotIs.sg (x - y) (K) false (w.heap.size)).R (ρ (.tmp 39)) W := hL 39 (by decide +kernel)
      rw [hφ] at bs
      obtain ⟨u, eu, hu, hfu⟩ := bs
      obtain ⟨ou, lu, cu, rfl⟩ := bgs_slice hu
      have g := hC.1
      obtain ⟨a0, a1, a2, r0⟩ := g.r0
      obtain ⟨bb, r1⟩ := g.r1
      have rl := g.lt
      have rf := g.fr
      refine gUpon_of ((W.setCell ⟨w.heap.size + 2, 0, none⟩ (.slice ou lu cu)).setCell ⟨w.heap.size + 2, 1, none⟩ (.bool false)) ?_ (fun _ => ?_)
      · simp [go_sem, hc, e4, eu, r0, r1, rl, rf, gUpon]
      refine ⟨⟨g.set ou lu cu false, fun hc => ⟨ou, lu, cu, by simp [go_sem, r0, rl], by simp [go_sem, r1, rl], BigV.set2 hu g.r0 g.r1 g.n2 _ _, hfu⟩⟩, fun t => ?_⟩
      refine (tbl_imp rfl (fun _ => val_imp) (tbl_imp rfl (fun _ => val_imp) (tbl_imp rfl (fun _ => val_imp) (tbl_imp rfl (fun _ => val_imp) (tbl_imp rfl (fun _ _ => ?_) (tbl_imp rfl (fun _ => val_imp) (tbl_imp rfl (fun _ => val_imp) (tbl_imp rfl (fun _ => val_imp) (tbl_imp rfl (fun _ => val_imp) (tbl_imp rfl (fun _ => val_imp) (tbl_imp rfl (fun _ => val_imp) (tbl_imp rfl (fun _ => val_imp) (tbl_imp rfl (fun _ => val_imp) (tbl_imp rfl (fun _ => val_imp) (tbl_imp rfl (fun _ => val_imp) (tbl_imp rfl (fun _ _ => ?_) tbl_nil_imp))))))))))))))))
      · show (bif (φ 16 || true) then SlotIs.any else SlotIs.bigF (x - y) (K) (w.heap.size)).R _ _
        rw [Bool.or_true]
        trivial
      · show (bif (φ 16 || true) then SlotIs.any else SlotIs.sg (x - y) (K) false (w.heap.size)).R _ _
        rw [Bool.or_true]
        trivial
    exact kSt0
  · intro W hC
    refine gFi 24 rfl ?_
    rintro _ rfl
    refine gFi 25 rfl ?_
    rintro _ rfl
    refine gFi 26 rfl ?_
    rintro _ rfl
    refine gFi 27 rfl ?_
    rintro _ rfl
    refine gFi 28 rfl ?_
    rintro u28 b28
    refine gFi 29 rfl ?_
    rintro _ rfl
    refine gFi 30 rfl ?_
    rintro _ rfl
    refine gFi 31 rfl ?_
    rintro _ rfl
    refine gFi 32 rfl ?_
    rintro _ rfl
    refine gFi 33 rfl ?_
    rintro _ rfl
    refine gFi 34 rfl ?_
    rintro _ rfl
    refine gFi 35 rfl ?_
    rintro _ rfl
    refine gFi 36 rfl ?_
    rintro _ rfl
    refine gFi 37 rfl ?_
    rintro _ rfl
    refine gFi 38 rfl ?_
    rintro _ rfl
    refine gFi 39 rfl ?_
    rintro u39 b39
    refine gFiN rfl ?_
    refine gFi0 ?_
    simp only [List.drop_succ_cons, List.drop_zero, Act.put, List.setIfInBounds_toArray, List.set_cons_succ, List.set_cons_zero]
    obtain ⟨ao, l, ca, r0, r1, hbv, hfv⟩ := hC.2 rfl
    have HFV := hide hfv
    have HV := hide hbv
    have HBE := hide hC.1.bel
    clear hC hbv hfv HS b28 b39
    go_wp2
    exact bodyPost_ret (v := .agg #[.slice ao l ca, .bool false]) (by simp [results, Try.results36, go_sem, r0, r1]) rfl ⟨_, rfl, HV.out, HFV.out, HBE.out⟩
    

set_option maxHeartbeats 4000000 in
theorem sub15_EF (o1 o2 : Option Addr) (l1 c1 l2 c2 : Nat) (x y K L : Nat) (hlt : x = y) (w : World) (hx : BigV w (.slice o1 l1 c1) x K) (hy : BigV w (.slice o2 l2 c2) y L) (hK : K ≤ 10000) (hL : L ≤ 10000) :
    Calls Try.prog 36 #[.agg #[.slice o1 l1 c1, .bool false], .agg #[.slice o2 l2 c2, .bool false]] w fun e w' => ∃ v, e = .returned (.agg #[v, .bool false]) ∧ BigV w' v (x - y) (K) ∧ Fresh w.heap.size v ∧ Below w.heap.size w w' := by
  have HS := hide (sb15_start o1 o2 l1 c1 l2 c2 false false x y K L w hx hy 65 65 65)
  clear hx hy
  have HLT : Hid (cmpN x y = 0 ∧ y ≤ x) := ⟨by unfold cmpN; rw [if_neg (by omega), if_neg (by omega)], by omega⟩
  clear hlt
  have HC1 : Hid (∀ W, BigV W (.slice o1 l1 c1) x K → BigV W (.slice o2 l2 c2) y L → Calls Try.prog 23 #[.slice o1 l1 c1, .slice o2 l2 c2] W fun e w' => e = .returned (.int .i64 0) ∧ w' = W) := fun W h1 h2 => by have h := cmp_any x y K L _ _ W h1 h2; rw [HLT.out.1] at h; exact h
  go_enter Try.func36, Try.ntmps36
  have ha0 := HS.out.a0
  have ha1 := HS.out.a1
  have hb0 := HS.out.b0
  have hb1 := HS.out.b1
  go_wp2_with fail
  refine (HC1.out _ HS.out.gx HS.out.gy).mono ?_
  rintro e w1 ⟨rfl, hw⟩
  subst w1
  go_upto_region 4 with fail
  clear ha0 ha1 hb0 hb1
  refine wp_gen (fun W => Sb15 (.slice o1 l1 c1) (.slice o2 l2 c2) false false x y K L w W) HS.out ?_
  clear HS
  rintro W2 h2
  have HS := hide h2
  clear h2
  refine wp_region_storeK 17 [16] [24, 25, 26, 27, 28, 29, 30, 31, 32, 33, 34, 35, 36, 37, 38, 39] (fun bs => [(24, .val (.pointer (some ⟨w.heap.size, 0, none⟩))), (25, .val (.slice o1 l1 c1)), (26, .val (.pointer (some ⟨w.heap.size + 1, 0, none⟩))), (27, .val (.slice o2 l2 c2)), (28, bif bs.headD false then SlotIs.any  else SlotIs.bigF (x - y) (K) (w.heap.size)), (29, .val (.pointer (some ⟨w.heap.size, 1, none⟩))), (30, .val (.bool false)), (31, .val (.bool false)), (32, .val (undef)), (33, .val (undef)), (34, .val (undef)), (35, .val (undef)), (36, .val (undef)), (37, .val (undef)), (38, .val (.bool false)), (39, bif bs.headD false then SlotIs.any  else SlotIs.sg (x - y) (K) false (w.heap.size))])
    (fun bs W => Sb15 (.slice o1 l1 c1) (.slice o2 l2 c2) false false x y K L w W ∧ (bs.headD false = true → ∃ ao l ca, W.cell? ⟨w.heap.size + 2, 0, none⟩ = some (.slice ao l ca) ∧ W.cell? ⟨w.heap.size + 2, 1, none⟩ = some (.bool false) ∧ BigV W (.slice ao l ca) (x - y) (K) ∧ Fresh w.heap.size (.slice ao l ca))) (fun bs => rfl) mixedOk (by kernel_rfl) (by kernel_rfl) (by kernel_rfl) (⟨HS.out.below (Below.refl _ _).drew, fun h => by cases h⟩) (fun bs W W' h hb => ⟨h.1.below hb, fun hq => by obtain ⟨ao, l, ca, e0, e1, e2, e3⟩ := h.2 hq; exact ⟨ao, l, ca, (hb.cell (p := ⟨w.heap.size + 2, 0, none⟩) h.1.lt).trans e0, (hb.cell (p := ⟨w.heap.size + 2, 1, none⟩) h.1.lt).trans e1, e2.below hb, e3⟩⟩) ?_ ?_
  · refine kSt rfl (fun φ hφ => gStep_run rfl ?_) ?_
    · intro ρ W hC hc hf hL
      have e2 : ρ (.tmp 2) = .pointer (some ⟨w.heap.size, 0, none⟩) := hL 2 (by decide +kernel)
      simp [go_sem, hc, hf, e2]
      exact ⟨Below.refl _ _, rfl⟩
    refine kSt rfl (fun φ hφ => gStep_run rfl ?_) ?_
    · intro ρ W hC hc hf hL
      have e24 : ρ (.tmp 24) = .pointer (some ⟨w.heap.size, 0, none⟩) := hL 24 (by decide +kernel)
      have la0 := hC.1.a0
      simp [go_sem, hc, hf, e24, la0]
      exact ⟨Below.refl _ _, rfl⟩
    refine kSt rfl (fun φ hφ => gStep_run rfl ?_) ?_
    · intro ρ W hC hc hf hL
      have e3 : ρ (.tmp 3) = .pointer (some ⟨w.heap.size + 1, 0, none⟩) := hL 3 (by decide +kernel)
      simp [go_sem, hc, hf, e3]
      exact ⟨Below.refl _ _, rfl⟩
    refine kSt rfl (fun φ hφ => gStep_run rfl ?_) ?_
    · intro ρ W hC hc hf hL
      have e26 : ρ (.tmp 26) = .pointer (some ⟨w.heap.size + 1, 0, none⟩) := hL 26 (by decide +kernel)
      have lb0 := hC.1.b0
      simp [go_sem, hc, hf, e26, lb0]
      exact ⟨Below.refl _ _, rfl⟩
    refine kSt rfl (fun φ hφ => gStep_run rfl ?_) ?_
    · intro ρ W hC hc hf hL
      have hφ0 : φ 16 = false := hφ 16 (by simp) (by kernel_rfl)
      have e25 : ρ (.tmp 25) = .slice o1 l1 c1 := hL 25 (by decide +kernel)
      have e27 : ρ (.tmp 27) = .slice o2 l2 c2 := hL 27 (by decide +kernel)
      simp [go_sem, hc, hf, e25, e27]
      refine (refSubF_any x y K L _ _ _ hC.1.gx hC.1.gy (by omega) HLT.out.2).mono ?_
      rintro e w' ⟨v, rfl, hv, hfv, hb⟩
      refine ⟨_, rfl, hb, ?_⟩
      show (bif φ 16 then SlotIs.any else SlotIs.bigF (x - y) (K) (w.heap.size)).R _ _
      rw [hφ0]
      exact ⟨hv, hfv.mono hC.1.bel.size⟩
    refine kSt rfl (fun φ hφ => gStep_run rfl ?_) ?_
    · intro ρ W hC hc hf hL
      have e2 : ρ (.tmp 2) = .pointer (some ⟨w.heap.size, 0, none⟩) := hL 2 (by decide +kernel)
      simp [go_sem, hc, hf, e2]
      exact ⟨Below.refl _ _, rfl⟩
    refine kSt rfl (fun φ hφ => gStep_run rfl ?_) ?_
    · intro ρ W hC hc hf hL
      have e29 : ρ (.tmp 29) = .pointer (some ⟨w.heap.size, 1, none⟩) := hL 29 (by decide +kernel)
      have la1 := hC.1.a1
      simp [go_sem, hc, hf, e29, la1]
      exact ⟨Below.refl _ _, rfl⟩
    refine kSt rfl (fun φ hφ => gStep_run rfl (gRun_move 30 31 (.inl rfl) rfl (by decide +kernel) (fun v w h => h))) ?_
    refine kSt rfl (fun φ hφ => gStep_off 7 31 true rfl rfl (by decide +kernel) (fun v w h => h) (fun w => rfl)) ?_
    refine kSt rfl (fun φ hφ => gStep_off 7 31 true rfl rfl (by decide +kernel) (fun v w h => h) (fun w => rfl)) ?_
    refine kSt rfl (fun φ hφ => gStep_off 7 31 true rfl rfl (by decide +kernel) (fun v w h => h) (fun w => rfl)) ?_
    refine kSt rfl (fun φ hφ => gStep_off 7 31 true rfl rfl (by decide +kernel) (fun v w h => h) (fun w => rfl)) ?_
    refine kSt rfl (fun φ hφ => gStep_off 7 31 true rfl rfl (by decide +kernel) (fun v w h => h) (fun w => rfl)) ?_
    refine kSt rfl (fun φ hφ => gStep_off 7 31 true rfl rfl (by decide +kernel) (fun v w h => h) (fun w => rfl)) ?_
    refine kSt rfl (fun φ hφ => gStep_run rfl (gRun_pickF 31 38 _ _ rfl rfl (by decide +kernel) (fun v w h => h) (fun w => rfl))) ?_
    refine kSt rfl (fun φ hφ => gStep_run rfl ?_) ?_
    · intro ρ W hC hc hf hL
      have hφ0 : φ 16 = false := hφ 16 (by simp) (by kernel_rfl)
      have b28 : (bif φ 16 then SlotIs.any  else SlotIs.bigF (x - y) (K) (w.heap.size)).R (ρ (.tmp 28)) W := hL 28 (by decide +kernel)
      rw [hφ0] at b28
      have e38 : ρ (.tmp 38) = .bool false := hL 38 (by decide +kernel)
      obtain ⟨ou, lu, cu, eu⟩ := bgs_slice b28.1
      simp [go_sem, hc, hf, e38, eu]
      refine ⟨Below.refl _ _, ?_⟩
      show (bif φ 16 then SlotIs.any else SlotIs.sg (x - y) (K) false (w.heap.size)).R _ _
      rw [hφ0]
      exact ⟨_, rfl, by rw [← eu]; exact b28.1, by rw [← eu]; exact b28.2⟩
    refine kStS rfl ⟨rfl, rfl, ?_⟩ ?_
    · intro φ ρ W hφ hC hc hL
      have e4 : ρ (.tmp 4) = .pointer (some ⟨w.heap.size + 2, 0, none⟩) := hL 4 (by decide +kernel)
      have b39 := hL 39 (by decide +kernel)
      have bs : (bif φ 16 then SlotIs.any else SlotIs.sg (x - y) (K) false (w.heap.size)).R (ρ (.tmp 39)) W := hL 39 (by decide +kernel)
      rw [hφ] at bs
      obtain ⟨u, eu, hu, hfu⟩ := bs
      obtain ⟨ou, lu, cu, rfl⟩ := bgs_slice hu
      have g := hC.1
      obtain ⟨a0, a1, a2, r0⟩ := g.r0
      obtain ⟨bb, r1⟩ := g.r1
      have rl := g.lt
      have rf := g.fr
      refine gUpon_of ((W.setCell ⟨w.heap.size + 2, 0, none⟩ (.slice ou lu cu)).setCell ⟨w.heap.size + 2, 1, none⟩ (.bool false)) ?_ (fun _ => ?_)
      · simp [go_sem, hc, e4, eu, r0, r1, rl, rf, gUpon]
      refine ⟨⟨g.set ou lu cu false, fun hc => ⟨ou, lu, cu, by simp [go_sem, r0, rl], by simp [go_sem, r1, rl], BigV.set2 hu g.r0 g.r1 g.n2 _ _, hfu⟩⟩, fun t => ?_⟩
      refine (tbl_imp rfl (fun _ => val_imp) (tbl_imp rfl (fun _ => val_imp) (tbl_imp rfl (fun _ => val_imp) (tbl_imp rfl (fun _ => val_imp) (tbl_imp rfl (fun _ _ => ?_) (tbl_imp rfl (fun _ => val_imp) (tbl_imp rfl (fun _ => val_imp) (tbl_imp rfl (fun _ => val_imp) (tbl_imp rfl (fun _ => val_imp) (tbl_imp rfl (fun _ => val_imp) (tbl_imp rfl (fun _ => val_imp) (tbl_imp rfl (fun _ => val_imp) (tbl_imp rfl (fun _ => val_imp) (tbl_imp rfl (fun _ => val_imp) (tbl_imp rfl (fun _ => val_imp) (tbl_imp rfl (fun _ _ => ?_) tbl_nil_imp))))))))))))))))
      · show (bif (φ 16 || true) then SlotIs.any else SlotIs.bigF (x - y) (K) (w.heap.size)).R _ _
        rw [Bool.or_true]
        trivial
      · show (bif (φ 16 || true) then SlotIs.any else SlotIs.sg (x - y) (K) false (w.heap.size)).R _ _
        rw [Bool.or_true]
        trivial
    exact kSt0
  · intro W hC
    refine gFi 24 rfl ?_
    rintro _ rfl
    refine gFi 25 rfl ?_
    rintro _ rfl
    refine gFi 26 rfl ?_
    rintro _ rfl
    refine gFi 27 rfl ?_
    rintro _ rfl
    refine gFi 28 rfl ?_
    rintro u28 b28
    refine gFi 29 rfl ?_
    rintro _ rfl
    refine gFi 30 rfl ?_
    rintro _ rfl
    refine gFi 31 rfl ?_
    rintro _ rfl
    refine gFi 32 rfl ?_
    rintro _ rfl
    refine gFi 33 rfl ?_
    rintro _ rfl
    refine gFi 34 rfl ?_
    rintro _ rfl
    refine gFi 35 rfl ?_
    rintro _ rfl
    refine gFi 36 rfl ?_
    rintro _ rfl
    refine gFi 37 rfl ?_
    rintro _ rfl
    refine gFi 38 rfl ?_
    rintro _ rfl
    refine gFi 39 rfl ?_
    rintro u39 b39
    refine gFiN rfl ?_
    refine gFi0 ?_
    simp only [List.drop_succ_cons, List.drop_zero, Act.put, List.setIfInBounds_toArray, List.set_cons_succ, List.set_cons_zero]
    obtain ⟨ao, l, ca, r0, r1, hbv, hfv⟩ := hC.2 rfl
    have HFV := hide hfv
    have HV := hide hbv
    have HBE := hide hC.1.bel
    clear hC hbv hfv HS b28 b39
    go_wp2
    exact bodyPost_ret (v := .agg #[.slice ao l ca, .bool false]) (by simp [results, Try.results36, go_sem, r0, r1]) rfl ⟨_, rfl, HV.out, HFV.out, HBE.out⟩
    

set_option maxHeartbeats 4000000 in
theorem sub15_LT (o1 o2 : Option Addr) (l1 c1 l2 c2 : Nat) (x y K L : Nat) (hlt : x < y) (w : World) (hx : BigV w (.slice o1 l1 c1) x K) (hy : BigV w (.slice o2 l2 c2) y L) (hK : K ≤ 10000) (hL : L ≤ 10000) :
    Calls Try.prog 36 #[.agg #[.slice o1 l1 c1, .bool true], .agg #[.slice o2 l2 c2, .bool true]] w fun e w' => ∃ v, e = .returned (.agg #[v, .bool false]) ∧ BigV w' v (y - x) (L) ∧ Fresh w.heap.size v ∧ Below w.heap.size w w' := by
  have HS := hide (sb15_start o1 o2 l1 c1 l2 c2 true true x y K L w hx hy 65 65 65)
  clear hx hy
  have HLT : Hid (cmpN x y = -1 ∧ x ≤ y) := ⟨by unfold cmpN; rw [if_pos hlt], by omega⟩
  have HC1 : Hid (∀ W, BigV W (.slice o1 l1 c1) x K → BigV W (.slice o2 l2 c2) y L → Calls Try.prog 23 #[.slice o1 l1 c1, .slice o2 l2 c2] W fun e w' => e = .returned (.int .i64 (-1)) ∧ w' = W) := fun W h1 h2 => by have h := cmp_any x y K L _ _ W h1 h2; rw [HLT.out.1] at h; exact h
  go_enter Try.func36, Try.ntmps36
  have ha0 := HS.out.a0
  have ha1 := HS.out.a1
  have hb0 := HS.out.b0
  have hb1 := HS.out.b1
  go_wp2_with fail
  refine (HC1.out _ HS.out.gx HS.out.gy).mono ?_
  rintro e w1 ⟨rfl, hw⟩
  subst w1
  go_upto_region 5 with fail
  clear ha0 ha1 hb0 hb1
  refine wp_gen (fun W => Sb15 (.slice o1 l1 c1) (.slice o2 l2 c2) true true x y K L w W) HS.out ?_
  clear HS
  rintro W2 h2
  have HS := hide h2
  clear h2
  refine wp_region_storeK 10 [9] [40, 41, 42, 43, 44, 45, 46, 47, 48] (fun bs => [(40, .val (.pointer (some ⟨w.heap.size + 1, 0, none⟩))), (41, .val (.slice o2 l2 c2)), (42, .val (.pointer (some ⟨w.heap.size, 0, none⟩))), (43, .val (.slice o1 l1 c1)), (44, bif bs.headD false then SlotIs.any  else SlotIs.bigF (y - x) (L) (w.heap.size)), (45, .val (.pointer (some ⟨w.heap.size, 1, none⟩))), (46, .val (.bool true)), (47, .val (.bool false)), (48, bif bs.headD false then SlotIs.any  else SlotIs.sg (y - x) (L) false (w.heap.size))])
    (fun bs W => Sb15 (.slice o1 l1 c1) (.slice o2 l2 c2) true true x y K L w W ∧ (bs.headD false = true → ∃ ao l ca, W.cell? ⟨w.heap.size + 2, 0, none⟩ = some (.slice ao l ca) ∧ W.cell? ⟨w.heap.size + 2, 1, none⟩ = some (.bool false) ∧ BigV W (.slice ao l ca) (y - x) (L) ∧ Fresh w.heap.size (.slice ao l ca))) (fun bs => rfl) mixedOk (by kernel_rfl) (by kernel_rfl) (by kernel_rfl) (⟨HS.out.below (Below.refl _ _).drew, fun h => by cases h⟩) (fun bs W W' h hb => ⟨h.1.below hb, fun hq => by obtain ⟨ao, l, ca, e0, e1, e2, e3⟩ := h.2 hq; exact ⟨ao, l, ca, (hb.cell (p := ⟨w.heap.size + 2, 0, none⟩) h.1.lt).trans e0, (hb.cell (p := ⟨w.heap.size + 2, 1, none⟩) h.1.lt).trans e1, e2.below hb, e3⟩⟩) ?_ ?_
  · refine kSt rfl (fun φ hφ => gStep_run rfl ?_) ?_
    · intro ρ W hC hc hf hL
      have e3 : ρ (.tmp 3) = .pointer (some ⟨w.heap.size + 1, 0, none⟩) := hL 3 (by decide +kernel)
      simp [go_sem, hc, hf, e3]
      exact ⟨Below.refl _ _, rfl⟩
    refine kSt rfl (fun φ hφ => gStep_run rfl ?_) ?_
    · intro ρ W hC hc hf hL
      have e40 : ρ (.tmp 40) = .pointer (some ⟨w.heap.size + 1, 0, none⟩) := hL 40 (by decide +kernel)
      have lb0 := hC.1.b0
      simp [go_sem, hc, hf, e40, lb0]
      exact ⟨Below.refl _ _, rfl⟩
    refine kSt rfl (fun φ hφ => gStep_run rfl ?_) ?_
    · intro ρ W hC hc hf hL
      have e2 : ρ (.tmp 2) = .pointer (some ⟨w.heap.size, 0, none⟩) := hL 2 (by decide +kernel)
      simp [go_sem, hc, hf, e2]
      exact ⟨Below.refl _ _, rfl⟩
    refine kSt rfl (fun φ hφ => gStep_run rfl ?_) ?_
    · intro ρ W hC hc hf hL
      have e42 : ρ (.tmp 42) = .pointer (some ⟨w.heap.size, 0, none⟩) := hL 42 (by decide +kernel)
      have la0 := hC.1.a0
      simp [go_sem, hc, hf, e42, la0]
      exact ⟨Below.refl _ _, rfl⟩
    refine kSt rfl (fun φ hφ => gStep_run rfl ?_) ?_
    · intro ρ W hC hc hf hL
      have hφ0 : φ 9 = false := hφ 9 (by simp) (by kernel_rfl)
      have e41 : ρ (.tmp 41) = .slice o2 l2 c2 := hL 41 (by decide +kernel)
      have e43 : ρ (.tmp 43) = .slice o1 l1 c1 := hL 43 (by decide +kernel)
      simp [go_sem, hc, hf, e41, e43]
      refine (refSubF_any y x L K _ _ _ hC.1.gy hC.1.gx (by omega) HLT.out.2).mono ?_
      rintro e w' ⟨v, rfl, hv, hfv, hb⟩
      refine ⟨_, rfl, hb, ?_⟩
      show (bif φ 9 then SlotIs.any else SlotIs.bigF (y - x) (L) (w.heap.size)).R _ _
      rw [hφ0]
      exact ⟨hv, hfv.mono hC.1.bel.size⟩
    refine kSt rfl (fun φ hφ => gStep_run rfl ?_) ?_
    · intro ρ W hC hc hf hL
      have e2 : ρ (.tmp 2) = .pointer (some ⟨w.heap.size, 0, none⟩) := hL 2 (by decide +kernel)
      simp [go_sem, hc, hf, e2]
      exact ⟨Below.refl _ _, rfl⟩
    refine kSt rfl (fun φ hφ => gStep_run rfl ?_) ?_
    · intro ρ W hC hc hf hL
      have e45 : ρ (.tmp 45) = .pointer (some ⟨w.heap.size, 1, none⟩) := hL 45 (by decide +kernel)
      have la1 := hC.1.a1
      simp [go_sem, hc, hf, e45, la1]
      exact ⟨Below.refl _ _, rfl⟩
    refine kSt rfl (fun φ hφ => gStep_run rfl ?_) ?_
    · intro ρ W hC hc hf hL
      have e46 : ρ (.tmp 46) = .bool true := hL 46 (by decide +kernel)
      simp [go_sem, hc, hf, e46]
      exact ⟨Below.refl _ _, rfl⟩
    refine kSt rfl (fun φ hφ => gStep_run rfl ?_) ?_
    · intro ρ W hC hc hf hL
      have hφ0 : φ 9 = false := hφ 9 (by simp) (by kernel_rfl)
      have b44 : (bif φ 9 then SlotIs.any  else SlotIs.bigF (y - x) (L) (w.heap.size)).R (ρ (.tmp 44)) W := hL 44 (by decide +kernel)
      rw [hφ0] at b44
      have e47 : ρ (.tmp 47) = .bool false := hL 47 (by decide +kernel)
      obtain ⟨ou, lu, cu, eu⟩ := bgs_slice b44.1
      simp [go_sem, hc, hf, e47, eu]
      refine ⟨Below.refl _ _, ?_⟩
      show (bif φ 9 then SlotIs.any else SlotIs.sg (y - x) (L) false (w.heap.size)).R _ _
      rw [hφ0]
      exact ⟨_, rfl, by rw [← eu]; exact b44.1, by rw [← eu]; exact b44.2⟩
    refine kStS rfl ⟨rfl, rfl, ?_⟩ ?_
    · intro φ ρ W hφ hC hc hL
      have e4 : ρ (.tmp 4) = .pointer (some ⟨w.heap.size + 2, 0, none⟩) := hL 4 (by decide +kernel)
      have b48 := hL 48 (by decide +kernel)
      have bs : (bif φ 9 then SlotIs.any else SlotIs.sg (y - x) (L) false (w.heap.size)).R (ρ (.tmp 48)) W := hL 48 (by decide +kernel)
      rw [hφ] at bs
      obtain ⟨u, eu, hu, hfu⟩ := bs
      obtain ⟨ou, lu, cu, rfl⟩ := bgs_slice hu
      have g := hC.1
      obtain ⟨a0, a1, a2, r0⟩ := g.r0
      obtain ⟨bb, r1⟩ := g.r1
      have rl := g.lt
      have rf := g.fr
      refine gUpon_of ((W.setCell ⟨w.heap.size + 2, 0, none⟩ (.slice ou lu cu)).setCell ⟨w.heap.size + 2, 1, none⟩ (.bool false)) ?_ (fun _ => ?_)
      · simp [go_sem, hc, e4, eu, r0, r1, rl, rf, gUpon]
      refine ⟨⟨g.set ou lu cu false, fun hc => ⟨ou, lu, cu, by simp [go_sem, r0, rl], by simp [go_sem, r1, rl], BigV.set2 hu g.r0 g.r1 g.n2 _ _, hfu⟩⟩, fun t => ?_⟩
      refine (tbl_imp rfl (fun _ => val_imp) (tbl_imp rfl (fun _ => val_imp) (tbl_imp rfl (fun _ => val_imp) (tbl_imp rfl (fun _ => val_imp) (tbl_imp rfl (fun _ _ => ?_) (tbl_imp rfl (fun _ => val_imp) (tbl_imp rfl (fun _ => val_imp) (tbl_imp rfl (fun _ => val_imp) (tbl_imp rfl (fun _ _ => ?_) tbl_nil_imp)))))))))
      · show (bif (φ 9 || true) then SlotIs.any else SlotIs.bigF (y - x) (L) (w.heap.size)).R _ _
        rw [Bool.or_true]
        trivial
      · show (bif (φ 9 || true) then SlotIs.any else SlotIs.sg (y - x) (L) false (w.heap.size)).R _ _
        rw [Bool.or_true]
        trivial
    exact kSt0
  · intro W hC
    refine gFi 40 rfl ?_
    rintro _ rfl
    refine gFi 41 rfl ?_
    rintro _ rfl
    refine gFi 42 rfl ?_
    rintro _ rfl
    refine gFi 43 rfl ?_
    rintro _ rfl
    refine gFi 44 rfl ?_
    rintro u44 b44
    refine gFi 45 rfl ?_
    rintro _ rfl
    refine gFi 46 rfl ?_
    rintro _ rfl
    refine gFi 47 rfl ?_
    rintro _ rfl
    refine gFi 48 rfl ?_
    rintro u48 b48
    refine gFiN rfl ?_
    refine gFi0 ?_
    simp only [List.drop_succ_cons, List.drop_zero, Act.put, List.setIfInBounds_toArray, List.set_cons_succ, List.set_cons_zero]
    obtain ⟨ao, l, ca, r0, r1, hbv, hfv⟩ := hC.2 rfl
    have HFV := hide hfv
    have HV := hide hbv
    have HBE := hide hC.1.bel
    clear hC hbv hfv HS b44 b48
    go_wp2
    exact bodyPost_ret (v := .agg #[.slice ao l ca, .bool false]) (by simp [results, Try.results36, go_sem, r0, r1]) rfl ⟨_, rfl, HV.out, HFV.out, HBE.out⟩
    

set_option maxHeartbeats 4000000 in
theorem sub15_LF (o1 o2 : Option Addr) (l1 c1 l2 c2 : Nat) (x y K L : Nat) (hlt : x < y) (w : World) (hx : BigV w (.slice o1 l1 c1) x K) (hy : BigV w (.slice o2 l2 c2) y L) (hK : K ≤ 10000) (hL : L ≤ 10000) :
    Calls Try.prog 36 #[.agg #[.slice o1 l1 c1, .bool false], .agg #[.slice o2 l2 c2, .bool false]] w fun e w' => ∃ v, e = .returned (.agg #[v, .bool true]) ∧ BigV w' v (y - x) (L) ∧ Fresh w.heap.size v ∧ Below w.heap.size w w' := by
  have HS := hide (sb15_start o1 o2 l1 c1 l2 c2 false false x y K L w hx hy 65 65 65)
  clear hx hy
  have HLT : Hid (cmpN x y = -1 ∧ x ≤ y) := ⟨by unfold cmpN; rw [if_pos hlt], by omega⟩
  have HC1 : Hid (∀ W, BigV W (.slice o1 l1 c1) x K → BigV W (.slice o2 l2 c2) y L → Calls Try.prog 23 #[.slice o1 l1 c1, .slice o2 l2 c2] W fun e w' => e = .returned (.int .i64 (-1)) ∧ w' = W) := fun W h1 h2 => by have h := cmp_any x y K L _ _ W h1 h2; rw [HLT.out.1] at h; exact h
  go_enter Try.func36, Try.ntmps36
  have ha0 := HS.out.a0
  have ha1 := HS.out.a1
  have hb0 := HS.out.b0
  have hb1 := HS.out.b1
  go_wp2_with fail
  refine (HC1.out _ HS.out.gx HS.out.gy).mono ?_
  rintro e w1 ⟨rfl, hw⟩
  subst w1
  go_upto_region 5 with fail
  clear ha0 ha1 hb0 hb1
  refine wp_gen (fun W => Sb15 (.slice o1 l1 c1) (.slice o2 l2 c2) false false x y K L w W) HS.out ?_
  clear HS
  rintro W2 h2
  have HS := hide h2
  clear h2
  refine wp_region_storeK 10 [9] [40, 41, 42, 43, 44, 45, 46, 47, 48] (fun bs => [(40, .val (.pointer (some ⟨w.heap.size + 1, 0, none⟩))), (41, .val (.slice o2 l2 c2)), (42, .val (.pointer (some ⟨w.heap.size, 0, none⟩))), (43, .val (.slice o1 l1 c1)), (44, bif bs.headD false then SlotIs.any  else SlotIs.bigF (y - x) (L) (w.heap.size)), (45, .val (.pointer (some ⟨w.heap.size, 1, none⟩))), (46, .val (.bool false)), (47, .val (.bool true)), (48, bif bs.headD false then SlotIs.any  else SlotIs.sg (y - x) (L) true (w.heap.size))])
    (fun bs W => Sb15 (.slice o1 l1 c1) (.slice o2 l2 c2) false false x y K L w W ∧ (bs.headD false = true → ∃ ao l ca, W.cell? ⟨w.heap.size + 2, 0, none⟩ = some (.slice ao l ca) ∧ W.cell? ⟨w.heap.size + 2, 1, none⟩ = some (.bool true) ∧ BigV W (.slice ao l ca) (y - x) (L) ∧ Fresh w.heap.size (.slice ao l ca))) (fun bs => rfl) mixedOk (by kernel_rfl) (by kernel_rfl) (by kernel_rfl) (⟨HS.out.below (Below.refl _ _).drew, fun h => by cases h⟩) (fun bs W W' h hb => ⟨h.1.below hb, fun hq => by obtain ⟨ao, l, ca, e0, e1, e2, e3⟩ := h.2 hq; exact ⟨ao, l, ca, (hb.cell (p := ⟨w.heap.size + 2, 0, none⟩) h.1.lt).trans e0, (hb.cell (p := ⟨w.heap.size + 2, 1, none⟩) h.1.lt).trans e1, e2.below hb, e3⟩⟩) ?_ ?_
  · refine kSt rfl (fun φ hφ => gStep_run rfl ?_) ?_
    · intro ρ W hC hc hf hL
      have e3 : ρ (.tmp 3) = .pointer (some ⟨w.heap.size + 1, 0, none⟩) := hL 3 (by decide +kernel)
      simp [go_sem, hc, hf, e3]
      exact ⟨Below.refl _ _, rfl⟩
    refine kSt rfl (fun φ hφ => gStep_run rfl ?_) ?_
    · intro ρ W hC hc hf hL
      have e40 : ρ (.tmp 40) = .pointer (some ⟨w.heap.size + 1, 0, none⟩) := hL 40 (by decide +kernel)
      have lb0 := hC.1.b0
      simp [go_sem, hc, hf, e40, lb0]
      exact ⟨Below.refl _ _, rfl⟩
    refine kSt rfl (fun φ hφ => gStep_run rfl ?_) ?_
    · intro ρ W hC hc hf hL
      have e2 : ρ (.tmp 2) = .pointer (some ⟨w.heap.size, 0, none⟩) := hL 2 (by decide +kernel)
      simp [go_sem, hc, hf, e2]
      exact ⟨Below.refl _ _, rfl⟩
    refine kSt rfl (fun φ hφ => gStep_run rfl ?_) ?_
    · intro ρ W hC hc hf hL
      have e42 : ρ (.tmp 42) = .pointer (some ⟨w.heap.size, 0, none⟩) := hL 42 (by decide +kernel)
      have la0 := hC.1.a0
      simp [go_sem, hc, hf, e42, la0]
      exact ⟨Below.refl _ _, rfl⟩
    refine kSt rfl (fun φ hφ => gStep_run rfl ?_) ?_
    · intro ρ W hC hc hf hL
      have hφ0 : φ 9 = false := hφ 9 (by simp) (by kernel_rfl)
      have e41 : ρ (.tmp 41) = .slice o2 l2 c2 := hL 41 (by decide +kernel)
      have e43 : ρ (.tmp 43) = .slice o1 l1 c1 := hL 43 (by decide +kernel)
      simp [go_sem, hc, hf, e41, e43]
      refine (refSubF_any y x L K _ _ _ hC.1.gy hC.1.gx (by omega) HLT.out.2).mono ?_
      rintro e w' ⟨v, rfl, hv, hfv, hb⟩
      refine ⟨_, rfl, hb, ?_⟩
      show (bif φ 9 then SlotIs.any else SlotIs.bigF (y - x) (L) (w.heap.size)).R _ _
      rw [hφ0]
      exact ⟨hv, hfv.mono hC.1.bel.size⟩
    refine kSt rfl (fun φ hφ => gStep_run rfl ?_) ?_
    · intro ρ W hC hc hf hL
      have e2 : ρ (.tmp 2) = .pointer (some ⟨w.heap.size, 0, none⟩) := hL 2 (by decide +kernel)
      simp [go_sem, hc, hf, e2]
      exact ⟨Below.refl _ _, rfl⟩
    refine kSt rfl (fun φ hφ => gStep_run rfl ?_) ?_
    · intro ρ W hC hc hf hL
      have e45 : ρ (.tmp 45) = .pointer (some ⟨w.heap.size, 1, none⟩) := hL 45 (by decide +kernel)
      have la1 := hC.1.a1
      simp [go_sem, hc, hf, e45, la1]
      exact ⟨Below.refl _ _, rfl⟩
    refine kSt rfl (fun φ hφ => gStep_run rfl ?_) ?_
    · intro ρ W hC hc hf hL
      have e46 : ρ (.tmp 46) = .bool false := hL 46 (by decide +kernel)
      simp [go_sem, hc, hf, e46]
      exact ⟨Below.refl _ _, rfl⟩
    refine kSt rfl (fun φ hφ => gStep_run rfl ?_) ?_
    · intro ρ W hC hc hf hL
      have hφ0 : φ 9 = false := hφ 9 (by simp) (by kernel_rfl)
      have b44 : (bif φ 9 then SlotIs.any  else SlotIs.bigF (y - x) (L) (w.heap.size)).R (ρ (.tmp 44)) W := hL 44 (by decide +kernel)
      rw [hφ0] at b44
      have e47 : ρ (.tmp 47) = .bool true := hL 47 (by decide +kernel)
      obtain ⟨ou, lu, cu, eu⟩ := bgs_slice b44.1
      simp [go_sem, hc, hf, e47, eu]
      refine ⟨Below.refl _ _, ?_⟩
      show (bif φ 9 then SlotIs.any else SlotIs.sg (y - x) (L) true (w.heap.size)).R _ _
      rw [hφ0]
      exact ⟨_, rfl, by rw [← eu]; exact b44.1, by rw [← eu]; exact b44.2⟩
    refine kStS rfl ⟨rfl, rfl, ?_⟩ ?_
    · intro φ ρ W hφ hC hc hL
      have e4 : ρ (.tmp 4) = .pointer (some ⟨w.heap.size + 2, 0, none⟩) := hL 4 (by decide +kernel)
      have b48 := hL 48 (by decide +kernel)
      have bs : (bif φ 9 then SlotIs.any else SlotIs.sg (y - x) (L) true (w.heap.size)).R (ρ (.tmp 48)) W := hL 48 (by decide +kernel)
      rw [hφ] at bs
      obtain ⟨u, eu, hu, hfu⟩ := bs
      obtain ⟨ou, lu, cu, rfl⟩ := bgs_slice hu
      have g := hC.1
      obtain ⟨a0, a1, a2, r0⟩ := g.r0
      obtain ⟨bb, r1⟩ := g.r1
      have rl := g.lt
      have rf := g.fr
      refine gUpon_of ((W.setCell ⟨w.heap.size + 2, 0, none⟩ (.slice ou lu cu)).setCell ⟨w.heap.size + 2, 1, none⟩ (.bool true)) ?_ (fun _ => ?_)
      · simp [go_sem, hc, e4, eu, r0, r1, rl, rf, gUpon]
      refine ⟨⟨g.set ou lu cu true, fun hc => ⟨ou, lu, cu, by simp [go_sem, r0, rl], by simp [go_sem, r1, rl], BigV.set2 hu g.r0 g.r1 g.n2 _ _, hfu⟩⟩, fun t => ?_⟩
      refine (tbl_imp rfl (fun _ => val_imp) (tbl_imp rfl (fun _ => val_imp) (tbl_imp rfl (fun _ => val_imp) (tbl_imp rfl (fun _ => val_imp) (tbl_imp rfl (fun _ _ => ?_) (tbl_imp rfl (fun _ => val_imp) (tbl_imp rfl (fun _ => val_imp) (tbl_imp rfl (fun _ => val_imp) (tbl_imp rfl (fun _ _ => ?_) tbl_nil_imp)))))))))
      · show (bif (φ 9 || true) then SlotIs.any else SlotIs.bigF (y - x) (L) (w.heap.size)).R _ _
        rw [Bool.or_true]
        trivial
      · show (bif (φ 9 || true) then SlotIs.any else SlotIs.sg (y - x) (L) true (w.heap.size)).R _ _
        rw [Bool.or_true]
        trivial
    exact kSt0
  · intro W hC
    refine gFi 40 rfl ?_
    rintro _ rfl
    refine gFi 41 rfl ?_
    rintro _ rfl
    refine gFi 42 rfl ?_
    rintro _ rfl
    refine gFi 43 rfl ?_
    rintro _ rfl
    refine gFi 44 rfl ?_
    rintro u44 b44
    refine gFi 45 rfl ?_
    rintro _ rfl
    refine gFi 46 rfl ?_
    rintro _ rfl
    refine gFi 47 rfl ?_
    rintro _ rfl
    refine gFi 48 rfl ?_
    rintro u48 b48
    refine gFiN rfl ?_
    refine gFi0 ?_
    simp only [List.drop_succ_cons, List.drop_zero, Act.put, List.setIfInBounds_toArray, List.set_cons_succ, List.set_cons_zero]
    obtain ⟨ao, l, ca, r0, r1, hbv, hfv⟩ := hC.2 rfl
    have HFV := hide hfv
    have HV := hide hbv
    have HBE := hide hC.1.bel
    clear hC hbv hfv HS b44 b48
    go_wp2
    exact bodyPost_ret (v := .agg #[.slice ao l ca, .bool true]) (by simp [results, Try.results36, go_sem, r0, r1]) rfl ⟨_, rfl, HV.out, HFV.out, HBE.out⟩
    
end Go.Proofs.Ytbngaajhdaciaaa

/- Contracts: radicandref15.Sub as a difference, Down. -/
set_option linter.unusedVariables false
set_option linter.unusedSimpArgs false
set_option maxRecDepth 8000
namespace Go.Proofs.Ytbngaajhdaciaaa
open Go.RowKit Plain

theorem sub15_any (a b : Int) (K L : Nat) (va vb : Value) (w : World) (hx : BigV w va a.natAbs K) (hy : BigV w vb b.natAbs L) (hK : K ≤ 10000) (hL : L ≤ 10000) :
    Calls Try.prog 36 #[.agg #[va, .bool (decide (a < 0))], .agg #[vb, .bool (decide (b < 0))]] w fun e w' => ∃ v, e = .returned (.agg #[v, .bool (decide (a - b < 0))]) ∧ BigV w' v (a - b).natAbs (max K L + 1) ∧ Fresh w.heap.size v ∧ Below w.heap.size w w' := by
  obtain ⟨o1, l1, c1, rfl⟩ := bgs_slice hx
  obtain ⟨o2, l2, c2, rfl⟩ := bgs_slice hy
  by_cases ha : a < 0
  · by_cases hb : b < 0
    · rw [decide_eq_true ha, decide_eq_true hb]
      rcases (show b.natAbs < a.natAbs ∨ a.natAbs = b.natAbs ∨ a.natAbs < b.natAbs by omega) with h | h | h
      · rw [decide_eq_true (show a - b < 0 by omega), show (a - b).natAbs = a.natAbs - b.natAbs by omega]
        exact (sub15_GT o1 o2 l1 c1 l2 c2 _ _ K L h w hx hy hK hL).mono fun e w' ⟨v, h1, h2, h3, h4⟩ => ⟨v, h1, h2.mono (by omega), h3, h4⟩
      · rw [decide_eq_false (show ¬ a - b < 0 by omega), show (a - b).natAbs = a.natAbs - b.natAbs by omega]
        exact (sub15_ET o1 o2 l1 c1 l2 c2 _ _ K L h w hx hy hK hL).mono fun e w' ⟨v, h1, h2, h3, h4⟩ => ⟨v, h1, h2.mono (by omega), h3, h4⟩
      · rw [decide_eq_false (show ¬ a - b < 0 by omega), show (a - b).natAbs = b.natAbs - a.natAbs by omega]
        exact (sub15_LT o1 o2 l1 c1 l2 c2 _ _ K L h w hx hy hK hL).mono fun e w' ⟨v, h1, h2, h3, h4⟩ => ⟨v, h1, h2.mono (by omega), h3, h4⟩
    · rw [decide_eq_true ha, decide_eq_false hb, decide_eq_true (show a - b < 0 by omega), show (a - b).natAbs = a.natAbs + b.natAbs by omega]
      exact (sub15_UT o1 o2 l1 c1 l2 c2 _ _ K L w hx hy hK hL).mono fun e w' ⟨v, h1, h2, h3, h4⟩ => ⟨v, h1, h2.mono (by omega), h3, h4⟩
  · by_cases hb : b < 0
    · rw [decide_eq_false ha, decide_eq_true hb, decide_eq_false (show ¬ a - b < 0 by omega), show (a - b).natAbs = a.natAbs + b.natAbs by omega]
      exact (sub15_UF o1 o2 l1 c1 l2 c2 _ _ K L w hx hy hK hL).mono fun e w' ⟨v, h1, h2, h3, h4⟩ => ⟨v, h1, h2.mono (by omega), h3, h4⟩
    · rw [decide_eq_false ha, decide_eq_false hb]
      rcases (show b.natAbs < a.natAbs ∨ a.natAbs = b.natAbs ∨ a.natAbs < b.natAbs by omega) with h | h | h
      · rw [decide_eq_false (show ¬ a - b < 0 by omega), show (a - b).natAbs = a.natAbs - b.natAbs by omega]
        exact (sub15_GF o1 o2 l1 c1 l2 c2 _ _ K L h w hx hy hK hL).mono fun e w' ⟨v, h1, h2, h3, h4⟩ => ⟨v, h1, h2.mono (by omega), h3, h4⟩
      · rw [decide_eq_false (show ¬ a - b < 0 by omega), show (a - b).natAbs = a.natAbs - b.natAbs by omega]
        exact (sub15_EF o1 o2 l1 c1 l2 c2 _ _ K L h w hx hy hK hL).mono fun e w' ⟨v, h1, h2, h3, h4⟩ => ⟨v, h1, h2.mono (by omega), h3, h4⟩
      · rw [decide_eq_true (show a - b < 0 by omega), show (a - b).natAbs = b.natAbs - a.natAbs by omega]
        exact (sub15_LF o1 o2 l1 c1 l2 c2 _ _ K L h w hx hy hK hL).mono fun e w' ⟨v, h1, h2, h3, h4⟩ => ⟨v, h1, h2.mono (by omega), h3, h4⟩

/-- What Down goes by: a number with a sign in a box. -/
structure Dn15 (v1 : Value) (na : Bool) (x K : Nat) (w W : World) : Prop where
  a0 : W.cell? ⟨w.heap.size, 0, none⟩ = some v1
  a1 : W.cell? ⟨w.heap.size, 1, none⟩ = some (.bool na)
  bx : BigV w v1 x K
  lt : w.heap.size < W.heap.size
  bel : Below w.heap.size w W
theorem Dn15.below {v1 : Value} {na : Bool} {x K : Nat} {w W W' : World} (h : Dn15 v1 na x K w W) (hb : Below W.heap.size W W') : Dn15 v1 na x K w W' :=
  ⟨(hb.cell (p := ⟨w.heap.size, 0, none⟩) h.lt).trans h.a0, (hb.cell (p := ⟨w.heap.size, 1, none⟩) h.lt).trans h.a1, h.bx, Nat.lt_of_lt_of_le h.lt hb.size, below_trans h.bel hb⟩
theorem Dn15.gx {v1 : Value} {na : Bool} {x K : Nat} {w W : World} (h : Dn15 v1 na x K w W) : BigV W v1 x K := h.bx.below h.bel
theorem dn15_start (v1 : Value) (na : Bool) (x K : Nat) (w : World) (hx : BigV w v1 x K) (e : TypeId) (hv : ∃ ao l ca, v1 = .slice ao l ca) : Dn15 v1 na x K w (w.alloc (.cells #[v1, .bool na] e)) := by
  obtain ⟨a, b, c, rfl⟩ := hv
  exact ⟨by simp [go_sem], by simp [go_sem], hx, by simp, (Below.refl _ _).alloc (Nat.le_refl _) _⟩

set_option maxHeartbeats 2000000 in
theorem down15_PZ (o1 : Option Addr) (l1 c1 x k n K : Nat) (hk : x / 2 ^ n = k) (hk32 : k < 4294967295) (hkz : k = 0) (w : World) (hx : BigV w (.slice o1 l1 c1) x K) (hK : K ≤ 10000) (hn : n ≤ 10000) :
    Calls Try.prog 40 #[.agg #[.slice o1 l1 c1, .bool false], .int .i64 (n : Nat)] w fun e w' => e = .returned (.int .i64 ((k : Nat) : Int)) ∧ Below w.heap.size w w' := by
  have HS := hide (dn15_start (.slice o1 l1 c1) false x K w hx 65 ⟨_, _, _, rfl⟩)
  have HSR : Hid (∀ W, BigV W (.slice o1 l1 c1) x K → Calls Try.prog 37 #[.slice o1 l1 c1, .int .i64 (n : Nat)] W fun e w' => ∃ v, e = .returned v ∧ BigV w' v k K ∧ Below W.heap.size W w') := fun W h => by have g := refShr_any x K n _ W h (by omega) (by omega); rw [hk] at g; exact g
  have HK := hide hk32
  have HKZ := hide hkz
  clear hx hk hkz hk32
  go_enter Try.func40, Try.ntmps40
  have ha0 := HS.out.a0
  go_wp2_with fail
  refine (HSR.out _ HS.out.gx).mono ?_
  rintro e w1 ⟨v1, rfl, hv1, hb1⟩
  replace HS := hide (HS.out.below hb1)
  have HV := hide hv1
  clear hb1 ha0 HSR hv1
  obtain ⟨lb, ⟨bo, cb, rfl, hcb, hmb, hcells⟩, hdig, hnorm, hlk⟩ := HV.out
  unfold maxLen at hmb
  have ha1 := HS.out.a1
  have hl0 : ¬ (0 : Int) < (lb.length : Int) := by
    have h := hnorm
    rcases h with h | h
    · omega
    · rcases Nat.eq_zero_or_pos lb.length with h0 | h0
      · omega
      · have h1 : 0 < BB ^ (lb.length - 1) := Nat.pow_pos (by decide)
        have := HKZ.out
        omega
  clear hcells hdig hnorm hlk
  have HB := hide HS.out.bel
  clear HS
  go_wp2
  go_ret
  exact ⟨by rw [HKZ.out]; rfl, HB.out⟩

set_option maxHeartbeats 2000000 in
theorem down15_PY (o1 : Option Addr) (l1 c1 x k n K : Nat) (hk : x / 2 ^ n = k) (hk32 : k < 4294967295) (hkz : k ≠ 0) (w : World) (hx : BigV w (.slice o1 l1 c1) x K) (hK : K ≤ 10000) (hn : n ≤ 10000) :
    Calls Try.prog 40 #[.agg #[.slice o1 l1 c1, .bool false], .int .i64 (n : Nat)] w fun e w' => e = .returned (.int .i64 ((k : Nat) : Int)) ∧ Below w.heap.size w w' := by
  have HS := hide (dn15_start (.slice o1 l1 c1) false x K w hx 65 ⟨_, _, _, rfl⟩)
  have HSR : Hid (∀ W, BigV W (.slice o1 l1 c1) x K → Calls Try.prog 37 #[.slice o1 l1 c1, .int .i64 (n : Nat)] W fun e w' => ∃ v, e = .returned v ∧ BigV w' v k K ∧ Below W.heap.size W w') := fun W h => by have g := refShr_any x K n _ W h (by omega) (by omega); rw [hk] at g; exact g
  have HK := hide hk32
  have HKZ := hide hkz
  clear hx hk hkz hk32
  go_enter Try.func40, Try.ntmps40
  have ha0 := HS.out.a0
  go_wp2_with fail
  refine (HSR.out _ HS.out.gx).mono ?_
  rintro e w1 ⟨v1, rfl, hv1, hb1⟩
  replace HS := hide (HS.out.below hb1)
  have HV := hide hv1
  clear hb1 ha0 HSR hv1
  obtain ⟨lb, ⟨bo, cb, rfl, hcb, hmb, hcells⟩, hdig, hnorm, hlk⟩ := HV.out
  unfold maxLen at hmb
  have ha1 := HS.out.a1
  have hlen : 0 < lb.length := by
    rcases Nat.eq_zero_or_pos lb.length with h0 | h0
    · have h1 := hdig.1
      rw [h0, Nat.pow_zero] at h1
      have := HKZ.out
      omega
    · exact h0
  have hl0 : (0 : Int) < (lb.length : Int) := by omega
  have hd0 : dg lb 0 = k := by
    have h1 := hdig.2 0
    rw [Nat.pow_zero, Nat.div_one] at h1
    rw [h1]
    exact Nat.mod_eq_of_lt (show k < 4294967296 by have := HK.out; omega)
  obtain ⟨b, off, rfl, hbl, hcell⟩ : ∃ b off, bo = some ⟨b, off, none⟩ ∧ b < w1.heap.size ∧ ∀ i, i < lb.length → w1.cell? ⟨b, off + i, none⟩ = some (mk32 (dg lb i)) := by
    rcases hcells with h | h
    · omega
    · exact h
  have hck : w1.cell? ⟨b, off, none⟩ = some (.int .u32 (k : Nat)) := by
    have h := hcell 0 hlen
    rw [Nat.add_zero, hd0] at h
    exact h
  have hki : IntKind.i64.wrap ((k : Nat) : Int) = ((k : Nat) : Int) := by rw [IntKind.wrap_i64]; have := HK.out; omega
  clear hcell hdig hnorm hlk hd0
  have HB := hide HS.out.bel
  clear HS
  go_wp2
  go_ret
  exact ⟨rfl, HB.out⟩

set_option maxHeartbeats 2000000 in
theorem down15_NZE (o1 : Option Addr) (l1 c1 x k n K : Nat) (hk : x / 2 ^ n = k) (hk32 : k < 4294967295) (hkz : k = 0) (hrem : k * 2 ^ n = x) (w : World) (hx : BigV w (.slice o1 l1 c1) x K) (hK : K ≤ 10000) (hn : n ≤ 10000) :
    Calls Try.prog 40 #[.agg #[.slice o1 l1 c1, .bool true], .int .i64 (n : Nat)] w fun e w' => e = .returned (.int .i64 (-((k : Nat) : Int))) ∧ Below w.heap.size w w' := by
  have HS := hide (dn15_start (.slice o1 l1 c1) true x K w hx 65 ⟨_, _, _, rfl⟩)
  have HSR : Hid (∀ W, BigV W (.slice o1 l1 c1) x K → Calls Try.prog 37 #[.slice o1 l1 c1, .int .i64 (n : Nat)] W fun e w' => ∃ v, e = .returned v ∧ BigV w' v k K ∧ Below W.heap.size W w') := fun W h => by have g := refShr_any x K n _ W h (by omega) (by omega); rw [hk] at g; exact g
  have HK := hide hk32
  have HKZ := hide hkz
  clear hx hk hkz hk32
  go_enter Try.func40, Try.ntmps40
  have ha0 := HS.out.a0
  go_wp2_with fail
  refine (HSR.out _ HS.out.gx).mono ?_
  rintro e w1 ⟨v1, rfl, hv1, hb1⟩
  replace HS := hide (HS.out.below hb1)
  have HV := hide hv1
  clear hb1 ha0 HSR hv1
  obtain ⟨lb, ⟨bo, cb, rfl, hcb, hmb, hcells⟩, hdig, hnorm, hlk⟩ := HV.out
  unfold maxLen at hmb
  have ha1 := HS.out.a1
  have hl0 : ¬ (0 : Int) < (lb.length : Int) := by
    have h := hnorm
    rcases h with h | h
    · omega
    · rcases Nat.eq_zero_or_pos lb.length with h0 | h0
      · omega
      · have h1 : 0 < BB ^ (lb.length - 1) := Nat.pow_pos (by decide)
        have := HKZ.out
        omega
  clear hcells hdig hnorm hlk
  have HSH : Hid (∀ W, BigV W (.slice bo lb.length cb) k K → Calls Try.prog 45 #[.slice bo lb.length cb, .int .i64 (n : Nat)] W fun e w' => ∃ v, e = .returned v ∧ BigV w' v (k * 2 ^ n) (n / 32 + K + 1) ∧ Below W.heap.size W w') := fun W h => refShl_any _ K n _ W h (by omega) (by omega)
  have HCM : Hid (∀ W u, BigV W u (k * 2 ^ n) (n / 32 + K + 1) → BigV W (.slice o1 l1 c1) x K → Calls Try.prog 23 #[u, .slice o1 l1 c1] W fun e w' => e = .returned (.int .i64 (cmpN (k * 2 ^ n) x)) ∧ w' = W) := fun W u h1 h2 => cmp_any _ x _ K u _ W h1 h2
  have hc0 : cmpN (k * 2 ^ n) x = 0 := by unfold cmpN; rw [if_neg (by omega), if_neg (by omega)]
  rw [hc0] at HCM
  clear hrem hc0
  go_upto_region 7 with fail
  have HF : Hid (Dn15 (.slice o1 l1 c1) true x K w w1 ∧ BigV w1 (.slice bo lb.length cb) k K) := ⟨HS.out, HV.out⟩
  clear HS HV ha1
  refine wp_region_grow 7 [(22, .val (.slice bo lb.length cb)), (23, .val (.int .i64 (n : Nat))), (24, .big (k * 2 ^ n) (n / 32 + K + 1)), (25, .val (.pointer (some ⟨w.heap.size, 0, none⟩))), (26, .val (.slice o1 l1 c1)), (27, .val (.int .i64 0)), (28, .val (.bool false))]
    (fun W => Dn15 (.slice o1 l1 c1) true x K w W ∧ BigV W (.slice bo lb.length cb) k K) mixedOk (by kernel_rfl) (by kernel_rfl) (⟨HF.out.1.below (Below.refl _ _).drew, HF.out.2.below (Below.refl _ _).drew⟩) (fun W W' h hb => ⟨h.1.below hb, h.2.below hb⟩) ?_ ?_
  · refine gSt (gStep_run rfl (gRun_move 5 22 (.inl rfl) rfl (by decide +kernel) (fun v w h => h))) ?_
    refine gSt (gStep_run rfl (gRun_move 1 23 (.inl rfl) rfl (by decide +kernel) (fun v w h => h))) ?_
    refine gSt (gStep_run rfl ?_) ?_
    · intro ρ W hC hc hf hL
      have e22 : ρ (.tmp 22) = .slice bo lb.length cb := hL 22 (by decide +kernel)
      have e23 : ρ (.tmp 23) = .int .i64 (n : Nat) := hL 23 (by decide +kernel)
      simp [go_sem, hc, hf, e22, e23]
      refine (HSH.out W hC.2).mono ?_
      rintro e w' ⟨v, rfl, hv, hb⟩
      exact ⟨_, rfl, hb, hv⟩
    refine gSt (gStep_run rfl ?_) ?_
    · intro ρ W hC hc hf hL
      have e2 : ρ (.tmp 2) = .pointer (some ⟨w.heap.size, 0, none⟩) := hL 2 (by decide +kernel)
      simp [go_sem, hc, hf, e2]
      exact ⟨Below.refl _ _, rfl⟩
    refine gSt (gStep_run rfl ?_) ?_
    · intro ρ W hC hc hf hL
      have e25 : ρ (.tmp 25) = .pointer (some ⟨w.heap.size, 0, none⟩) := hL 25 (by decide +kernel)
      have la0 := hC.1.a0
      simp [go_sem, hc, hf, e25, la0]
      exact ⟨Below.refl _ _, rfl⟩
    refine gSt (gStep_run rfl ?_) ?_
    · intro ρ W hC hc hf hL
      have b24 : BigV W (ρ (.tmp 24)) ((k * 2 ^ n)) ((n / 32 + K + 1)) := hL 24 (by decide +kernel)
      have e26 : ρ (.tmp 26) = .slice o1 l1 c1 := hL 26 (by decide +kernel)
      simp [go_sem, hc, hf, e26]
      refine (HCM.out W _ b24 hC.1.gx).mono ?_
      rintro e w' ⟨rfl, hb⟩
      exact ⟨_, rfl, by first | exact hb | (subst hb; exact Below.refl _ _), rfl⟩
    refine gSt (gStep_run rfl ?_) ?_
    · intro ρ W hC hc hf hL
      have e27 : ρ (.tmp 27) = .int .i64 0 := hL 27 (by decide +kernel)
      simp [go_sem, hc, hf, e27]
      exact ⟨Below.refl _ _, rfl⟩
    exact gSt0
  · intro W hC
    refine gFi 22 rfl ?_
    rintro _ rfl
    refine gFi 23 rfl ?_
    rintro _ rfl
    refine gFi 24 rfl ?_
    rintro u24 b24
    refine gFi 25 rfl ?_
    rintro _ rfl
    refine gFi 26 rfl ?_
    rintro _ rfl
    refine gFi 27 rfl ?_
    rintro _ rfl
    refine gFi 28 rfl ?_
    rintro _ rfl
    refine gFi0 ?_
    simp only [List.drop_succ_cons, List.drop_zero, Act.put, List.setIfInBounds_toArray, List.set_cons_succ, List.set_cons_zero]
    have HBE := hide hC.1.bel
    clear hC b24 HF
    go_wp2
    go_ret
    exact ⟨by rw [HKZ.out]; rfl, HBE.out⟩
    

set_option maxHeartbeats 2000000 in
theorem down15_NZR (o1 : Option Addr) (l1 c1 x k n K : Nat) (hk : x / 2 ^ n = k) (hk32 : k < 4294967295) (hkz : k = 0) (hrem : ¬ k * 2 ^ n = x) (w : World) (hx : BigV w (.slice o1 l1 c1) x K) (hK : K ≤ 10000) (hn : n ≤ 10000) :
    Calls Try.prog 40 #[.agg #[.slice o1 l1 c1, .bool true], .int .i64 (n : Nat)] w fun e w' => e = .returned (.int .i64 (-(((k : Nat) : Int) + 1))) ∧ Below w.heap.size w w' := by
  have HS := hide (dn15_start (.slice o1 l1 c1) true x K w hx 65 ⟨_, _, _, rfl⟩)
  have HSR : Hid (∀ W, BigV W (.slice o1 l1 c1) x K → Calls Try.prog 37 #[.slice o1 l1 c1, .int .i64 (n : Nat)] W fun e w' => ∃ v, e = .returned v ∧ BigV w' v k K ∧ Below W.heap.size W w') := fun W h => by have g := refShr_any x K n _ W h (by omega) (by omega); rw [hk] at g; exact g
  have HK := hide hk32
  have HKZ := hide hkz
  clear hx hk hkz hk32
  go_enter Try.func40, Try.ntmps40
  have ha0 := HS.out.a0
  go_wp2_with fail
  refine (HSR.out _ HS.out.gx).mono ?_
  rintro e w1 ⟨v1, rfl, hv1, hb1⟩
  replace HS := hide (HS.out.below hb1)
  have HV := hide hv1
  clear hb1 ha0 HSR hv1
  obtain ⟨lb, ⟨bo, cb, rfl, hcb, hmb, hcells⟩, hdig, hnorm, hlk⟩ := HV.out
  unfold maxLen at hmb
  have ha1 := HS.out.a1
  have hl0 : ¬ (0 : Int) < (lb.length : Int) := by
    have h := hnorm
    rcases h with h | h
    · omega
    · rcases Nat.eq_zero_or_pos lb.length with h0 | h0
      · omega
      · have h1 : 0 < BB ^ (lb.length - 1) := Nat.pow_pos (by decide)
        have := HKZ.out
        omega
  clear hcells hdig hnorm hlk
  have HSH : Hid (∀ W, BigV W (.slice bo lb.length cb) k K → Calls Try.prog 45 #[.slice bo lb.length cb, .int .i64 (n : Nat)] W fun e w' => ∃ v, e = .returned v ∧ BigV w' v (k * 2 ^ n) (n / 32 + K + 1) ∧ Below W.heap.size W w') := fun W h => refShl_any _ K n _ W h (by omega) (by omega)
  have HCM : Hid (∀ W u, BigV W u (k * 2 ^ n) (n / 32 + K + 1) → BigV W (.slice o1 l1 c1) x K → Calls Try.prog 23 #[u, .slice o1 l1 c1] W fun e w' => e = .returned (.int .i64 (cmpN (k * 2 ^ n) x)) ∧ w' = W) := fun W u h1 h2 => cmp_any _ x _ K u _ W h1 h2
  obtain ⟨cq, hcq, hcne⟩ : ∃ cq, cmpN (k * 2 ^ n) x = cq ∧ (cq != 0) = true := by
    refine ⟨_, rfl, ?_⟩
    unfold cmpN
    split
    · rfl
    · split
      · rfl
      · exact absurd (show k * 2 ^ n = x by omega) hrem
  rw [hcq] at HCM
  clear hrem hcq
  go_upto_region 7 with fail
  have HF : Hid (Dn15 (.slice o1 l1 c1) true x K w w1 ∧ BigV w1 (.slice bo lb.length cb) k K) := ⟨HS.out, HV.out⟩
  clear HS HV ha1
  refine wp_region_grow 7 [(22, .val (.slice bo lb.length cb)), (23, .val (.int .i64 (n : Nat))), (24, .big (k * 2 ^ n) (n / 32 + K + 1)), (25, .val (.pointer (some ⟨w.heap.size, 0, none⟩))), (26, .val (.slice o1 l1 c1)), (27, .val (.int .i64 cq)), (28, .val (.bool true))]
    (fun W => Dn15 (.slice o1 l1 c1) true x K w W ∧ BigV W (.slice bo lb.length cb) k K) mixedOk (by kernel_rfl) (by kernel_rfl) (⟨HF.out.1.below (Below.refl _ _).drew, HF.out.2.below (Below.refl _ _).drew⟩) (fun W W' h hb => ⟨h.1.below hb, h.2.below hb⟩) ?_ ?_
  · refine gSt (gStep_run rfl (gRun_move 5 22 (.inl rfl) rfl (by decide +kernel) (fun v w h => h))) ?_
    refine gSt (gStep_run rfl (gRun_move 1 23 (.inl rfl) rfl (by decide +kernel) (fun v w h => h))) ?_
    refine gSt (gStep_run rfl ?_) ?_
    · intro ρ W hC hc hf hL
      have e22 : ρ (.tmp 22) = .slice bo lb.length cb := hL 22 (by decide +kernel)
      have e23 : ρ (.tmp 23) = .int .i64 (n : Nat) := hL 23 (by decide +kernel)
      simp [go_sem, hc, hf, e22, e23]
      refine (HSH.out W hC.2).mono ?_
      rintro e w' ⟨v, rfl, hv, hb⟩
      exact ⟨_, rfl, hb, hv⟩
    refine gSt (gStep_run rfl ?_) ?_
    · intro ρ W hC hc hf hL
      have e2 : ρ (.tmp 2) = .pointer (some ⟨w.heap.size, 0, none⟩) := hL 2 (by decide +kernel)
      simp [go_sem, hc, hf, e2]
      exact ⟨Below.refl _ _, rfl⟩
    refine gSt (gStep_run rfl ?_) ?_
    · intro ρ W hC hc hf hL
      have e25 : ρ (.tmp 25) = .pointer (some ⟨w.heap.size, 0, none⟩) := hL 25 (by decide +kernel)
      have la0 := hC.1.a0
      simp [go_sem, hc, hf, e25, la0]
      exact ⟨Below.refl _ _, rfl⟩
    refine gSt (gStep_run rfl ?_) ?_
    · intro ρ W hC hc hf hL
      have b24 : BigV W (ρ (.tmp 24)) ((k * 2 ^ n)) ((n / 32 + K + 1)) := hL 24 (by decide +kernel)
      have e26 : ρ (.tmp 26) = .slice o1 l1 c1 := hL 26 (by decide +kernel)
      simp [go_sem, hc, hf, e26]
      refine (HCM.out W _ b24 hC.1.gx).mono ?_
      rintro e w' ⟨rfl, hb⟩
      exact ⟨_, rfl, by first | exact hb | (subst hb; exact Below.refl _ _), rfl⟩
    refine gSt (gStep_run rfl ?_) ?_
    · intro ρ W hC hc hf hL
      have e27 : ρ (.tmp 27) = .int .i64 cq := hL 27 (by decide +kernel)
      have hcne2 := hcne
      simp [go_sem, hc, hf, e27, hcne]
      exact ⟨Below.refl _ _, rfl⟩
    exact gSt0
  · intro W hC
    refine gFi 22 rfl ?_
    rintro _ rfl
    refine gFi 23 rfl ?_
    rintro _ rfl
    refine gFi 24 rfl ?_
    rintro u24 b24
    refine gFi 25 rfl ?_
    rintro _ rfl
    refine gFi 26 rfl ?_
    rintro _ rfl
    refine gFi 27 rfl ?_
    rintro _ rfl
    refine gFi 28 rfl ?_
    rintro _ rfl
    refine gFi0 ?_
    simp only [List.drop_succ_cons, List.drop_zero, Act.put, List.setIfInBounds_toArray, List.set_cons_succ, List.set_cons_zero]
    have HBE := hide hC.1.bel
    clear hC b24 HF
    go_wp2
    go_ret
    exact ⟨by rw [HKZ.out]; rfl, HBE.out⟩
    

set_option maxHeartbeats 2000000 in
theorem down15_NYE (o1 : Option Addr) (l1 c1 x k n K : Nat) (hk : x / 2 ^ n = k) (hk32 : k < 4294967295) (hkz : k ≠ 0) (hrem : k * 2 ^ n = x) (w : World) (hx : BigV w (.slice o1 l1 c1) x K) (hK : K ≤ 10000) (hn : n ≤ 10000) :
    Calls Try.prog 40 #[.agg #[.slice o1 l1 c1, .bool true], .int .i64 (n : Nat)] w fun e w' => e = .returned (.int .i64 (-((k : Nat) : Int))) ∧ Below w.heap.size w w' := by
  have HS := hide (dn15_start (.slice o1 l1 c1) true x K w hx 65 ⟨_, _, _, rfl⟩)
  have HSR : Hid (∀ W, BigV W (.slice o1 l1 c1) x K → Calls Try.prog 37 #[.slice o1 l1 c1, .int .i64 (n : Nat)] W fun e w' => ∃ v, e = .returned v ∧ BigV w' v k K ∧ Below W.heap.size W w') := fun W h => by have g := refShr_any x K n _ W h (by omega) (by omega); rw [hk] at g; exact g
  have HK := hide hk32
  have HKZ := hide hkz
  clear hx hk hkz hk32
  go_enter Try.func40, Try.ntmps40
  have ha0 := HS.out.a0
  go_wp2_with fail
  refine (HSR.out _ HS.out.gx).mono ?_
  rintro e w1 ⟨v1, rfl, hv1, hb1⟩
  replace HS := hide (HS.out.below hb1)
  have HV := hide hv1
  clear hb1 ha0 HSR hv1
  obtain ⟨lb, ⟨bo, cb, rfl, hcb, hmb, hcells⟩, hdig, hnorm, hlk⟩ := HV.out
  unfold maxLen at hmb
  have ha1 := HS.out.a1
  have hlen : 0 < lb.length := by
    rcases Nat.eq_zero_or_pos lb.length with h0 | h0
    · have h1 := hdig.1
      rw [h0, Nat.pow_zero] at h1
      have := HKZ.out
      omega
    · exact h0
  have hl0 : (0 : Int) < (lb.length : Int) := by omega
  have hd0 : dg lb 0 = k := by
    have h1 := hdig.2 0
    rw [Nat.pow_zero, Nat.div_one] at h1
    rw [h1]
    exact Nat.mod_eq_of_lt (show k < 4294967296 by have := HK.out; omega)
  obtain ⟨b, off, rfl, hbl, hcell⟩ : ∃ b off, bo = some ⟨b, off, none⟩ ∧ b < w1.heap.size ∧ ∀ i, i < lb.length → w1.cell? ⟨b, off + i, none⟩ = some (mk32 (dg lb i)) := by
    rcases hcells with h | h
    · omega
    · exact h
  have hck : w1.cell? ⟨b, off, none⟩ = some (.int .u32 (k : Nat)) := by
    have h := hcell 0 hlen
    rw [Nat.add_zero, hd0] at h
    exact h
  have hki : IntKind.i64.wrap ((k : Nat) : Int) = ((k : Nat) : Int) := by rw [IntKind.wrap_i64]; have := HK.out; omega
  clear hcell hdig hnorm hlk hd0
  have HSH : Hid (∀ W, BigV W (.slice (some ⟨b, off, none⟩) lb.length cb) k K → Calls Try.prog 45 #[.slice (some ⟨b, off, none⟩) lb.length cb, .int .i64 (n : Nat)] W fun e w' => ∃ v, e = .returned v ∧ BigV w' v (k * 2 ^ n) (n / 32 + K + 1) ∧ Below W.heap.size W w') := fun W h => refShl_any _ K n _ W h (by omega) (by omega)
  have HCM : Hid (∀ W u, BigV W u (k * 2 ^ n) (n / 32 + K + 1) → BigV W (.slice o1 l1 c1) x K → Calls Try.prog 23 #[u, .slice o1 l1 c1] W fun e w' => e = .returned (.int .i64 (cmpN (k * 2 ^ n) x)) ∧ w' = W) := fun W u h1 h2 => cmp_any _ x _ K u _ W h1 h2
  have hc0 : cmpN (k * 2 ^ n) x = 0 := by unfold cmpN; rw [if_neg (by omega), if_neg (by omega)]
  rw [hc0] at HCM
  clear hrem hc0
  go_upto_region 7 with fail
  have HF : Hid (Dn15 (.slice o1 l1 c1) true x K w w1 ∧ BigV w1 (.slice (some ⟨b, off, none⟩) lb.length cb) k K) := ⟨HS.out, HV.out⟩
  clear HS HV ha1 hck
  refine wp_region_grow 7 [(22, .val (.slice (some ⟨b, off, none⟩) lb.length cb)), (23, .val (.int .i64 (n : Nat))), (24, .big (k * 2 ^ n) (n / 32 + K + 1)), (25, .val (.pointer (some ⟨w.heap.size, 0, none⟩))), (26, .val (.slice o1 l1 c1)), (27, .val (.int .i64 0)), (28, .val (.bool false))]
    (fun W => Dn15 (.slice o1 l1 c1) true x K w W ∧ BigV W (.slice (some ⟨b, off, none⟩) lb.length cb) k K) mixedOk (by kernel_rfl) (by kernel_rfl) (⟨HF.out.1.below (Below.refl _ _).drew, HF.out.2.below (Below.refl _ _).drew⟩) (fun W W' h hb => ⟨h.1.below hb, h.2.below hb⟩) ?_ ?_
  · refine gSt (gStep_run rfl (gRun_move 5 22 (.inl rfl) rfl (by decide +kernel) (fun v w h => h))) ?_
    refine gSt (gStep_run rfl (gRun_move 1 23 (.inl rfl) rfl (by decide +kernel) (fun v w h => h))) ?_
    refine gSt (gStep_run rfl ?_) ?_
    · intro ρ W hC hc hf hL
      have e22 : ρ (.tmp 22) = .slice (some ⟨b, off, none⟩) lb.length cb := hL 22 (by decide +kernel)
      have e23 : ρ (.tmp 23) = .int .i64 (n : Nat) := hL 23 (by decide +kernel)
      simp [go_sem, hc, hf, e22, e23]
      refine (HSH.out W hC.2).mono ?_
      rintro e w' ⟨v, rfl, hv, hb⟩
      exact ⟨_, rfl, hb, hv⟩
    refine gSt (gStep_run rfl ?_) ?_
    · intro ρ W hC hc hf hL
      have e2 : ρ (.tmp 2) = .pointer (some ⟨w.heap.size, 0, none⟩) := hL 2 (by decide +kernel)
      simp [go_sem, hc, hf, e2]
      exact ⟨Below.refl _ _, rfl⟩
    refine gSt (gStep_run rfl ?_) ?_
    · intro ρ W hC hc hf hL
      have e25 : ρ (.tmp 25) = .pointer (some ⟨w.heap.size, 0, none⟩) := hL 25 (by decide +kernel)
      have la0 := hC.1.a0
      simp [go_sem, hc, hf, e25, la0]
      exact ⟨Below.refl _ _, rfl⟩
    refine gSt (gStep_run rfl ?_) ?_
    · intro ρ W hC hc hf hL
      have b24 : BigV W (ρ (.tmp 24)) ((k * 2 ^ n)) ((n / 32 + K + 1)) := hL 24 (by decide +kernel)
      have e26 : ρ (.tmp 26) = .slice o1 l1 c1 := hL 26 (by decide +kernel)
      simp [go_sem, hc, hf, e26]
      refine (HCM.out W _ b24 hC.1.gx).mono ?_
      rintro e w' ⟨rfl, hb⟩
      exact ⟨_, rfl, by first | exact hb | (subst hb; exact Below.refl _ _), rfl⟩
    refine gSt (gStep_run rfl ?_) ?_
    · intro ρ W hC hc hf hL
      have e27 : ρ (.tmp 27) = .int .i64 0 := hL 27 (by decide +kernel)
      simp [go_sem, hc, hf, e27]
      exact ⟨Below.refl _ _, rfl⟩
    exact gSt0
  · intro W hC
    refine gFi 22 rfl ?_
    rintro _ rfl
    refine gFi 23 rfl ?_
    rintro _ rfl
    refine gFi 24 rfl ?_
    rintro u24 b24
    refine gFi 25 rfl ?_
    rintro _ rfl
    refine gFi 26 rfl ?_
    rintro _ rfl
    refine gFi 27 rfl ?_
    rintro _ rfl
    refine gFi 28 rfl ?_
    rintro _ rfl
    refine gFi0 ?_
    simp only [List.drop_succ_cons, List.drop_zero, Act.put, List.setIfInBounds_toArray, List.set_cons_succ, List.set_cons_zero]
    have HBE := hide hC.1.bel
    clear hC b24 HF
    have hk2 : IntKind.i64.wrap (-((k : Nat) : Int)) = -((k : Nat) : Int) := by rw [IntKind.wrap_i64]; have := HK.out; omega
    go_wp2
    go_ret
    exact ⟨rfl, HBE.out⟩
    

set_option maxHeartbeats 2000000 in
theorem down15_NYR (o1 : Option Addr) (l1 c1 x k n K : Nat) (hk : x / 2 ^ n = k) (hk32 : k < 4294967295) (hkz : k ≠ 0) (hrem : ¬ k * 2 ^ n = x) (w : World) (hx : BigV w (.slice o1 l1 c1) x K) (hK : K ≤ 10000) (hn : n ≤ 10000) :
    Calls Try.prog 40 #[.agg #[.slice o1 l1 c1, .bool true], .int .i64 (n : Nat)] w fun e w' => e = .returned (.int .i64 (-(((k : Nat) : Int) + 1))) ∧ Below w.heap.size w w' := by
  have HS := hide (dn15_start (.slice o1 l1 c1) true x K w hx 65 ⟨_, _, _, rfl⟩)
  have HSR : Hid (∀ W, BigV W (.slice o1 l1 c1) x K → Calls Try.prog 37 #[.slice o1 l1 c1, .int .i64 (n : Nat)] W fun e w' => ∃ v, e = .returned v ∧ BigV w' v k K ∧ Below W.heap.size W w') := fun W h => by have g := refShr_any x K n _ W h (by omega) (by omega); rw [hk] at g; exact g
  have HK := hide hk32
  have HKZ := hide hkz
  clear hx hk hkz hk32
  go_enter Try.func40, Try.ntmps40
  have ha0 := HS.out.a0
  go_wp2_with fail
  refine (HSR.out _ HS.out.gx).mono ?_
  rintro e w1 ⟨v1, rfl, hv1, hb1⟩
  replace HS := hide (HS.out.below hb1)
  have HV := hide hv1
  clear hb1 ha0 HSR hv1
  obtain ⟨lb, ⟨bo, cb, rfl, hcb, hmb, hcells⟩, hdig, hnorm, hlk⟩ := HV.out
  unfold maxLen at hmb
  have ha1 := HS.out.a1
  have hlen : 0 < lb.length := by
    rcases Nat.eq_zero_or_pos lb.length with h0 | h0
    · have h1 := hdig.1
      rw [h0, Nat.pow_zero] at h1
      have := HKZ.out
      omega
    · exact h0
  have hl0 : (0 : Int) < (lb.length : Int) := by omega
  have hd0 : dg lb 0 = k := by
    have h1 := hdig.2 0
    rw [Nat.pow_zero, Nat.div_one] at h1
    rw [h1]
    exact Nat.mod_eq_of_lt (show k < 4294967296 by have := HK.out; omega)
  obtain ⟨b, off, rfl, hbl, hcell⟩ : ∃ b off, bo = some ⟨b, off, none⟩ ∧ b < w1.heap.size ∧ ∀ i, i < lb.length → w1.cell? ⟨b, off + i, none⟩ = some (mk32 (dg lb i)) := by
    rcases hcells with h | h
    · omega
    · exact h
  have hck : w1.cell? ⟨b, off, none⟩ = some (.int .u32 (k : Nat)) := by
    have h := hcell 0 hlen
    rw [Nat.add_zero, hd0] at h
    exact h
  have hki : IntKind.i64.wrap ((k : Nat) : Int) = ((k : Nat) : Int) := by rw [IntKind.wrap_i64]; have := HK.out; omega
  clear hcell hdig hnorm hlk hd0
  have HSH : Hid (∀ W, BigV W (.slice (some ⟨b, off, none⟩) lb.length cb) k K → Calls Try.prog 45 #[.slice (some ⟨b, off, none⟩) lb.length cb, .int .i64 (n : Nat)] W fun e w' => ∃ v, e = .returned v ∧ BigV w' v (k * 2 ^ n) (n / 32 + K + 1) ∧ Below W.heap.size W w') := fun W h => refShl_any _ K n _ W h (by omega) (by omega)
  have HCM : Hid (∀ W u, BigV W u (k * 2 ^ n) (n / 32 + K + 1) → BigV W (.slice o1 l1 c1) x K → Calls Try.prog 23 #[u, .slice o1 l1 c1] W fun e w' => e = .returned (.int .i64 (cmpN (k * 2 ^ n) x)) ∧ w' = W) := fun W u h1 h2 => cmp_any _ x _ K u _ W h1 h2
  obtain ⟨cq, hcq, hcne⟩ : ∃ cq, cmpN (k * 2 ^ n) x = cq ∧ (cq != 0) = true := by
    refine ⟨_, rfl, ?_⟩
    unfold cmpN
    split
    · rfl
    · split
      · rfl
      · exact absurd (show k * 2 ^ n = x by omega) hrem
  rw [hcq] at HCM
  clear hrem hcq
  go_upto_region 7 with fail
  have HF : Hid (Dn15 (.slice o1 l1 c1) true x K w w1 ∧ BigV w1 (.slice (some ⟨b, off, none⟩) lb.length cb) k K) := ⟨HS.out, HV.out⟩
  clear HS HV ha1 hck
  refine wp_region_grow 7 [(22, .val (.slice (some ⟨b, off, none⟩) lb.length cb)), (23, .val (.int .i64 (n : Nat))), (24, .big (k * 2 ^ n) (n / 32 + K + 1)), (25, .val (.pointer (some ⟨w.heap.size, 0, none⟩))), (26, .val (.slice o1 l1 c1)), (27, .val (.int .i64 cq)), (28, .val (.bool true))]
    (fun W => Dn15 (.slice o1 l1 c1) true x K w W ∧ BigV W (.slice (some ⟨b, off, none⟩) lb.length cb) k K) mixedOk (by kernel_rfl) (by kernel_rfl) (⟨HF.out.1.below (Below.refl _ _).drew, HF.out.2.below (Below.refl _ _).drew⟩) (fun W W' h hb => ⟨h.1.below hb, h.2.below hb⟩) ?_ ?_
  · refine gSt (gStep_run rfl (gRun_move 5 22 (.inl rfl) rfl (by decide +kernel) (fun v w h => h))) ?_
    refine gSt (gStep_run rfl (gRun_move 1 23 (.inl rfl) rfl (by decide +kernel) (fun v w h => h))) ?_
    refine gSt (gStep_run rfl ?_) ?_
    · intro ρ W hC hc hf hL
      have e22 : ρ (.tmp 22) = .slice (some ⟨b, off, none⟩) lb.length cb := hL 22 (by decide +kernel)
      have e23 : ρ (.tmp 23) = .int .i64 (n : Nat) := hL 23 (by decide +kernel)
      simp [go_sem, hc, hf, e22, e23]
      refine (HSH.out W hC.2).mono ?_
      rintro e w' ⟨v, rfl, hv, hb⟩
      exact ⟨_, rfl, hb, hv⟩
    refine gSt (gStep_run rfl ?_) ?_
    · intro ρ W hC hc hf hL
      have e2 : ρ (.tmp 2) = .pointer (some ⟨w.heap.size, 0, none⟩) := hL 2 (by decide +kernel)
      simp [go_sem, hc, hf, e2]
      exact ⟨Below.refl _ _, rfl⟩
    refine gSt (gStep_run rfl ?_) ?_
    · intro ρ W hC hc hf hL
      have e25 : ρ (.tmp 25) = .pointer (some ⟨w.heap.size, 0, none⟩) := hL 25 (by decide +kernel)
      have la0 := hC.1.a0
      simp [go_sem, hc, hf, e25, la0]
      exact ⟨Below.refl _ _, rfl⟩
    refine gSt (gStep_run rfl ?_) ?_
    · intro ρ W hC hc hf hL
      have b24 : BigV W (ρ (.tmp 24)) ((k * 2 ^ n)) ((n / 32 + K + 1)) := hL 24 (by decide +kernel)
      have e26 : ρ (.tmp 26) = .slice o1 l1 c1 := hL 26 (by decide +kernel)
      simp [go_sem, hc, hf, e26]
      refine (HCM.out W _ b24 hC.1.gx).mono ?_
      rintro e w' ⟨rfl, hb⟩
      exact ⟨_, rfl, by first | exact hb | (subst hb; exact Below.refl _ _), rfl⟩
    refine gSt (gStep_run rfl ?_) ?_
    · intro ρ W hC hc hf hL
      have e27 : ρ (.tmp 27) = .int .i64 cq := hL 27 (by decide +kernel)
      have hcne2 := hcne
      simp [go_sem, hc, hf, e27, hcne]
      exact ⟨Below.refl _ _, rfl⟩
    exact gSt0
  · intro W hC
    refine gFi 22 rfl ?_
    rintro _ rfl
    refine gFi 23 rfl ?_
    rintro _ rfl
    refine gFi 24 rfl ?_
    rintro u24 b24
    refine gFi 25 rfl ?_
    rintro _ rfl
    refine gFi 26 rfl ?_
    rintro _ rfl
    refine gFi 27 rfl ?_
    rintro _ rfl
    refine gFi 28 rfl ?_
    rintro _ rfl
    refine gFi0 ?_
    simp only [List.drop_succ_cons, List.drop_zero, Act.put, List.setIfInBounds_toArray, List.set_cons_succ, List.set_cons_zero]
    have HBE := hide hC.1.bel
    clear hC b24 HF
    have hk1 : IntKind.i64.wrap (((k : Nat) : Int) + 1) = ((k : Nat) : Int) + 1 := by rw [IntKind.wrap_i64]; have := HK.out; omega
    have hk2 : IntKind.i64.wrap (-(((k : Nat) : Int) + 1)) = -(((k : Nat) : Int) + 1) := by rw [IntKind.wrap_i64]; have := HK.out; omega
    go_wp2
    go_ret
    exact ⟨rfl, HBE.out⟩
    

theorem down15_any (a : Int) (n K : Nat) (va : Value) (w : World) (hx : BigV w va a.natAbs K) (hK : K ≤ 10000) (hn : n ≤ 10000) (hs : a.natAbs / 2 ^ n < 4294967295) :
    Calls Try.prog 40 #[.agg #[va, .bool (decide (a < 0))], .int .i64 (n : Nat)] w fun e w' => e = .returned (.int .i64 (a / 2 ^ n)) ∧ Below w.heap.size w w' := by
  obtain ⟨o1, l1, c1, rfl⟩ := bgs_slice hx
  obtain ⟨k, hk⟩ : ∃ k, a.natAbs / 2 ^ n = k := ⟨_, rfl⟩
  rw [hk] at hs
  have hp := Nat.two_pow_pos n
  have hdm := Nat.div_add_mod a.natAbs (2 ^ n)
  have hml := Nat.mod_lt a.natAbs hp
  rw [hk] at hdm
  have hcast : ((2 ^ n : Nat) : Int) = (2 : Int) ^ n := by simp
  by_cases ha : a < 0
  · rw [decide_eq_true ha]
    by_cases hr : k * 2 ^ n = a.natAbs
    · have e : a / 2 ^ n = -((k : Nat) : Int) := by
        have h1 : a = -((k : Nat) : Int) * (2 : Int) ^ n := by
          rw [Int.neg_mul, ← hcast, ← Int.natCast_mul, hr]; omega
        rw [h1]
        exact Int.mul_ediv_cancel _ (by rw [← hcast]; omega)
      rw [e]
      rcases Nat.eq_zero_or_pos k with h0 | h0
      · have h := down15_NZE o1 l1 c1 a.natAbs k n K hk hs h0 hr w hx hK hn
        exact h
      · exact down15_NYE o1 l1 c1 a.natAbs k n K hk hs (by omega) hr w hx hK hn
    · have e : a / 2 ^ n = -(((k : Nat) : Int) + 1) := by
        have h1 : a.natAbs % 2 ^ n ≠ 0 := by
          intro h2
          rw [h2, Nat.add_zero, Nat.mul_comm] at hdm
          exact hr hdm
        have h2 : a = ((2 ^ n - a.natAbs % 2 ^ n : Nat) : Int) + -(((k : Nat) : Int) + 1) * (2 : Int) ^ n := by
          rw [← hcast, Int.neg_mul, Int.add_mul, ← Int.natCast_mul]
          rw [Nat.mul_comm] at hdm
          omega
        rw [h2, Int.add_mul_ediv_right _ _ (by rw [← hcast]; omega), Int.ediv_eq_zero_of_lt (by omega) (by rw [← hcast]; omega)]
        omega
      rw [e]
      rcases Nat.eq_zero_or_pos k with h0 | h0
      · exact down15_NZR o1 l1 c1 a.natAbs k n K hk hs h0 hr w hx hK hn
      · exact down15_NYR o1 l1 c1 a.natAbs k n K hk hs (by omega) hr w hx hK hn
  · rw [decide_eq_false ha]
    have e : a / 2 ^ n = ((k : Nat) : Int) := by
      rw [← hk, Int.natCast_ediv, hcast, show ((a.natAbs : Nat) : Int) = a by omega]
    rw [e]
    rcases Nat.eq_zero_or_pos k with h0 | h0
    · exact down15_PZ o1 l1 c1 a.natAbs k n K hk hs h0 w hx hK hn
    · exact down15_PY o1 l1 c1 a.natAbs k n K hk hs (by omega) w hx hK hn
end Go.Proofs.Ytbngaajhdaciaaa

/- Contracts: fly.Turn; rows of ints; the other sign. -/
set_option linter.unusedVariables false
set_option linter.unusedSimpArgs false
set_option maxRecDepth 8000
namespace Go.Proofs.Ytbngaajhdaciaaa
open Go.RowKit Plain

theorem int_infoZ : (Try.prog.info? 3).map (fun i => (i.zero, i.size, i.bytes)) = some (some (.int .i64 0), 1, 8) := by kernel_rfl
theorem infoZ_rd {mk : Nat → Value} {W : World} {base : Nat} {e : TypeId} {v : Value} {n : Nat} {l : List Nat} (hl : l.length = n) (h : W.ownsRow base e 1 v n (l.map mk)) : Rd mk W v l := Rd.of_owns (by rw [hl]; exact h)
theorem ownsZ_of_block {w w' : World} {base : Nat} {e : TypeId} {size n : Nat} {v : Value} {xs : List Value} (h : w.ownsRow base e size v n xs) (hb : ∀ g, v.ownBlock = some g → w'.heap[g]? = w.heap[g]?) : w'.ownsRow base e size v n xs := by
  refine ⟨h.1, ?_⟩
  rcases h.2 with hn | ⟨g, cap, cur, rfl, hb1, hgg, rest⟩
  · exact .inl hn
  · exact .inr ⟨g, cap, cur, rfl, hb1, (hb g rfl).trans hgg, rest⟩
theorem ownsZ_below {w w' : World} {base : Nat} {e : TypeId} {size n : Nat} {v : Value} {xs : List Value} (h : w.ownsRow base e size v n xs) (hb : Below w.heap.size w w') : w'.ownsRow base e size v n xs :=
  ownsZ_of_block h fun g hg => hb.block g (h.lt g hg).2

end Go.Proofs.Ytbngaajhdaciaaa

/- What is lost by a shift that is greater than all. -/
set_option linter.unusedVariables false
set_option linter.unusedSimpArgs false
set_option maxRecDepth 8000
namespace Go.Proofs.Ytbngaajhdaciaaa
open Go.RowKit Plain

end Go.Proofs.Ytbngaajhdaciaaa

