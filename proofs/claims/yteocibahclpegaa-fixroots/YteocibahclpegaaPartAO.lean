/- Contracts and laws: RdxA, RdxC, RdxD, RdxE, RdxF, RdxG, FixA. -/
import Derived.Test.YteocibahclpegaaPartAB
import Derived.Test.YteocibahclpegaaPartAN
import Derived.Test.YteocibahclpegaaPartAM
import Derived.WalkMore
/- Contracts: radix2.restore. -/
set_option linter.unusedVariables false
set_option linter.unusedSimpArgs false
set_option maxRecDepth 8000
namespace Go.Proofs.Yteocibahclpegaa
open Go.RowKit Plain

end Go.Proofs.Yteocibahclpegaa

/- Two results in boxes; what a closure may change; radix2.Divide's closure. -/
set_option linter.unusedVariables false
set_option linter.unusedSimpArgs false
set_option maxRecDepth 8000
namespace Go.Proofs.Yteocibahclpegaa
open Go.RowKit Plain

/-- Two results of eight limbs at r1 and r2. -/
structure R2St (r1 r2 x y : Nat) (w W : World) : Prop where
  lx : LiesF W r1 (dgl x)
  fx : ∀ i, W.frozen? ⟨r1, i, none⟩ = false
  ly : LiesF W r2 (dgl y)
  fy : ∀ i, W.frozen? ⟨r2, i, none⟩ = false
  bel : Below w.heap.size w W
  o1 : w.heap.size ≤ r1
  o2 : r1 < r2
section
variable {r1 r2 x y : Nat} {w W W' : World}
theorem R2St.under (h : R2St r1 r2 x y w W) {C : Nat} (hb : Below C W W') (hc : r2 < C) : R2St r1 r2 x y w W' := by
  have h1 := h.o1
  have h2 := h.o2
  exact ⟨lies_box h.lx hb (by omega), fun i => (hb.frozen (p := ⟨r1, i, none⟩) (show r1 < C by omega)).trans (h.fx i), lies_box h.ly hb hc, fun i => (hb.frozen (p := ⟨r2, i, none⟩) hc).trans (h.fy i), h.bel.trans (hb.mono (by omega)), h.o1, h.o2⟩
theorem R2St.below (h : R2St r1 r2 x y w W) (hb : Below W.heap.size W W') : R2St r1 r2 x y w W' := h.under hb h.ly.2
theorem R2St.set1 (h : R2St r1 r2 x y w W) (z : Nat) : R2St r1 r2 z y w ((((((((W.setCell ⟨r1, 0, none⟩ (.int .u64 (dgl z 0 : Nat))).setCell ⟨r1, 1, none⟩ (.int .u64 (dgl z 1 : Nat))).setCell ⟨r1, 2, none⟩ (.int .u64 (dgl z 2 : Nat))).setCell ⟨r1, 3, none⟩ (.int .u64 (dgl z 3 : Nat))).setCell ⟨r1, 4, none⟩ (.int .u64 (dgl z 4 : Nat))).setCell ⟨r1, 5, none⟩ (.int .u64 (dgl z 5 : Nat))).setCell ⟨r1, 6, none⟩ (.int .u64 (dgl z 6 : Nat))).setCell ⟨r1, 7, none⟩ (.int .u64 (dgl z 7 : Nat))) := by
  have h1 := h.o1
  have h2 := h.o2
  exact ⟨set8_same W r1 (dgl z) (dgl x) h.lx, fun i => by simpa [go_sem] using h.fx i, lies_ne h.ly (by omega), fun i => by simpa [go_sem] using h.fy i, below_set8 h.bel _ h1 _ _ _ _ _ _ _ _, h1, h2⟩
theorem R2St.set2 (h : R2St r1 r2 x y w W) (z : Nat) : R2St r1 r2 x z w ((((((((W.setCell ⟨r2, 0, none⟩ (.int .u64 (dgl z 0 : Nat))).setCell ⟨r2, 1, none⟩ (.int .u64 (dgl z 1 : Nat))).setCell ⟨r2, 2, none⟩ (.int .u64 (dgl z 2 : Nat))).setCell ⟨r2, 3, none⟩ (.int .u64 (dgl z 3 : Nat))).setCell ⟨r2, 4, none⟩ (.int .u64 (dgl z 4 : Nat))).setCell ⟨r2, 5, none⟩ (.int .u64 (dgl z 5 : Nat))).setCell ⟨r2, 6, none⟩ (.int .u64 (dgl z 6 : Nat))).setCell ⟨r2, 7, none⟩ (.int .u64 (dgl z 7 : Nat))) := by
  have h1 := h.o1
  have h2 := h.o2
  exact ⟨lies_ne h.lx (by omega), fun i => by simpa [go_sem] using h.fx i, set8_same W r2 (dgl z) (dgl y) h.ly, fun i => by simpa [go_sem] using h.fy i, below_set8 h.bel _ (by omega) _ _ _ _ _ _ _ _, h1, h2⟩
end
theorem r2_new (w W : World) (hb : Below w.heap.size w W) (e1 e2 : TypeId) : R2St W.heap.size (W.heap.size + 1) 0 0 w ((W.alloc (.cells #[.int .u64 0, .int .u64 0, .int .u64 0, .int .u64 0, .int .u64 0, .int .u64 0, .int .u64 0, .int .u64 0] e1)).alloc (.cells #[.int .u64 0, .int .u64 0, .int .u64 0, .int .u64 0, .int .u64 0, .int .u64 0, .int .u64 0, .int .u64 0] e2)) := by
  have h1 := liesF_new W (fun _ => 0) e1
  have h2 := liesF_new (W.alloc (.cells #[.int .u64 0, .int .u64 0, .int .u64 0, .int .u64 0, .int .u64 0, .int .u64 0, .int .u64 0, .int .u64 0] e1)) (fun _ => 0) e2
  rw [World.size_alloc] at h2
  refine ⟨?_, fun i => by simp [go_sem], ?_, fun i => by simp [go_sem], below_trans (below_trans hb (below_allocs _ _)) (below_allocs _ _), hb.size, by omega⟩
  · rw [dgl_z]
    exact h1.alloc _
  · rw [dgl_z]
    exact h2

end Go.Proofs.Yteocibahclpegaa

/- Contracts: the document's quotient and remainder; radix2.May, Divide. -/
set_option linter.unusedVariables false
set_option linter.unusedSimpArgs false
set_option maxRecDepth 8000
namespace Go.Proofs.Yteocibahclpegaa
open Go.RowKit Plain

theorem rdiv_start (a b : Nat) (w : World) (e1 e2 e3 e4 : TypeId) :
    TwSt a b w ((((w.alloc (.cells #[.int .u64 (dgl (a) 0 : Nat), .int .u64 (dgl (a) 1 : Nat), .int .u64 (dgl (a) 2 : Nat), .int .u64 (dgl (a) 3 : Nat), .int .u64 (dgl (a) 4 : Nat), .int .u64 (dgl (a) 5 : Nat), .int .u64 (dgl (a) 6 : Nat), .int .u64 (dgl (a) 7 : Nat)] e1)).alloc (.cells #[.int .u64 (dgl (b) 0 : Nat), .int .u64 (dgl (b) 1 : Nat), .int .u64 (dgl (b) 2 : Nat), .int .u64 (dgl (b) 3 : Nat), .int .u64 (dgl (b) 4 : Nat), .int .u64 (dgl (b) 5 : Nat), .int .u64 (dgl (b) 6 : Nat), .int .u64 (dgl (b) 7 : Nat)] e2)).alloc (.cells #[.int .u64 0, .int .u64 0, .int .u64 0, .int .u64 0, .int .u64 0, .int .u64 0, .int .u64 0, .int .u64 0] e3)).alloc (.cells #[.int .u64 0, .int .u64 0, .int .u64 0, .int .u64 0, .int .u64 0, .int .u64 0, .int .u64 0, .int .u64 0] e4)) ∧
    R2St (w.heap.size + 2) (w.heap.size + 3) 0 0 w ((((w.alloc (.cells #[.int .u64 (dgl (a) 0 : Nat), .int .u64 (dgl (a) 1 : Nat), .int .u64 (dgl (a) 2 : Nat), .int .u64 (dgl (a) 3 : Nat), .int .u64 (dgl (a) 4 : Nat), .int .u64 (dgl (a) 5 : Nat), .int .u64 (dgl (a) 6 : Nat), .int .u64 (dgl (a) 7 : Nat)] e1)).alloc (.cells #[.int .u64 (dgl (b) 0 : Nat), .int .u64 (dgl (b) 1 : Nat), .int .u64 (dgl (b) 2 : Nat), .int .u64 (dgl (b) 3 : Nat), .int .u64 (dgl (b) 4 : Nat), .int .u64 (dgl (b) 5 : Nat), .int .u64 (dgl (b) 6 : Nat), .int .u64 (dgl (b) 7 : Nat)] e2)).alloc (.cells #[.int .u64 0, .int .u64 0, .int .u64 0, .int .u64 0, .int .u64 0, .int .u64 0, .int .u64 0, .int .u64 0] e3)).alloc (.cells #[.int .u64 0, .int .u64 0, .int .u64 0, .int .u64 0, .int .u64 0, .int .u64 0, .int .u64 0, .int .u64 0] e4)) := by
  have h := twSt_start a b w e1 e2
  have h2 := r2_new w _ h.bel e3 e4
  rw [World.size_alloc, World.size_alloc] at h2
  exact ⟨(h.below (below_allocs _ _)).below (below_allocs _ _), h2⟩

set_option maxHeartbeats 4000000 in
theorem rdivide_walk (n d q x r : Nat) (b1 b2 : Bool)
    (HBN : Hid (∀ w, Calls Try.prog 19 #[.agg #[.int .u64 (dgl (n) 0 : Nat), .int .u64 (dgl (n) 1 : Nat), .int .u64 (dgl (n) 2 : Nat), .int .u64 (dgl (n) 3 : Nat), .int .u64 (dgl (n) 4 : Nat), .int .u64 (dgl (n) 5 : Nat), .int .u64 (dgl (n) 6 : Nat), .int .u64 (dgl (n) 7 : Nat)]] w fun e w' => ∃ v, e = .returned v ∧ BigV w' v n 40 ∧ Below w.heap.size w w'))
    (HBD : Hid (∀ w, Calls Try.prog 19 #[.agg #[.int .u64 (dgl (d) 0 : Nat), .int .u64 (dgl (d) 1 : Nat), .int .u64 (dgl (d) 2 : Nat), .int .u64 (dgl (d) 3 : Nat), .int .u64 (dgl (d) 4 : Nat), .int .u64 (dgl (d) 5 : Nat), .int .u64 (dgl (d) 6 : Nat), .int .u64 (dgl (d) 7 : Nat)]] w fun e w' => ∃ v, e = .returned v ∧ BigV w' v d 40 ∧ Below w.heap.size w w'))
    (HQU : Hid (∀ u v w, BigV w u (n) 40 → BigV w v (d) 40 → Calls Try.prog 52 #[u, v] w fun e w' => ∃ v', e = .returned v' ∧ BigV w' v' (q) 200 ∧ Below w.heap.size w w'))
    (HWQ : Hid (∀ u w, BigV w u (q) 200 → Calls Try.prog 34 #[u] w fun e w' => e = .returned (.tuple #[.agg #[.int .u64 (dgl (q) 0 : Nat), .int .u64 (dgl (q) 1 : Nat), .int .u64 (dgl (q) 2 : Nat), .int .u64 (dgl (q) 3 : Nat), .int .u64 (dgl (q) 4 : Nat), .int .u64 (dgl (q) 5 : Nat), .int .u64 (dgl (q) 6 : Nat), .int .u64 (dgl (q) 7 : Nat)], .bool b1]) ∧ Below w.heap.size w w'))
    (HMU : Hid (∀ u v w, BigV w u (q) 200 → BigV w v (d) 40 → Calls Try.prog 17 #[u, v] w fun e w' => ∃ v', e = .returned v' ∧ BigV w' v' (x) 240 ∧ Below w.heap.size w w'))
    (HSB : Hid (∀ u v w, BigV w u (n) 40 → BigV w v (x) 240 → Calls Try.prog 39 #[u, v] w fun e w' => ∃ v', e = .returned v' ∧ BigV w' v' (r) 40 ∧ Below w.heap.size w w'))
    (HWR : Hid (∀ u w, BigV w u (r) 40 → Calls Try.prog 34 #[u] w fun e w' => e = .returned (.tuple #[.agg #[.int .u64 (dgl (r) 0 : Nat), .int .u64 (dgl (r) 1 : Nat), .int .u64 (dgl (r) 2 : Nat), .int .u64 (dgl (r) 3 : Nat), .int .u64 (dgl (r) 4 : Nat), .int .u64 (dgl (r) 5 : Nat), .int .u64 (dgl (r) 6 : Nat), .int .u64 (dgl (r) 7 : Nat)], .bool b2]) ∧ Below w.heap.size w w')) (w : World) :
    Calls Try.prog 24 #[.agg #[.int .u64 (dgl (n) 0 : Nat), .int .u64 (dgl (n) 1 : Nat), .int .u64 (dgl (n) 2 : Nat), .int .u64 (dgl (n) 3 : Nat), .int .u64 (dgl (n) 4 : Nat), .int .u64 (dgl (n) 5 : Nat), .int .u64 (dgl (n) 6 : Nat), .int .u64 (dgl (n) 7 : Nat)], .agg #[.int .u64 (dgl (d) 0 : Nat), .int .u64 (dgl (d) 1 : Nat), .int .u64 (dgl (d) 2 : Nat), .int .u64 (dgl (d) 3 : Nat), .int .u64 (dgl (d) 4 : Nat), .int .u64 (dgl (d) 5 : Nat), .int .u64 (dgl (d) 6 : Nat), .int .u64 (dgl (d) 7 : Nat)]] w fun e w' => e = .returned (.tuple #[.agg #[.int .u64 (dgl (q) 0 : Nat), .int .u64 (dgl (q) 1 : Nat), .int .u64 (dgl (q) 2 : Nat), .int .u64 (dgl (q) 3 : Nat), .int .u64 (dgl (q) 4 : Nat), .int .u64 (dgl (q) 5 : Nat), .int .u64 (dgl (q) 6 : Nat), .int .u64 (dgl (q) 7 : Nat)], .agg #[.int .u64 (dgl (r) 0 : Nat), .int .u64 (dgl (r) 1 : Nat), .int .u64 (dgl (r) 2 : Nat), .int .u64 (dgl (r) 3 : Nat), .int .u64 (dgl (r) 4 : Nat), .int .u64 (dgl (r) 5 : Nat), .int .u64 (dgl (r) 6 : Nat), .int .u64 (dgl (r) 7 : Nat)]]) ∧ Below w.heap.size w w' := by
  have HS := hide (rdiv_start n d w 32 32 32 32)
  go_enter Try.func24, Try.ntmps24
  go_upto_region 1 with fail
  refine wp_gen (fun W => TwSt n d w W ∧ R2St (w.heap.size + 2) (w.heap.size + 3) 0 0 w W) HS.out ?_
  clear HS
  rintro W1 h1
  refine wp_region_grow 6 [(13, .val (.agg #[.int .u64 (dgl (n) 0 : Nat), .int .u64 (dgl (n) 1 : Nat), .int .u64 (dgl (n) 2 : Nat), .int .u64 (dgl (n) 3 : Nat), .int .u64 (dgl (n) 4 : Nat), .int .u64 (dgl (n) 5 : Nat), .int .u64 (dgl (n) 6 : Nat), .int .u64 (dgl (n) 7 : Nat)])), (14, .big n 40), (15, .val (.agg #[.int .u64 (dgl (d) 0 : Nat), .int .u64 (dgl (d) 1 : Nat), .int .u64 (dgl (d) 2 : Nat), .int .u64 (dgl (d) 3 : Nat), .int .u64 (dgl (d) 4 : Nat), .int .u64 (dgl (d) 5 : Nat), .int .u64 (dgl (d) 6 : Nat), .int .u64 (dgl (d) 7 : Nat)])), (16, .big d 40), (6, .big n 40), (7, .big d 40)]
    (fun W => TwSt n d w W ∧ R2St (w.heap.size + 2) (w.heap.size + 3) 0 0 w W) mixedOk (by kernel_rfl) (by kernel_rfl) (⟨h1.1.below (Below.refl _ _).drew, h1.2.below (Below.refl _ _).drew⟩) (fun W W' h hb => ⟨h.1.below hb, h.2.below hb⟩) ?_ ?_
  · refine gSt (gStep_run rfl ?_) ?_
    · intro ρ W hC hc hf hL
      have e2 : ρ (.tmp 2) = .pointer (some ⟨w.heap.size, 0, none⟩) := hL 2 (by decide +kernel)
      have hl := hC.1.la.1
      simp [go_sem, hc, hf, e2, hl]
      exact ⟨Below.refl _ _, rfl⟩
    refine gSt (gStep_run rfl ?_) ?_
    · intro ρ W hC hc hf hL
      have e13 : ρ (.tmp 13) = .agg #[.int .u64 (dgl (n) 0 : Nat), .int .u64 (dgl (n) 1 : Nat), .int .u64 (dgl (n) 2 : Nat), .int .u64 (dgl (n) 3 : Nat), .int .u64 (dgl (n) 4 : Nat), .int .u64 (dgl (n) 5 : Nat), .int .u64 (dgl (n) 6 : Nat), .int .u64 (dgl (n) 7 : Nat)] := hL 13 (by decide +kernel)
      simp [go_sem, hc, hf, e13]
      refine (HBN.out W).mono ?_
      rintro e w' ⟨v, rfl, hv, hb⟩
      exact ⟨_, rfl, hb, hv⟩
    refine gSt (gStep_run rfl ?_) ?_
    · intro ρ W hC hc hf hL
      have e3 : ρ (.tmp 3) = .pointer (some ⟨w.heap.size + 1, 0, none⟩) := hL 3 (by decide +kernel)
      have hl := hC.1.lb.1
      simp [go_sem, hc, hf, e3, hl]
      exact ⟨Below.refl _ _, rfl⟩
    refine gSt (gStep_run rfl ?_) ?_
    · intro ρ W hC hc hf hL
      have e15 : ρ (.tmp 15) = .agg #[.int .u64 (dgl (d) 0 : Nat), .int .u64 (dgl (d) 1 : Nat), .int .u64 (dgl (d) 2 : Nat), .int .u64 (dgl (d) 3 : Nat), .int .u64 (dgl (d) 4 : Nat), .int .u64 (dgl (d) 5 : Nat), .int .u64 (dgl (d) 6 : Nat), .int .u64 (dgl (d) 7 : Nat)] := hL 15 (by decide +kernel)
      simp [go_sem, hc, hf, e15]
      refine (HBD.out W).mono ?_
      rintro e w' ⟨v, rfl, hv, hb⟩
      exact ⟨_, rfl, hb, hv⟩
    refine gSt (gStep_run rfl (gRun_move 14 6 (.inr rfl) rfl (by decide +kernel) (fun v w h => h))) ?_
    refine gSt (gStep_run rfl (gRun_move 16 7 (.inr rfl) rfl (by decide +kernel) (fun v w h => h))) ?_
    exact gSt0
  · intro W hC
    refine gFi 13 rfl ?_
    rintro _ rfl
    refine gFi 14 rfl ?_
    rintro u14 b14
    refine gFi 15 rfl ?_
    rintro _ rfl
    refine gFi 16 rfl ?_
    rintro u16 b16
    refine gFi 6 rfl ?_
    rintro u6 b6
    refine gFi 7 rfl ?_
    rintro u7 b7
    refine gFi0 ?_
    simp only [List.drop_succ_cons, List.drop_zero, Act.put, List.setIfInBounds_toArray, List.set_cons_succ, List.set_cons_zero]
    have HS := hide hC
    clear hC h1
    go_wp2_with fail
    refine (HQU.out _ _ _ b6 b7).mono ?_
    rintro e w2 ⟨vq, rfl, hvq, hb2⟩
    replace b6 := BigV.below b6 hb2
    replace b7 := BigV.below b7 hb2
    replace HS := hide (show TwSt n d w w2 ∧ R2St (w.heap.size + 2) (w.heap.size + 3) 0 0 w w2 from ⟨HS.out.1.below hb2, HS.out.2.below hb2⟩)
    clear hb2
    go_wp2_with fail
    refine (HWQ.out _ _ hvq).mono ?_
    rintro e w3 ⟨rfl, hb3⟩
    replace b6 := BigV.below b6 hb3
    replace b7 := BigV.below b7 hb3
    replace hvq := BigV.below hvq hb3
    replace HS := hide (show TwSt n d w w3 ∧ R2St (w.heap.size + 2) (w.heap.size + 3) 0 0 w w3 from ⟨HS.out.1.below hb3, HS.out.2.below hb3⟩)
    clear hb3
    go_upto_region 4 with fail
    refine wp_gen (fun W => R2St (w.heap.size + 2) (w.heap.size + 3) 0 0 w W ∧ LiesF W w3.heap.size (dgl q) ∧ Below w3.heap.size w3 W) ⟨HS.out.2.below (below_allocs _ _), liesF_new _ _ _, below_allocs _ _⟩ ?_
    have HP9 := hide HS.out.2.ly.2
    clear HS
    rintro W3 h3
    have hb3 := h3.2.2
    replace b6 := BigV.below b6 hb3
    replace b7 := BigV.below b7 hb3
    replace hvq := BigV.below hvq hb3
    have HS := hide (show R2St (w.heap.size + 2) (w.heap.size + 3) 0 0 w W3 ∧ LiesF W3 w3.heap.size (dgl q) from ⟨h3.1, h3.2.1⟩)
    clear h3 hb3
    generalize w3.heap.size = p9 at *
    go_wp2_with fail
    refine (HMU.out _ _ _ hvq b7).mono ?_
    rintro e w4 ⟨vx, rfl, hvx, hb4⟩
    replace b6 := BigV.below b6 hb4
    replace HS := hide (show R2St (w.heap.size + 2) (w.heap.size + 3) 0 0 w w4 ∧ LiesF w4 p9 (dgl q) from ⟨HS.out.1.below hb4, HS.out.2.below hb4⟩)
    clear hb4 b7 hvq
    go_wp2_with fail
    refine (HSB.out _ _ _ b6 hvx).mono ?_
    rintro e w5 ⟨vr, rfl, hvr, hb5⟩
    replace HS := hide (show R2St (w.heap.size + 2) (w.heap.size + 3) 0 0 w w5 ∧ LiesF w5 p9 (dgl q) from ⟨HS.out.1.below hb5, HS.out.2.below hb5⟩)
    clear hb5 b6 hvx
    go_wp2_with fail
    refine (HWR.out _ _ hvr).mono ?_
    rintro e w6 ⟨rfl, hb6⟩
    replace HS := hide (show R2St (w.heap.size + 2) (w.heap.size + 3) 0 0 w w6 ∧ LiesF w6 p9 (dgl q) from ⟨HS.out.1.below hb6, HS.out.2.below hb6⟩)
    clear hb6 hvr
    go_upto_region 5 with fail
    refine wp_gen (fun W => R2St (w.heap.size + 2) (w.heap.size + 3) 0 0 w W ∧ LiesF W p9 (dgl q) ∧ LiesF W w6.heap.size (dgl r)) ⟨HS.out.1.below (below_allocs _ _), HS.out.2.below (below_allocs _ _), liesF_new _ _ _⟩ ?_
    have HNE := hide (show w.heap.size + 3 < p9 ∧ w.heap.size + 3 < w6.heap.size from ⟨HP9.out, HS.out.1.ly.2⟩)
    clear HS HP9
    generalize w6.heap.size = p11 at *
    rintro W5 h5
    have HS5 := hide h5
    clear h5
    refine wp_region_storeK 4 [2, 3] [34, 35] (fun bs => [(34, .val (.agg #[.int .u64 (dgl (q) 0 : Nat), .int .u64 (dgl (q) 1 : Nat), .int .u64 (dgl (q) 2 : Nat), .int .u64 (dgl (q) 3 : Nat), .int .u64 (dgl (q) 4 : Nat), .int .u64 (dgl (q) 5 : Nat), .int .u64 (dgl (q) 6 : Nat), .int .u64 (dgl (q) 7 : Nat)])), (35, .val (.agg #[.int .u64 (dgl (r) 0 : Nat), .int .u64 (dgl (r) 1 : Nat), .int .u64 (dgl (r) 2 : Nat), .int .u64 (dgl (r) 3 : Nat), .int .u64 (dgl (r) 4 : Nat), .int .u64 (dgl (r) 5 : Nat), .int .u64 (dgl (r) 6 : Nat), .int .u64 (dgl (r) 7 : Nat)]))])
      (fun bs W => (∀ c e, bs.headD false = c → bs.tail.headD false = e → R2St (w.heap.size + 2) (w.heap.size + 3) (bif c then q else 0) (bif e then r else 0) w W) ∧ LiesF W p9 (dgl (q)) ∧ LiesF W p11 (dgl (r))) (fun bs => rfl) mixedOk (by kernel_rfl) (by kernel_rfl) (by kernel_rfl) (⟨fun c e hc he => by subst hc; subst he; exact (HS5.out).1.below (Below.refl _ _).drew, (HS5.out).2.1.below (Below.refl _ _).drew, (HS5.out).2.2.below (Below.refl _ _).drew⟩) (fun bs W W' h hb => ⟨fun c e hc he => (h.1 c e hc he).below hb, h.2.1.below hb, h.2.2.below hb⟩) ?_ ?_
    · refine kSt rfl (fun φ hφ => gStep_run rfl ?_) ?_
      · intro ρ W hC hc hf hL
        have e9 : ρ (.tmp 9) = .pointer (some ⟨p9, 0, none⟩) := hL 9 (by decide +kernel)
        have hl := hC.2.1.1
        simp [go_sem, hc, hf, e9, hl]
        exact ⟨Below.refl _ _, rfl⟩
      refine kSt rfl (fun φ hφ => gStep_run rfl ?_) ?_
      · intro ρ W hC hc hf hL
        have e11 : ρ (.tmp 11) = .pointer (some ⟨p11, 0, none⟩) := hL 11 (by decide +kernel)
        have hl := hC.2.2.1
        simp [go_sem, hc, hf, e11, hl]
        exact ⟨Below.refl _ _, rfl⟩
      refine kStS rfl ⟨rfl, rfl, ?_⟩ ?_
      · intro φ ρ W hφ hC hc hL
        have e4 : ρ (.tmp 4) = .pointer (some ⟨w.heap.size + 2, 0, none⟩) := hL 4 (by decide +kernel)
        have e34 : ρ (.tmp 34) = .agg #[.int .u64 (dgl (q) 0 : Nat), .int .u64 (dgl (q) 1 : Nat), .int .u64 (dgl (q) 2 : Nat), .int .u64 (dgl (q) 3 : Nat), .int .u64 (dgl (q) 4 : Nat), .int .u64 (dgl (q) 5 : Nat), .int .u64 (dgl (q) 6 : Nat), .int .u64 (dgl (q) 7 : Nat)] := hL 34 (by decide +kernel)
        have g : R2St (w.heap.size + 2) (w.heap.size + 3) 0 (bif φ 3 then r else 0) w W := hC.1 false (φ 3) (by simp [hφ]) rfl
        have hz := g.lx.1
        have hzl := g.lx.2
        have hzf := g.fx
        have hne := HNE.out
        refine gUpon_of ((((((((W.setCell ⟨w.heap.size + 2, 0, none⟩ (.int .u64 (dgl (q) 0 : Nat))).setCell ⟨w.heap.size + 2, 1, none⟩ (.int .u64 (dgl (q) 1 : Nat))).setCell ⟨w.heap.size + 2, 2, none⟩ (.int .u64 (dgl (q) 2 : Nat))).setCell ⟨w.heap.size + 2, 3, none⟩ (.int .u64 (dgl (q) 3 : Nat))).setCell ⟨w.heap.size + 2, 4, none⟩ (.int .u64 (dgl (q) 4 : Nat))).setCell ⟨w.heap.size + 2, 5, none⟩ (.int .u64 (dgl (q) 5 : Nat))).setCell ⟨w.heap.size + 2, 6, none⟩ (.int .u64 (dgl (q) 6 : Nat))).setCell ⟨w.heap.size + 2, 7, none⟩ (.int .u64 (dgl (q) 7 : Nat))) ?_ (fun _ => ?_)
        · simp [go_sem, hc, e4, e34, hz, hzl, hzf, gUpon]
        refine ⟨⟨fun c e hc he => ?_, lies_ne hC.2.1 (by omega), lies_ne hC.2.2 (by omega)⟩, fun t => ?_⟩
        · have hc1 : c = true := by rw [← hc]; simp
          have he1 : e = (φ 3) := by rw [← he]; simp
          subst hc1
          subst he1
          exact g.set1 _
        refine (tbl_imp rfl (fun _ => val_imp) (tbl_imp rfl (fun _ => val_imp) tbl_nil_imp))
      refine kStS rfl ⟨rfl, rfl, ?_⟩ ?_
      · intro φ ρ W hφ hC hc hL
        have e5 : ρ (.tmp 5) = .pointer (some ⟨w.heap.size + 3, 0, none⟩) := hL 5 (by decide +kernel)
        have e35 : ρ (.tmp 35) = .agg #[.int .u64 (dgl (r) 0 : Nat), .int .u64 (dgl (r) 1 : Nat), .int .u64 (dgl (r) 2 : Nat), .int .u64 (dgl (r) 3 : Nat), .int .u64 (dgl (r) 4 : Nat), .int .u64 (dgl (r) 5 : Nat), .int .u64 (dgl (r) 6 : Nat), .int .u64 (dgl (r) 7 : Nat)] := hL 35 (by decide +kernel)
        have g : R2St (w.heap.size + 2) (w.heap.size + 3) (bif φ 2 then q else 0) 0 w W := hC.1 (φ 2) false rfl (by simp [hφ])
        have hz := g.ly.1
        have hzl := g.ly.2
        have hzf := g.fy
        have hne := HNE.out
        refine gUpon_of ((((((((W.setCell ⟨w.heap.size + 3, 0, none⟩ (.int .u64 (dgl (r) 0 : Nat))).setCell ⟨w.heap.size + 3, 1, none⟩ (.int .u64 (dgl (r) 1 : Nat))).setCell ⟨w.heap.size + 3, 2, none⟩ (.int .u64 (dgl (r) 2 : Nat))).setCell ⟨w.heap.size + 3, 3, none⟩ (.int .u64 (dgl (r) 3 : Nat))).setCell ⟨w.heap.size + 3, 4, none⟩ (.int .u64 (dgl (r) 4 : Nat))).setCell ⟨w.heap.size + 3, 5, none⟩ (.int .u64 (dgl (r) 5 : Nat))).setCell ⟨w.heap.size + 3, 6, none⟩ (.int .u64 (dgl (r) 6 : Nat))).setCell ⟨w.heap.size + 3, 7, none⟩ (.int .u64 (dgl (r) 7 : Nat))) ?_ (fun _ => ?_)
        · simp [go_sem, hc, e5, e35, hz, hzl, hzf, gUpon]
        refine ⟨⟨fun c e hc he => ?_, lies_ne hC.2.1 (by omega), lies_ne hC.2.2 (by omega)⟩, fun t => ?_⟩
        · have hc1 : c = (φ 2) := by rw [← hc]; simp
          have he1 : e = true := by rw [← he]; simp
          subst hc1
          subst he1
          exact g.set2 _
        refine (tbl_imp rfl (fun _ => val_imp) (tbl_imp rfl (fun _ => val_imp) tbl_nil_imp))
      exact kSt0
    · intro W hC
      refine gFi 34 rfl ?_
      rintro _ rfl
      refine gFi 35 rfl ?_
      rintro _ rfl
      refine gFiN rfl ?_
      refine gFiN rfl ?_
      refine gFi0 ?_
      simp only [List.drop_succ_cons, List.drop_zero, Act.put, List.setIfInBounds_toArray, List.set_cons_succ, List.set_cons_zero]
      have HS := hide (hC.1 true true rfl rfl)
      clear hC
      have hr1 := HS.out.lx.1
      have hrl1 := HS.out.lx.2
      have hrf1 := HS.out.fx
      have hr2 := HS.out.ly.1
      have hrl2 := HS.out.ly.2
      have hrf2 := HS.out.fy
      have HBE := hide HS.out.bel
      have HO1 := hide HS.out.o1
      have HO2 := hide HS.out.o2
      clear HS
      go_wp2
      exact bodyPost_ret (v := .tuple #[.agg #[.int .u64 (dgl (q) 0 : Nat), .int .u64 (dgl (q) 1 : Nat), .int .u64 (dgl (q) 2 : Nat), .int .u64 (dgl (q) 3 : Nat), .int .u64 (dgl (q) 4 : Nat), .int .u64 (dgl (q) 5 : Nat), .int .u64 (dgl (q) 6 : Nat), .int .u64 (dgl (q) 7 : Nat)], .agg #[.int .u64 (dgl (r) 0 : Nat), .int .u64 (dgl (r) 1 : Nat), .int .u64 (dgl (r) 2 : Nat), .int .u64 (dgl (r) 3 : Nat), .int .u64 (dgl (r) 4 : Nat), .int .u64 (dgl (r) 5 : Nat), .int .u64 (dgl (r) 6 : Nat), .int .u64 (dgl (r) 7 : Nat)]]) (by simp [results, Try.results24, go_sem, hr1, hrl1, hr2, hrl2]) rfl ⟨rfl, HBE.out⟩
      
    

theorem refDivide_any (n d : Nat) (hn : n < QQ) (hd : d < QQ) (h0 : 0 < d) (hq : n / d < 2 ^ 131) (w : World) :
    Calls Try.prog 24 #[.agg #[.int .u64 (dgl (n) 0 : Nat), .int .u64 (dgl (n) 1 : Nat), .int .u64 (dgl (n) 2 : Nat), .int .u64 (dgl (n) 3 : Nat), .int .u64 (dgl (n) 4 : Nat), .int .u64 (dgl (n) 5 : Nat), .int .u64 (dgl (n) 6 : Nat), .int .u64 (dgl (n) 7 : Nat)], .agg #[.int .u64 (dgl (d) 0 : Nat), .int .u64 (dgl (d) 1 : Nat), .int .u64 (dgl (d) 2 : Nat), .int .u64 (dgl (d) 3 : Nat), .int .u64 (dgl (d) 4 : Nat), .int .u64 (dgl (d) 5 : Nat), .int .u64 (dgl (d) 6 : Nat), .int .u64 (dgl (d) 7 : Nat)]] w fun e w' => e = .returned (.tuple #[.agg #[.int .u64 (dgl (n / d) 0 : Nat), .int .u64 (dgl (n / d) 1 : Nat), .int .u64 (dgl (n / d) 2 : Nat), .int .u64 (dgl (n / d) 3 : Nat), .int .u64 (dgl (n / d) 4 : Nat), .int .u64 (dgl (n / d) 5 : Nat), .int .u64 (dgl (n / d) 6 : Nat), .int .u64 (dgl (n / d) 7 : Nat)], .agg #[.int .u64 (dgl (n % d) 0 : Nat), .int .u64 (dgl (n % d) 1 : Nat), .int .u64 (dgl (n % d) 2 : Nat), .int .u64 (dgl (n % d) 3 : Nat), .int .u64 (dgl (n % d) 4 : Nat), .int .u64 (dgl (n % d) 5 : Nat), .int .u64 (dgl (n % d) 6 : Nat), .int .u64 (dgl (n % d) 7 : Nat)]]) ∧ Below w.heap.size w w' :=
  rdivide_walk n d (n / d) (n / d * d) (n % d) (decide (QQ ≤ n / d)) (decide (QQ ≤ n % d)) (fun w => refBig_any n hn w) (fun w => refBig_any d hd w)
    (fun u v w hu hv => refQuotient_any n d 40 40 u v (by decide) (by decide) h0 hq w hu hv) (fun u w hu => refWide_any (n / d) 200 u w hu)
    (fun u v w hu hv => refMul_any (n / d) d 200 40 u v w hu hv (by decide) (by decide))
    (fun u v w hu hv => (refSub_any n (n / d * d) 40 240 u v w hu hv (by decide) (Nat.div_mul_le_self n d)).mono fun e w' ⟨v', e1, e2, e3⟩ => ⟨v', e1, by rw [← leftN_zero]; unfold leftN; rw [hiN_zero]; exact e2, e3⟩)
    (fun u w hu => refWide_any (n % d) 40 u w hu) w

set_option maxHeartbeats 2000000 in
theorem pmay_Z (n d L s : Nat) (q : Int)
    (HZ : ∀ w, (Op.equalIn 10000 32 (.agg #[.int .u64 (dgl (d) 0 : Nat), .int .u64 (dgl (d) 1 : Nat), .int .u64 (dgl (d) 2 : Nat), .int .u64 (dgl (d) 3 : Nat), .int .u64 (dgl (d) 4 : Nat), .int .u64 (dgl (d) 5 : Nat), .int .u64 (dgl (d) 6 : Nat), .int .u64 (dgl (d) 7 : Nat)]) (.agg #[.int .u64 0, .int .u64 0, .int .u64 0, .int .u64 0, .int .u64 0, .int .u64 0, .int .u64 0, .int .u64 0])).run Try.prog w = .ok true w) (w : World) :
    Calls Try.prog 54 #[.agg #[.int .u64 (dgl (n) 0 : Nat), .int .u64 (dgl (n) 1 : Nat), .int .u64 (dgl (n) 2 : Nat), .int .u64 (dgl (n) 3 : Nat), .int .u64 (dgl (n) 4 : Nat), .int .u64 (dgl (n) 5 : Nat), .int .u64 (dgl (n) 6 : Nat), .int .u64 (dgl (n) 7 : Nat)], .agg #[.int .u64 (dgl (d) 0 : Nat), .int .u64 (dgl (d) 1 : Nat), .int .u64 (dgl (d) 2 : Nat), .int .u64 (dgl (d) 3 : Nat), .int .u64 (dgl (d) 4 : Nat), .int .u64 (dgl (d) 5 : Nat), .int .u64 (dgl (d) 6 : Nat), .int .u64 (dgl (d) 7 : Nat)]] w fun e w' => e = .returned (.int .i64 5) ∧ Below w.heap.size w w' := by
  have HS := hide (twSt_start n d w 32 32)
  go_enter Try.func54, Try.ntmps54
  have hlb := HS.out.lb.1
  have HB := hide HS.out.bel
  clear HS
  go_wp2
  go_ret
  exact ⟨rfl, HB.out⟩

set_option maxHeartbeats 2000000 in
theorem pmay_B (n d L s : Nat) (q : Int)
    (HZ : ∀ w, (Op.equalIn 10000 32 (.agg #[.int .u64 (dgl (d) 0 : Nat), .int .u64 (dgl (d) 1 : Nat), .int .u64 (dgl (d) 2 : Nat), .int .u64 (dgl (d) 3 : Nat), .int .u64 (dgl (d) 4 : Nat), .int .u64 (dgl (d) 5 : Nat), .int .u64 (dgl (d) 6 : Nat), .int .u64 (dgl (d) 7 : Nat)]) (.agg #[.int .u64 0, .int .u64 0, .int .u64 0, .int .u64 0, .int .u64 0, .int .u64 0, .int .u64 0, .int .u64 0])).run Try.prog w = .ok false w)
    (HLN : Hid (∀ w, Calls Try.prog 46 #[.agg #[.int .u64 (dgl (d) 0 : Nat), .int .u64 (dgl (d) 1 : Nat), .int .u64 (dgl (d) 2 : Nat), .int .u64 (dgl (d) 3 : Nat), .int .u64 (dgl (d) 4 : Nat), .int .u64 (dgl (d) 5 : Nat), .int .u64 (dgl (d) 6 : Nat), .int .u64 (dgl (d) 7 : Nat)]] w fun e w' => e = .returned (.int .i64 ((L : Nat) : Int)) ∧ Below w.heap.size w w'))
    (hL : 120 < L) (w : World) :
    Calls Try.prog 54 #[.agg #[.int .u64 (dgl (n) 0 : Nat), .int .u64 (dgl (n) 1 : Nat), .int .u64 (dgl (n) 2 : Nat), .int .u64 (dgl (n) 3 : Nat), .int .u64 (dgl (n) 4 : Nat), .int .u64 (dgl (n) 5 : Nat), .int .u64 (dgl (n) 6 : Nat), .int .u64 (dgl (n) 7 : Nat)], .agg #[.int .u64 (dgl (d) 0 : Nat), .int .u64 (dgl (d) 1 : Nat), .int .u64 (dgl (d) 2 : Nat), .int .u64 (dgl (d) 3 : Nat), .int .u64 (dgl (d) 4 : Nat), .int .u64 (dgl (d) 5 : Nat), .int .u64 (dgl (d) 6 : Nat), .int .u64 (dgl (d) 7 : Nat)]] w fun e w' => e = .returned (.int .i64 4) ∧ Below w.heap.size w w' := by
  have HS := hide (twSt_start n d w 32 32)
  have hl1 : (120 : Int) < (L : Int) := by omega
  clear hL
  go_enter Try.func54, Try.ntmps54
  have hlb := HS.out.lb.1
  go_wp2_with fail
  refine (HLN.out _).mono ?_
  rintro e w1 ⟨rfl, hb1⟩
  replace HS := hide (HS.out.below hb1)
  clear hb1 hlb
  have HB := hide HS.out.bel
  clear HS
  go_wp2
  go_ret
  exact ⟨rfl, HB.out⟩

set_option maxHeartbeats 2000000 in
theorem pmay_G (n d L s : Nat) (q : Int)
    (HZ : ∀ w, (Op.equalIn 10000 32 (.agg #[.int .u64 (dgl (d) 0 : Nat), .int .u64 (dgl (d) 1 : Nat), .int .u64 (dgl (d) 2 : Nat), .int .u64 (dgl (d) 3 : Nat), .int .u64 (dgl (d) 4 : Nat), .int .u64 (dgl (d) 5 : Nat), .int .u64 (dgl (d) 6 : Nat), .int .u64 (dgl (d) 7 : Nat)]) (.agg #[.int .u64 0, .int .u64 0, .int .u64 0, .int .u64 0, .int .u64 0, .int .u64 0, .int .u64 0, .int .u64 0])).run Try.prog w = .ok false w)
    (HLN : Hid (∀ w, Calls Try.prog 46 #[.agg #[.int .u64 (dgl (d) 0 : Nat), .int .u64 (dgl (d) 1 : Nat), .int .u64 (dgl (d) 2 : Nat), .int .u64 (dgl (d) 3 : Nat), .int .u64 (dgl (d) 4 : Nat), .int .u64 (dgl (d) 5 : Nat), .int .u64 (dgl (d) 6 : Nat), .int .u64 (dgl (d) 7 : Nat)]] w fun e w' => e = .returned (.int .i64 ((L : Nat) : Int)) ∧ Below w.heap.size w w'))
    (hL : L ≤ 120)
    (HSH : Hid (∀ w, Calls Try.prog 78 #[.agg #[.int .u64 (dgl (d) 0 : Nat), .int .u64 (dgl (d) 1 : Nat), .int .u64 (dgl (d) 2 : Nat), .int .u64 (dgl (d) 3 : Nat), .int .u64 (dgl (d) 4 : Nat), .int .u64 (dgl (d) 5 : Nat), .int .u64 (dgl (d) 6 : Nat), .int .u64 (dgl (d) 7 : Nat)], .int .i64 128] w fun e w' => e = .returned (.agg #[.int .u64 (dgl (s) 0 : Nat), .int .u64 (dgl (s) 1 : Nat), .int .u64 (dgl (s) 2 : Nat), .int .u64 (dgl (s) 3 : Nat), .int .u64 (dgl (s) 4 : Nat), .int .u64 (dgl (s) 5 : Nat), .int .u64 (dgl (s) 6 : Nat), .int .u64 (dgl (s) 7 : Nat)]) ∧ Below w.heap.size w w'))
    (HCM : Hid (∀ w, Calls Try.prog 65 #[.agg #[.int .u64 (dgl (n) 0 : Nat), .int .u64 (dgl (n) 1 : Nat), .int .u64 (dgl (n) 2 : Nat), .int .u64 (dgl (n) 3 : Nat), .int .u64 (dgl (n) 4 : Nat), .int .u64 (dgl (n) 5 : Nat), .int .u64 (dgl (n) 6 : Nat), .int .u64 (dgl (n) 7 : Nat)], .agg #[.int .u64 (dgl (s) 0 : Nat), .int .u64 (dgl (s) 1 : Nat), .int .u64 (dgl (s) 2 : Nat), .int .u64 (dgl (s) 3 : Nat), .int .u64 (dgl (s) 4 : Nat), .int .u64 (dgl (s) 5 : Nat), .int .u64 (dgl (s) 6 : Nat), .int .u64 (dgl (s) 7 : Nat)]] w fun e w' => e = .returned (.int .i64 q) ∧ Below w.heap.size w w'))
    (hq : 0 ≤ q) (w : World) :
    Calls Try.prog 54 #[.agg #[.int .u64 (dgl (n) 0 : Nat), .int .u64 (dgl (n) 1 : Nat), .int .u64 (dgl (n) 2 : Nat), .int .u64 (dgl (n) 3 : Nat), .int .u64 (dgl (n) 4 : Nat), .int .u64 (dgl (n) 5 : Nat), .int .u64 (dgl (n) 6 : Nat), .int .u64 (dgl (n) 7 : Nat)], .agg #[.int .u64 (dgl (d) 0 : Nat), .int .u64 (dgl (d) 1 : Nat), .int .u64 (dgl (d) 2 : Nat), .int .u64 (dgl (d) 3 : Nat), .int .u64 (dgl (d) 4 : Nat), .int .u64 (dgl (d) 5 : Nat), .int .u64 (dgl (d) 6 : Nat), .int .u64 (dgl (d) 7 : Nat)]] w fun e w' => e = .returned (.int .i64 4) ∧ Below w.heap.size w w' := by
  have HS := hide (twSt_start n d w 32 32)
  have hl1 : ¬ (120 : Int) < (L : Int) := by omega
  clear hL
  have hq2 : decide (0 ≤ q) = true := decide_eq_true hq
  go_enter Try.func54, Try.ntmps54
  have hlb := HS.out.lb.1
  go_wp2_with fail
  refine (HLN.out _).mono ?_
  rintro e w1 ⟨rfl, hb1⟩
  replace HS := hide (HS.out.below hb1)
  clear hb1 hlb
  go_upto_region 4 with fail
  refine wp_gen (fun W => TwSt n d w W) HS.out ?_
  clear HS
  rintro W1 h1
  refine wp_region_grow 6 [(13, .val (.agg #[.int .u64 (dgl (n) 0 : Nat), .int .u64 (dgl (n) 1 : Nat), .int .u64 (dgl (n) 2 : Nat), .int .u64 (dgl (n) 3 : Nat), .int .u64 (dgl (n) 4 : Nat), .int .u64 (dgl (n) 5 : Nat), .int .u64 (dgl (n) 6 : Nat), .int .u64 (dgl (n) 7 : Nat)])), (14, .val (.agg #[.int .u64 (dgl (d) 0 : Nat), .int .u64 (dgl (d) 1 : Nat), .int .u64 (dgl (d) 2 : Nat), .int .u64 (dgl (d) 3 : Nat), .int .u64 (dgl (d) 4 : Nat), .int .u64 (dgl (d) 5 : Nat), .int .u64 (dgl (d) 6 : Nat), .int .u64 (dgl (d) 7 : Nat)])), (15, .val (.agg #[.int .u64 (dgl (s) 0 : Nat), .int .u64 (dgl (s) 1 : Nat), .int .u64 (dgl (s) 2 : Nat), .int .u64 (dgl (s) 3 : Nat), .int .u64 (dgl (s) 4 : Nat), .int .u64 (dgl (s) 5 : Nat), .int .u64 (dgl (s) 6 : Nat), .int .u64 (dgl (s) 7 : Nat)])), (16, .val (.int .i64 q)), (17, .val (.bool true)), (9, .val (.bool true))]
    (fun W => TwSt n d w W) mixedOk (by kernel_rfl) (by kernel_rfl) (h1.below (Below.refl _ _).drew) (fun W W' h hb => h.below hb) ?_ ?_
  · refine gSt (gStep_run rfl ?_) ?_
    · intro ρ W hC hc hf hL
      have e2 : ρ (.tmp 2) = .pointer (some ⟨w.heap.size, 0, none⟩) := hL 2 (by decide +kernel)
      have hl := hC.la.1
      simp [go_sem, hc, hf, e2, hl]
      exact ⟨Below.refl _ _, rfl⟩
    refine gSt (gStep_run rfl ?_) ?_
    · intro ρ W hC hc hf hL
      have e3 : ρ (.tmp 3) = .pointer (some ⟨w.heap.size + 1, 0, none⟩) := hL 3 (by decide +kernel)
      have hl := hC.lb.1
      simp [go_sem, hc, hf, e3, hl]
      exact ⟨Below.refl _ _, rfl⟩
    refine gSt (gStep_run rfl ?_) ?_
    · intro ρ W hC hc hf hL
      have e14 : ρ (.tmp 14) = .agg #[.int .u64 (dgl (d) 0 : Nat), .int .u64 (dgl (d) 1 : Nat), .int .u64 (dgl (d) 2 : Nat), .int .u64 (dgl (d) 3 : Nat), .int .u64 (dgl (d) 4 : Nat), .int .u64 (dgl (d) 5 : Nat), .int .u64 (dgl (d) 6 : Nat), .int .u64 (dgl (d) 7 : Nat)] := hL 14 (by decide +kernel)
      simp [go_sem, hc, hf, e14]
      refine (HSH.out W).mono ?_
      rintro e w' ⟨rfl, hb⟩
      exact ⟨_, rfl, by first | exact hb | (subst hb; exact Below.refl _ _), rfl⟩
    refine gSt (gStep_run rfl ?_) ?_
    · intro ρ W hC hc hf hL
      have e13 : ρ (.tmp 13) = .agg #[.int .u64 (dgl (n) 0 : Nat), .int .u64 (dgl (n) 1 : Nat), .int .u64 (dgl (n) 2 : Nat), .int .u64 (dgl (n) 3 : Nat), .int .u64 (dgl (n) 4 : Nat), .int .u64 (dgl (n) 5 : Nat), .int .u64 (dgl (n) 6 : Nat), .int .u64 (dgl (n) 7 : Nat)] := hL 13 (by decide +kernel)
      have e15 : ρ (.tmp 15) = .agg #[.int .u64 (dgl (s) 0 : Nat), .int .u64 (dgl (s) 1 : Nat), .int .u64 (dgl (s) 2 : Nat), .int .u64 (dgl (s) 3 : Nat), .int .u64 (dgl (s) 4 : Nat), .int .u64 (dgl (s) 5 : Nat), .int .u64 (dgl (s) 6 : Nat), .int .u64 (dgl (s) 7 : Nat)] := hL 15 (by decide +kernel)
      simp [go_sem, hc, hf, e13, e15]
      refine (HCM.out W).mono ?_
      rintro e w' ⟨rfl, hb⟩
      exact ⟨_, rfl, by first | exact hb | (subst hb; exact Below.refl _ _), rfl⟩
    refine gSt (gStep_run rfl ?_) ?_
    · intro ρ W hC hc hf hL
      have e16 : ρ (.tmp 16) = .int .i64 q := hL 16 (by decide +kernel)
      simp [go_sem, hc, hf, e16, hq]
      exact ⟨Below.refl _ _, rfl⟩
    refine gSt (gStep_run rfl (gRun_move 17 9 (.inr rfl) rfl (by decide +kernel) (fun v w h => h))) ?_
    exact gSt0
  · intro W hC
    refine gFi 13 rfl ?_
    rintro _ rfl
    refine gFi 14 rfl ?_
    rintro _ rfl
    refine gFi 15 rfl ?_
    rintro _ rfl
    refine gFi 16 rfl ?_
    rintro _ rfl
    refine gFi 17 rfl ?_
    rintro _ rfl
    refine gFi 9 rfl ?_
    rintro _ rfl
    refine gFi0 ?_
    simp only [List.drop_succ_cons, List.drop_zero, Act.put, List.setIfInBounds_toArray, List.set_cons_succ, List.set_cons_zero]
    have HB := hide hC.bel
    clear hC h1
    go_wp2
    go_ret
    exact ⟨rfl, HB.out⟩

set_option maxHeartbeats 2000000 in
theorem pmay_N (n d L s : Nat) (q : Int)
    (HZ : ∀ w, (Op.equalIn 10000 32 (.agg #[.int .u64 (dgl (d) 0 : Nat), .int .u64 (dgl (d) 1 : Nat), .int .u64 (dgl (d) 2 : Nat), .int .u64 (dgl (d) 3 : Nat), .int .u64 (dgl (d) 4 : Nat), .int .u64 (dgl (d) 5 : Nat), .int .u64 (dgl (d) 6 : Nat), .int .u64 (dgl (d) 7 : Nat)]) (.agg #[.int .u64 0, .int .u64 0, .int .u64 0, .int .u64 0, .int .u64 0, .int .u64 0, .int .u64 0, .int .u64 0])).run Try.prog w = .ok false w)
    (HLN : Hid (∀ w, Calls Try.prog 46 #[.agg #[.int .u64 (dgl (d) 0 : Nat), .int .u64 (dgl (d) 1 : Nat), .int .u64 (dgl (d) 2 : Nat), .int .u64 (dgl (d) 3 : Nat), .int .u64 (dgl (d) 4 : Nat), .int .u64 (dgl (d) 5 : Nat), .int .u64 (dgl (d) 6 : Nat), .int .u64 (dgl (d) 7 : Nat)]] w fun e w' => e = .returned (.int .i64 ((L : Nat) : Int)) ∧ Below w.heap.size w w'))
    (hL : L ≤ 120)
    (HSH : Hid (∀ w, Calls Try.prog 78 #[.agg #[.int .u64 (dgl (d) 0 : Nat), .int .u64 (dgl (d) 1 : Nat), .int .u64 (dgl (d) 2 : Nat), .int .u64 (dgl (d) 3 : Nat), .int .u64 (dgl (d) 4 : Nat), .int .u64 (dgl (d) 5 : Nat), .int .u64 (dgl (d) 6 : Nat), .int .u64 (dgl (d) 7 : Nat)], .int .i64 128] w fun e w' => e = .returned (.agg #[.int .u64 (dgl (s) 0 : Nat), .int .u64 (dgl (s) 1 : Nat), .int .u64 (dgl (s) 2 : Nat), .int .u64 (dgl (s) 3 : Nat), .int .u64 (dgl (s) 4 : Nat), .int .u64 (dgl (s) 5 : Nat), .int .u64 (dgl (s) 6 : Nat), .int .u64 (dgl (s) 7 : Nat)]) ∧ Below w.heap.size w w'))
    (HCM : Hid (∀ w, Calls Try.prog 65 #[.agg #[.int .u64 (dgl (n) 0 : Nat), .int .u64 (dgl (n) 1 : Nat), .int .u64 (dgl (n) 2 : Nat), .int .u64 (dgl (n) 3 : Nat), .int .u64 (dgl (n) 4 : Nat), .int .u64 (dgl (n) 5 : Nat), .int .u64 (dgl (n) 6 : Nat), .int .u64 (dgl (n) 7 : Nat)], .agg #[.int .u64 (dgl (s) 0 : Nat), .int .u64 (dgl (s) 1 : Nat), .int .u64 (dgl (s) 2 : Nat), .int .u64 (dgl (s) 3 : Nat), .int .u64 (dgl (s) 4 : Nat), .int .u64 (dgl (s) 5 : Nat), .int .u64 (dgl (s) 6 : Nat), .int .u64 (dgl (s) 7 : Nat)]] w fun e w' => e = .returned (.int .i64 q) ∧ Below w.heap.size w w'))
    (hq : ¬ 0 ≤ q) (w : World) :
    Calls Try.prog 54 #[.agg #[.int .u64 (dgl (n) 0 : Nat), .int .u64 (dgl (n) 1 : Nat), .int .u64 (dgl (n) 2 : Nat), .int .u64 (dgl (n) 3 : Nat), .int .u64 (dgl (n) 4 : Nat), .int .u64 (dgl (n) 5 : Nat), .int .u64 (dgl (n) 6 : Nat), .int .u64 (dgl (n) 7 : Nat)], .agg #[.int .u64 (dgl (d) 0 : Nat), .int .u64 (dgl (d) 1 : Nat), .int .u64 (dgl (d) 2 : Nat), .int .u64 (dgl (d) 3 : Nat), .int .u64 (dgl (d) 4 : Nat), .int .u64 (dgl (d) 5 : Nat), .int .u64 (dgl (d) 6 : Nat), .int .u64 (dgl (d) 7 : Nat)]] w fun e w' => e = .returned (.int .i64 0) ∧ Below w.heap.size w w' := by
  have HS := hide (twSt_start n d w 32 32)
  have hl1 : ¬ (120 : Int) < (L : Int) := by omega
  clear hL
  have hq2 : decide (0 ≤ q) = false := decide_eq_false hq
  go_enter Try.func54, Try.ntmps54
  have hlb := HS.out.lb.1
  go_wp2_with fail
  refine (HLN.out _).mono ?_
  rintro e w1 ⟨rfl, hb1⟩
  replace HS := hide (HS.out.below hb1)
  clear hb1 hlb
  go_upto_region 4 with fail
  refine wp_gen (fun W => TwSt n d w W) HS.out ?_
  clear HS
  rintro W1 h1
  refine wp_region_grow 6 [(13, .val (.agg #[.int .u64 (dgl (n) 0 : Nat), .int .u64 (dgl (n) 1 : Nat), .int .u64 (dgl (n) 2 : Nat), .int .u64 (dgl (n) 3 : Nat), .int .u64 (dgl (n) 4 : Nat), .int .u64 (dgl (n) 5 : Nat), .int .u64 (dgl (n) 6 : Nat), .int .u64 (dgl (n) 7 : Nat)])), (14, .val (.agg #[.int .u64 (dgl (d) 0 : Nat), .int .u64 (dgl (d) 1 : Nat), .int .u64 (dgl (d) 2 : Nat), .int .u64 (dgl (d) 3 : Nat), .int .u64 (dgl (d) 4 : Nat), .int .u64 (dgl (d) 5 : Nat), .int .u64 (dgl (d) 6 : Nat), .int .u64 (dgl (d) 7 : Nat)])), (15, .val (.agg #[.int .u64 (dgl (s) 0 : Nat), .int .u64 (dgl (s) 1 : Nat), .int .u64 (dgl (s) 2 : Nat), .int .u64 (dgl (s) 3 : Nat), .int .u64 (dgl (s) 4 : Nat), .int .u64 (dgl (s) 5 : Nat), .int .u64 (dgl (s) 6 : Nat), .int .u64 (dgl (s) 7 : Nat)])), (16, .val (.int .i64 q)), (17, .val (.bool false)), (9, .val (.bool false))]
    (fun W => TwSt n d w W) mixedOk (by kernel_rfl) (by kernel_rfl) (h1.below (Below.refl _ _).drew) (fun W W' h hb => h.below hb) ?_ ?_
  · refine gSt (gStep_run rfl ?_) ?_
    · intro ρ W hC hc hf hL
      have e2 : ρ (.tmp 2) = .pointer (some ⟨w.heap.size, 0, none⟩) := hL 2 (by decide +kernel)
      have hl := hC.la.1
      simp [go_sem, hc, hf, e2, hl]
      exact ⟨Below.refl _ _, rfl⟩
    refine gSt (gStep_run rfl ?_) ?_
    · intro ρ W hC hc hf hL
      have e3 : ρ (.tmp 3) = .pointer (some ⟨w.heap.size + 1, 0, none⟩) := hL 3 (by decide +kernel)
      have hl := hC.lb.1
      simp [go_sem, hc, hf, e3, hl]
      exact ⟨Below.refl _ _, rfl⟩
    refine gSt (gStep_run rfl ?_) ?_
    · intro ρ W hC hc hf hL
      have e14 : ρ (.tmp 14) = .agg #[.int .u64 (dgl (d) 0 : Nat), .int .u64 (dgl (d) 1 : Nat), .int .u64 (dgl (d) 2 : Nat), .int .u64 (dgl (d) 3 : Nat), .int .u64 (dgl (d) 4 : Nat), .int .u64 (dgl (d) 5 : Nat), .int .u64 (dgl (d) 6 : Nat), .int .u64 (dgl (d) 7 : Nat)] := hL 14 (by decide +kernel)
      simp [go_sem, hc, hf, e14]
      refine (HSH.out W).mono ?_
      rintro e w' ⟨rfl, hb⟩
      exact ⟨_, rfl, by first | exact hb | (subst hb; exact Below.refl _ _), rfl⟩
    refine gSt (gStep_run rfl ?_) ?_
    · intro ρ W hC hc hf hL
      have e13 : ρ (.tmp 13) = .agg #[.int .u64 (dgl (n) 0 : Nat), .int .u64 (dgl (n) 1 : Nat), .int .u64 (dgl (n) 2 : Nat), .int .u64 (dgl (n) 3 : Nat), .int .u64 (dgl (n) 4 : Nat), .int .u64 (dgl (n) 5 : Nat), .int .u64 (dgl (n) 6 : Nat), .int .u64 (dgl (n) 7 : Nat)] := hL 13 (by decide +kernel)
      have e15 : ρ (.tmp 15) = .agg #[.int .u64 (dgl (s) 0 : Nat), .int .u64 (dgl (s) 1 : Nat), .int .u64 (dgl (s) 2 : Nat), .int .u64 (dgl (s) 3 : Nat), .int .u64 (dgl (s) 4 : Nat), .int .u64 (dgl (s) 5 : Nat), .int .u64 (dgl (s) 6 : Nat), .int .u64 (dgl (s) 7 : Nat)] := hL 15 (by decide +kernel)
      simp [go_sem, hc, hf, e13, e15]
      refine (HCM.out W).mono ?_
      rintro e w' ⟨rfl, hb⟩
      exact ⟨_, rfl, by first | exact hb | (subst hb; exact Below.refl _ _), rfl⟩
    refine gSt (gStep_run rfl ?_) ?_
    · intro ρ W hC hc hf hL
      have e16 : ρ (.tmp 16) = .int .i64 q := hL 16 (by decide +kernel)
      simp [go_sem, hc, hf, e16, hq2]
      exact ⟨Below.refl _ _, rfl⟩
    refine gSt (gStep_run rfl (gRun_move 17 9 (.inr rfl) rfl (by decide +kernel) (fun v w h => h))) ?_
    exact gSt0
  · intro W hC
    refine gFi 13 rfl ?_
    rintro _ rfl
    refine gFi 14 rfl ?_
    rintro _ rfl
    refine gFi 15 rfl ?_
    rintro _ rfl
    refine gFi 16 rfl ?_
    rintro _ rfl
    refine gFi 17 rfl ?_
    rintro _ rfl
    refine gFi 9 rfl ?_
    rintro _ rfl
    refine gFi0 ?_
    simp only [List.drop_succ_cons, List.drop_zero, Act.put, List.setIfInBounds_toArray, List.set_cons_succ, List.set_cons_zero]
    have HB := hide hC.bel
    clear hC h1
    go_wp2
    go_ret
    exact ⟨rfl, HB.out⟩

theorem may_any (n d : Nat) (hn : n < QQ) (hd : d < QQ) (w : World) : Calls Try.prog 54 #[.agg #[.int .u64 (dgl (n) 0 : Nat), .int .u64 (dgl (n) 1 : Nat), .int .u64 (dgl (n) 2 : Nat), .int .u64 (dgl (n) 3 : Nat), .int .u64 (dgl (n) 4 : Nat), .int .u64 (dgl (n) 5 : Nat), .int .u64 (dgl (n) 6 : Nat), .int .u64 (dgl (n) 7 : Nat)], .agg #[.int .u64 (dgl (d) 0 : Nat), .int .u64 (dgl (d) 1 : Nat), .int .u64 (dgl (d) 2 : Nat), .int .u64 (dgl (d) 3 : Nat), .int .u64 (dgl (d) 4 : Nat), .int .u64 (dgl (d) 5 : Nat), .int .u64 (dgl (d) 6 : Nat), .int .u64 (dgl (d) 7 : Nat)]] w fun e w' => e = .returned (.int .i64 ((mayN n d : Nat) : Int)) ∧ Below w.heap.size w w' := by
  have HLN := fun w => wideLen_any d hd w
  unfold mayN
  by_cases h1 : d = 0
  · rw [if_pos h1]
    refine pmay_Z n d 0 0 0 (fun w => ?_) w
    have := wide_eqz hd w
    rw [decide_eq_true h1] at this
    exact this
  rw [if_neg h1]
  have HZ : ∀ w, (Op.equalIn 10000 32 (.agg #[.int .u64 (dgl (d) 0 : Nat), .int .u64 (dgl (d) 1 : Nat), .int .u64 (dgl (d) 2 : Nat), .int .u64 (dgl (d) 3 : Nat), .int .u64 (dgl (d) 4 : Nat), .int .u64 (dgl (d) 5 : Nat), .int .u64 (dgl (d) 6 : Nat), .int .u64 (dgl (d) 7 : Nat)]) (.agg #[.int .u64 0, .int .u64 0, .int .u64 0, .int .u64 0, .int .u64 0, .int .u64 0, .int .u64 0, .int .u64 0])).run Try.prog w = .ok false w := fun w => by
    have := wide_eqz hd w
    rw [decide_eq_false h1] at this
    exact this
  by_cases h2 : 2 ^ 120 ≤ d
  · rw [if_pos h2]
    exact pmay_B n d _ 0 0 HZ HLN ((bitLen_above d 120).2 h2) w
  rw [if_neg h2]
  have hL2 : Go.bitLen d ≤ 120 := by
    rcases Nat.lt_or_ge 120 (Go.bitLen d) with h | h
    · exact absurd ((bitLen_above d 120).1 h) h2
    · exact h
  have hsq : d * 2 ^ 128 < QQ := by
    have h3 : d * 2 ^ 128 < 2 ^ 120 * 2 ^ 128 := Nat.mul_lt_mul_of_pos_right (by omega) (Nat.two_pow_pos _)
    have h4 : 2 ^ 120 * 2 ^ 128 < QQ := by decide +kernel
    exact Nat.lt_trans h3 h4
  have HSH : ∀ w, Calls Try.prog 78 #[.agg #[.int .u64 (dgl (d) 0 : Nat), .int .u64 (dgl (d) 1 : Nat), .int .u64 (dgl (d) 2 : Nat), .int .u64 (dgl (d) 3 : Nat), .int .u64 (dgl (d) 4 : Nat), .int .u64 (dgl (d) 5 : Nat), .int .u64 (dgl (d) 6 : Nat), .int .u64 (dgl (d) 7 : Nat)], .int .i64 128] w fun e w' => e = .returned (.agg #[.int .u64 (dgl (d * 2 ^ 128) 0 : Nat), .int .u64 (dgl (d * 2 ^ 128) 1 : Nat), .int .u64 (dgl (d * 2 ^ 128) 2 : Nat), .int .u64 (dgl (d * 2 ^ 128) 3 : Nat), .int .u64 (dgl (d * 2 ^ 128) 4 : Nat), .int .u64 (dgl (d * 2 ^ 128) 5 : Nat), .int .u64 (dgl (d * 2 ^ 128) 6 : Nat), .int .u64 (dgl (d * 2 ^ 128) 7 : Nat)]) ∧ Below w.heap.size w w' := by
    intro w
    obtain ⟨k, hk⟩ : ∃ k : Nat, k = 128 := ⟨_, rfl⟩
    have h := wideShl_any d (k : Nat) hd w
    rw [show roomI (k : Nat) = ((k : Nat) : Int) by unfold roomI; omega, sh_up] at h
    rw [hk] at h
    exact h
  generalize d * 2 ^ 128 = s at *
  have HCM := fun w => wideCmp_any n s hn hsq w
  by_cases h3 : s ≤ n
  · rw [if_pos h3]
    exact pmay_G n d _ _ _ HZ HLN hL2 HSH HCM (by unfold cmpN; split <;> omega) w
  · rw [if_neg h3]
    exact pmay_N n d _ _ _ HZ HLN hL2 HSH HCM (by unfold cmpN; split <;> omega) w

end Go.Proofs.Yteocibahclpegaa

/- Contracts: radix2.Divide. -/
set_option linter.unusedVariables false
set_option linter.unusedSimpArgs false
set_option maxRecDepth 8000
namespace Go.Proofs.Yteocibahclpegaa
open Go.RowKit Plain

end Go.Proofs.Yteocibahclpegaa

/- Contracts: radicandlaw11's example, and what holds of a quotient and a remainder. -/
set_option linter.unusedVariables false
set_option linter.unusedSimpArgs false
set_option maxRecDepth 8000
namespace Go.Proofs.Yteocibahclpegaa
open Go.RowKit Plain

theorem dgl_high0 {x i : Nat} (hx : x < 18446744073709551616) (hi : 0 < i) : dgl x i = 0 := by
  rw [dgl_lw]
  have h : x < LW ^ i := by
    have h1 : LW ^ 1 ≤ LW ^ i := Nat.pow_le_pow_right lw_pos hi
    have h2 : LW ^ 1 = 18446744073709551616 := by rw [Nat.pow_one]; rfl
    omega
  rw [Nat.div_eq_of_lt h, Nat.zero_mod]
theorem dgl_low0 {x : Nat} (hx : x < 18446744073709551616) : dgl x 0 = x := by
  rw [dgl_lw, Nat.pow_zero, Nat.div_one]
  exact Nat.mod_eq_of_lt hx
theorem w8_small (x : Nat) (hx : x < 18446744073709551616) : (#[.int .u64 (dgl (x) 0 : Nat), .int .u64 (dgl (x) 1 : Nat), .int .u64 (dgl (x) 2 : Nat), .int .u64 (dgl (x) 3 : Nat), .int .u64 (dgl (x) 4 : Nat), .int .u64 (dgl (x) 5 : Nat), .int .u64 (dgl (x) 6 : Nat), .int .u64 (dgl (x) 7 : Nat)] : Array Value) = #[.int .u64 (x : Nat), .int .u64 0, .int .u64 0, .int .u64 0, .int .u64 0, .int .u64 0, .int .u64 0, .int .u64 0] := by
  rw [dgl_low0 hx, dgl_high0 hx (show 0 < 1 by decide), dgl_high0 hx (show 0 < 2 by decide), dgl_high0 hx (show 0 < 3 by decide), dgl_high0 hx (show 0 < 4 by decide), dgl_high0 hx (show 0 < 5 by decide), dgl_high0 hx (show 0 < 6 by decide), dgl_high0 hx (show 0 < 7 by decide)]
  rfl
theorem r2_put (w W : World) (x y : Nat) (hb : Below w.heap.size w W) (e1 e2 : TypeId) : R2St W.heap.size (W.heap.size + 1) x y w ((W.alloc (.cells #[.int .u64 (dgl (x) 0 : Nat), .int .u64 (dgl (x) 1 : Nat), .int .u64 (dgl (x) 2 : Nat), .int .u64 (dgl (x) 3 : Nat), .int .u64 (dgl (x) 4 : Nat), .int .u64 (dgl (x) 5 : Nat), .int .u64 (dgl (x) 6 : Nat), .int .u64 (dgl (x) 7 : Nat)] e1)).alloc (.cells #[.int .u64 (dgl (y) 0 : Nat), .int .u64 (dgl (y) 1 : Nat), .int .u64 (dgl (y) 2 : Nat), .int .u64 (dgl (y) 3 : Nat), .int .u64 (dgl (y) 4 : Nat), .int .u64 (dgl (y) 5 : Nat), .int .u64 (dgl (y) 6 : Nat), .int .u64 (dgl (y) 7 : Nat)] e2)) := by
  have h1 := liesF_new W (dgl x) e1
  have h2 := liesF_new (W.alloc (.cells #[.int .u64 (dgl (x) 0 : Nat), .int .u64 (dgl (x) 1 : Nat), .int .u64 (dgl (x) 2 : Nat), .int .u64 (dgl (x) 3 : Nat), .int .u64 (dgl (x) 4 : Nat), .int .u64 (dgl (x) 5 : Nat), .int .u64 (dgl (x) 6 : Nat), .int .u64 (dgl (x) 7 : Nat)] e1)) (dgl y) e2
  rw [World.size_alloc] at h2
  exact ⟨h1.alloc _, fun i => by simp [go_sem], h2, fun i => by simp [go_sem], below_trans (below_trans hb (below_allocs _ _)) (below_allocs _ _), hb.size, by omega⟩
/-- A wide is a small number, written out. -/
theorem wide_lit (x k : Nat) (hx : x < QQ) (hk : k < 18446744073709551616) (w : World) : (Op.equalIn 10000 32 (.agg #[.int .u64 (dgl (x) 0 : Nat), .int .u64 (dgl (x) 1 : Nat), .int .u64 (dgl (x) 2 : Nat), .int .u64 (dgl (x) 3 : Nat), .int .u64 (dgl (x) 4 : Nat), .int .u64 (dgl (x) 5 : Nat), .int .u64 (dgl (x) 6 : Nat), .int .u64 (dgl (x) 7 : Nat)]) (.agg #[.int .u64 (k : Nat), .int .u64 0, .int .u64 0, .int .u64 0, .int .u64 0, .int .u64 0, .int .u64 0, .int .u64 0])).run Try.prog w = .ok (decide (x = k)) w := by
  rw [← w8_small k hk]
  exact wide_eqb hx (ll_lt_qq hk) w

theorem w8_zero : (#[.int .u64 (dgl (0) 0 : Nat), .int .u64 (dgl (0) 1 : Nat), .int .u64 (dgl (0) 2 : Nat), .int .u64 (dgl (0) 3 : Nat), .int .u64 (dgl (0) 4 : Nat), .int .u64 (dgl (0) 5 : Nat), .int .u64 (dgl (0) 6 : Nat), .int .u64 (dgl (0) 7 : Nat)] : Array Value) = #[.int .u64 0, .int .u64 0, .int .u64 0, .int .u64 0, .int .u64 0, .int .u64 0, .int .u64 0, .int .u64 0] := by
  rw [dgl_zero, dgl_zero, dgl_zero, dgl_zero, dgl_zero, dgl_zero, dgl_zero, dgl_zero]
  rfl
end Go.Proofs.Yteocibahclpegaa

/- Contracts: radix2.Fraction. -/
set_option linter.unusedVariables false
set_option linter.unusedSimpArgs false
set_option maxRecDepth 8000
namespace Go.Proofs.Yteocibahclpegaa
open Go.RowKit Plain

theorem box_other {B p : Nat} {f g : Nat → Nat} {v : Value} {W : World} (h : (SlotIs.box B f).R v W) (hne : v ≠ .pointer (some ⟨p, 0, none⟩)) : (SlotIs.box B f).R v ((((((((W.setCell ⟨p, 0, none⟩ (.int .u64 (g 0 : Nat))).setCell ⟨p, 1, none⟩ (.int .u64 (g 1 : Nat))).setCell ⟨p, 2, none⟩ (.int .u64 (g 2 : Nat))).setCell ⟨p, 3, none⟩ (.int .u64 (g 3 : Nat))).setCell ⟨p, 4, none⟩ (.int .u64 (g 4 : Nat))).setCell ⟨p, 5, none⟩ (.int .u64 (g 5 : Nat))).setCell ⟨p, 6, none⟩ (.int .u64 (g 6 : Nat))).setCell ⟨p, 7, none⟩ (.int .u64 (g 7 : Nat))) := by
  obtain ⟨b, rfl, h2, h3, h4⟩ := h
  have hb : b ≠ p := fun he => hne (by rw [he])
  exact ⟨b, rfl, h2, lies_ne h3 hb, fun i => by simpa [go_sem] using h4 i⟩
/-- What Fraction goes by: its arguments, its first result. -/
structure FrSt (n d x : Nat) (w W : World) : Prop where
  la : LiesF W w.heap.size (dgl n)
  lb : LiesF W (w.heap.size + 1) (dgl d)
  lr : LiesF W (w.heap.size + 2) (dgl x)
  fr : ∀ i, W.frozen? ⟨w.heap.size + 2, i, none⟩ = false
  bel : Below w.heap.size w W
theorem FrSt.under {n d x : Nat} {w W W' : World} (h : FrSt n d x w W) {C : Nat} (hb : Below C W W') (hc : w.heap.size + 2 < C) : FrSt n d x w W' :=
  ⟨lies_box h.la hb (by omega), lies_box h.lb hb (by omega), lies_box h.lr hb hc, fun i => (hb.frozen (p := ⟨w.heap.size + 2, i, none⟩) hc).trans (h.fr i), h.bel.trans (hb.mono (by omega))⟩
theorem FrSt.below {n d x : Nat} {w W W' : World} (h : FrSt n d x w W) (hb : Below W.heap.size W W') : FrSt n d x w W' := h.under hb h.lr.2
theorem FrSt.set8 {n d x : Nat} {w W : World} (h : FrSt n d x w W) (z : Nat) : FrSt n d z w ((((((((W.setCell ⟨w.heap.size + 2, 0, none⟩ (.int .u64 (dgl z 0 : Nat))).setCell ⟨w.heap.size + 2, 1, none⟩ (.int .u64 (dgl z 1 : Nat))).setCell ⟨w.heap.size + 2, 2, none⟩ (.int .u64 (dgl z 2 : Nat))).setCell ⟨w.heap.size + 2, 3, none⟩ (.int .u64 (dgl z 3 : Nat))).setCell ⟨w.heap.size + 2, 4, none⟩ (.int .u64 (dgl z 4 : Nat))).setCell ⟨w.heap.size + 2, 5, none⟩ (.int .u64 (dgl z 5 : Nat))).setCell ⟨w.heap.size + 2, 6, none⟩ (.int .u64 (dgl z 6 : Nat))).setCell ⟨w.heap.size + 2, 7, none⟩ (.int .u64 (dgl z 7 : Nat))) :=
  ⟨lies_ne h.la (by omega), lies_ne h.lb (by omega), set8_same W _ (dgl z) (dgl x) h.lr, fun i => by simpa [go_sem] using h.fr i, below_set8 h.bel _ (by omega) _ _ _ _ _ _ _ _⟩
theorem frSt_start (n d : Nat) (w : World) (e1 e2 e3 : TypeId) : FrSt n d 0 w (((w.alloc (.cells #[.int .u64 (dgl (n) 0 : Nat), .int .u64 (dgl (n) 1 : Nat), .int .u64 (dgl (n) 2 : Nat), .int .u64 (dgl (n) 3 : Nat), .int .u64 (dgl (n) 4 : Nat), .int .u64 (dgl (n) 5 : Nat), .int .u64 (dgl (n) 6 : Nat), .int .u64 (dgl (n) 7 : Nat)] e1)).alloc (.cells #[.int .u64 (dgl (d) 0 : Nat), .int .u64 (dgl (d) 1 : Nat), .int .u64 (dgl (d) 2 : Nat), .int .u64 (dgl (d) 3 : Nat), .int .u64 (dgl (d) 4 : Nat), .int .u64 (dgl (d) 5 : Nat), .int .u64 (dgl (d) 6 : Nat), .int .u64 (dgl (d) 7 : Nat)] e2)).alloc (.cells #[.int .u64 0, .int .u64 0, .int .u64 0, .int .u64 0, .int .u64 0, .int .u64 0, .int .u64 0, .int .u64 0] e3)) := by
  have h := twSt_start n d w e1 e2
  have h3 := liesF_new ((w.alloc (.cells #[.int .u64 (dgl (n) 0 : Nat), .int .u64 (dgl (n) 1 : Nat), .int .u64 (dgl (n) 2 : Nat), .int .u64 (dgl (n) 3 : Nat), .int .u64 (dgl (n) 4 : Nat), .int .u64 (dgl (n) 5 : Nat), .int .u64 (dgl (n) 6 : Nat), .int .u64 (dgl (n) 7 : Nat)] e1)).alloc (.cells #[.int .u64 (dgl (d) 0 : Nat), .int .u64 (dgl (d) 1 : Nat), .int .u64 (dgl (d) 2 : Nat), .int .u64 (dgl (d) 3 : Nat), .int .u64 (dgl (d) 4 : Nat), .int .u64 (dgl (d) 5 : Nat), .int .u64 (dgl (d) 6 : Nat), .int .u64 (dgl (d) 7 : Nat)] e2)) (fun _ => 0) e3
  rw [World.size_alloc, World.size_alloc] at h3
  have h4 := h.below (below_allocs _ (.cells #[.int .u64 0, .int .u64 0, .int .u64 0, .int .u64 0, .int .u64 0, .int .u64 0, .int .u64 0, .int .u64 0] e3))
  exact ⟨h4.la, h4.lb, by rw [dgl_z]; exact h3, fun i => by simp [go_sem], h4.bel⟩

end Go.Proofs.Yteocibahclpegaa

/- Contracts: fix.Quotient's and Root's closures. -/
set_option linter.unusedVariables false
set_option linter.unusedSimpArgs false
set_option maxRecDepth 8000
namespace Go.Proofs.Yteocibahclpegaa
open Go.RowKit Plain

/-- What the closures go by: a number in a box, their result, what they hold. -/
structure Q1St (n d q pd pn : Nat) (w W : World) : Prop where
  lq : LiesF W w.heap.size (dgl q)
  lr : LiesF W (w.heap.size + 1) (fun _ => 0)
  fr : ∀ i, W.frozen? ⟨w.heap.size + 1, i, none⟩ = false
  ld : LiesF W pd (dgl d)
  ln : LiesF W pn (dgl n)
  bel : Below w.heap.size w W
theorem Q1St.below {n d q pd pn : Nat} {w W W' : World} (h : Q1St n d q pd pn w W) (hb : Below W.heap.size W W') : Q1St n d q pd pn w W' :=
  ⟨h.lq.below hb, h.lr.below hb, fun i => (hb.frozen (p := ⟨w.heap.size + 1, i, none⟩) h.lr.2).trans (h.fr i), h.ld.below hb, h.ln.below hb, below_trans h.bel hb⟩
theorem q1St_start (n d q pd pn : Nat) (w : World) (hd : LiesF w pd (dgl d)) (hn : LiesF w pn (dgl n)) (e1 e2 : TypeId) : Q1St n d q pd pn w ((w.alloc (.cells #[.int .u64 (dgl (q) 0 : Nat), .int .u64 (dgl (q) 1 : Nat), .int .u64 (dgl (q) 2 : Nat), .int .u64 (dgl (q) 3 : Nat), .int .u64 (dgl (q) 4 : Nat), .int .u64 (dgl (q) 5 : Nat), .int .u64 (dgl (q) 6 : Nat), .int .u64 (dgl (q) 7 : Nat)] e1)).alloc (.cells #[.int .u64 0, .int .u64 0, .int .u64 0, .int .u64 0, .int .u64 0, .int .u64 0, .int .u64 0, .int .u64 0] e2)) := by
  have h := liesF_new (w.alloc (.cells #[.int .u64 (dgl (q) 0 : Nat), .int .u64 (dgl (q) 1 : Nat), .int .u64 (dgl (q) 2 : Nat), .int .u64 (dgl (q) 3 : Nat), .int .u64 (dgl (q) 4 : Nat), .int .u64 (dgl (q) 5 : Nat), .int .u64 (dgl (q) 6 : Nat), .int .u64 (dgl (q) 7 : Nat)] e1)) (fun _ => 0) e2
  rw [World.size_alloc] at h
  exact ⟨(liesF_new w (dgl q) e1).alloc _, h, fun i => by simp [go_sem], (hd.alloc _).alloc _, (hn.alloc _).alloc _, below_trans (below_allocs w _) (below_allocs _ _)⟩

set_option maxHeartbeats 2000000 in
theorem quo1_walk (n d q p r pd pn : Nat) (t s : Bool) (w : World) (hd : LiesF w pd (dgl d)) (hn : LiesF w pn (dgl n))
    (HM : Hid (∀ w, Calls Try.prog 57 #[.agg #[.int .u64 (dgl (q) 0 : Nat), .int .u64 (dgl (q) 1 : Nat), .int .u64 (dgl (q) 2 : Nat), .int .u64 (dgl (q) 3 : Nat), .int .u64 (dgl (q) 4 : Nat), .int .u64 (dgl (q) 5 : Nat), .int .u64 (dgl (q) 6 : Nat), .int .u64 (dgl (q) 7 : Nat)], .agg #[.int .u64 (dgl (d) 0 : Nat), .int .u64 (dgl (d) 1 : Nat), .int .u64 (dgl (d) 2 : Nat), .int .u64 (dgl (d) 3 : Nat), .int .u64 (dgl (d) 4 : Nat), .int .u64 (dgl (d) 5 : Nat), .int .u64 (dgl (d) 6 : Nat), .int .u64 (dgl (d) 7 : Nat)]] w fun e w' => e = .returned (.tuple #[.agg #[.int .u64 (dgl (p) 0 : Nat), .int .u64 (dgl (p) 1 : Nat), .int .u64 (dgl (p) 2 : Nat), .int .u64 (dgl (p) 3 : Nat), .int .u64 (dgl (p) 4 : Nat), .int .u64 (dgl (p) 5 : Nat), .int .u64 (dgl (p) 6 : Nat), .int .u64 (dgl (p) 7 : Nat)], .bool t]) ∧ Below w.heap.size w w'))
    (HSU : Hid (∀ w, Calls Try.prog 58 #[.agg #[.int .u64 (dgl (n) 0 : Nat), .int .u64 (dgl (n) 1 : Nat), .int .u64 (dgl (n) 2 : Nat), .int .u64 (dgl (n) 3 : Nat), .int .u64 (dgl (n) 4 : Nat), .int .u64 (dgl (n) 5 : Nat), .int .u64 (dgl (n) 6 : Nat), .int .u64 (dgl (n) 7 : Nat)], .agg #[.int .u64 (dgl (p) 0 : Nat), .int .u64 (dgl (p) 1 : Nat), .int .u64 (dgl (p) 2 : Nat), .int .u64 (dgl (p) 3 : Nat), .int .u64 (dgl (p) 4 : Nat), .int .u64 (dgl (p) 5 : Nat), .int .u64 (dgl (p) 6 : Nat), .int .u64 (dgl (p) 7 : Nat)]] w fun e w' => e = .returned (.tuple #[.agg #[.int .u64 (dgl (r) 0 : Nat), .int .u64 (dgl (r) 1 : Nat), .int .u64 (dgl (r) 2 : Nat), .int .u64 (dgl (r) 3 : Nat), .int .u64 (dgl (r) 4 : Nat), .int .u64 (dgl (r) 5 : Nat), .int .u64 (dgl (r) 6 : Nat), .int .u64 (dgl (r) 7 : Nat)], .bool s]) ∧ Below w.heap.size w w')) :
    Calls Try.prog 56 #[.agg #[.int .u64 (dgl (q) 0 : Nat), .int .u64 (dgl (q) 1 : Nat), .int .u64 (dgl (q) 2 : Nat), .int .u64 (dgl (q) 3 : Nat), .int .u64 (dgl (q) 4 : Nat), .int .u64 (dgl (q) 5 : Nat), .int .u64 (dgl (q) 6 : Nat), .int .u64 (dgl (q) 7 : Nat)], .pointer (some ⟨pd, 0, none⟩), .pointer (some ⟨pn, 0, none⟩)] w fun e w' => e = .returned (.tuple #[.agg #[.int .u64 (dgl (r) 0 : Nat), .int .u64 (dgl (r) 1 : Nat), .int .u64 (dgl (r) 2 : Nat), .int .u64 (dgl (r) 3 : Nat), .int .u64 (dgl (r) 4 : Nat), .int .u64 (dgl (r) 5 : Nat), .int .u64 (dgl (r) 6 : Nat), .int .u64 (dgl (r) 7 : Nat)], .bool s]) ∧ Below w.heap.size w w' := by
  have HS := hide (q1St_start n d q pd pn w hd hn 32 32)
  clear hd hn
  go_enter Try.func56, Try.ntmps56
  have hq := HS.out.lq.1
  have hd := HS.out.ld.1
  go_wp2_with fail
  refine (HM.out _).mono ?_
  rintro e w1 ⟨rfl, hb1⟩
  replace HS := hide (HS.out.below hb1)
  clear hb1 hq hd HM
  go_upto_region 2 with fail
  refine wp_gen (fun W => Q1St n d q pd pn w W ∧ LiesF W w1.heap.size (dgl p)) ⟨HS.out.below (below_allocs _ _), liesF_new w1 (dgl p) _⟩ ?_
  clear HS
  generalize w1.heap.size = p6 at *
  rintro W2 h2
  have HS := hide h2
  have hn := h2.1.ln.1
  have hp := h2.2.1
  clear h2
  go_wp2_with fail
  refine (HSU.out _).mono ?_
  rintro e w3 ⟨rfl, hb3⟩
  replace HS := hide (HS.out.1.below hb3)
  clear hb3 hn hp HSU
  have hr := HS.out.lr.1
  have hrl := HS.out.lr.2
  have hrf := HS.out.fr
  have HBE := hide HS.out.bel
  clear HS
  go_wp2
  exact bodyPost_ret (v := .tuple #[.agg #[.int .u64 (dgl (r) 0 : Nat), .int .u64 (dgl (r) 1 : Nat), .int .u64 (dgl (r) 2 : Nat), .int .u64 (dgl (r) 3 : Nat), .int .u64 (dgl (r) 4 : Nat), .int .u64 (dgl (r) 5 : Nat), .int .u64 (dgl (r) 6 : Nat), .int .u64 (dgl (r) 7 : Nat)], .bool s]) (by simp [results, Try.results56, go_sem, hr, hrl]) rfl ⟨rfl, below_set8 HBE.out _ (by omega) _ _ _ _ _ _ _ _⟩

set_option maxHeartbeats 2000000 in
theorem rot1_walk (n d q p r pd pn : Nat) (t s : Bool) (w : World) (hd : LiesF w pd (dgl d)) (hn : LiesF w pn (dgl n))
    (HM : Hid (∀ w, Calls Try.prog 62 #[.agg #[.int .u64 (dgl (q) 0 : Nat), .int .u64 (dgl (q) 1 : Nat), .int .u64 (dgl (q) 2 : Nat), .int .u64 (dgl (q) 3 : Nat), .int .u64 (dgl (q) 4 : Nat), .int .u64 (dgl (q) 5 : Nat), .int .u64 (dgl (q) 6 : Nat), .int .u64 (dgl (q) 7 : Nat)]] w fun e w' => e = .returned (.tuple #[.agg #[.int .u64 (dgl (p) 0 : Nat), .int .u64 (dgl (p) 1 : Nat), .int .u64 (dgl (p) 2 : Nat), .int .u64 (dgl (p) 3 : Nat), .int .u64 (dgl (p) 4 : Nat), .int .u64 (dgl (p) 5 : Nat), .int .u64 (dgl (p) 6 : Nat), .int .u64 (dgl (p) 7 : Nat)], .bool t]) ∧ Below w.heap.size w w'))
    (HSU : Hid (∀ w, Calls Try.prog 58 #[.agg #[.int .u64 (dgl (n) 0 : Nat), .int .u64 (dgl (n) 1 : Nat), .int .u64 (dgl (n) 2 : Nat), .int .u64 (dgl (n) 3 : Nat), .int .u64 (dgl (n) 4 : Nat), .int .u64 (dgl (n) 5 : Nat), .int .u64 (dgl (n) 6 : Nat), .int .u64 (dgl (n) 7 : Nat)], .agg #[.int .u64 (dgl (p) 0 : Nat), .int .u64 (dgl (p) 1 : Nat), .int .u64 (dgl (p) 2 : Nat), .int .u64 (dgl (p) 3 : Nat), .int .u64 (dgl (p) 4 : Nat), .int .u64 (dgl (p) 5 : Nat), .int .u64 (dgl (p) 6 : Nat), .int .u64 (dgl (p) 7 : Nat)]] w fun e w' => e = .returned (.tuple #[.agg #[.int .u64 (dgl (r) 0 : Nat), .int .u64 (dgl (r) 1 : Nat), .int .u64 (dgl (r) 2 : Nat), .int .u64 (dgl (r) 3 : Nat), .int .u64 (dgl (r) 4 : Nat), .int .u64 (dgl (r) 5 : Nat), .int .u64 (dgl (r) 6 : Nat), .int .u64 (dgl (r) 7 : Nat)], .bool s]) ∧ Below w.heap.size w w')) :
    Calls Try.prog 61 #[.agg #[.int .u64 (dgl (q) 0 : Nat), .int .u64 (dgl (q) 1 : Nat), .int .u64 (dgl (q) 2 : Nat), .int .u64 (dgl (q) 3 : Nat), .int .u64 (dgl (q) 4 : Nat), .int .u64 (dgl (q) 5 : Nat), .int .u64 (dgl (q) 6 : Nat), .int .u64 (dgl (q) 7 : Nat)], .pointer (some ⟨pn, 0, none⟩)] w fun e w' => e = .returned (.tuple #[.agg #[.int .u64 (dgl (r) 0 : Nat), .int .u64 (dgl (r) 1 : Nat), .int .u64 (dgl (r) 2 : Nat), .int .u64 (dgl (r) 3 : Nat), .int .u64 (dgl (r) 4 : Nat), .int .u64 (dgl (r) 5 : Nat), .int .u64 (dgl (r) 6 : Nat), .int .u64 (dgl (r) 7 : Nat)], .bool s]) ∧ Below w.heap.size w w' := by
  have HS := hide (q1St_start n d q pd pn w hd hn 32 32)
  clear hd hn
  go_enter Try.func61, Try.ntmps61
  have hq := HS.out.lq.1
  have hd := HS.out.ld.1
  go_wp2_with fail
  refine (HM.out _).mono ?_
  rintro e w1 ⟨rfl, hb1⟩
  replace HS := hide (HS.out.below hb1)
  clear hb1 hq hd HM
  go_upto_region 2 with fail
  refine wp_gen (fun W => Q1St n d q pd pn w W ∧ LiesF W w1.heap.size (dgl p)) ⟨HS.out.below (below_allocs _ _), liesF_new w1 (dgl p) _⟩ ?_
  clear HS
  generalize w1.heap.size = p6 at *
  rintro W2 h2
  have HS := hide h2
  have hn := h2.1.ln.1
  have hp := h2.2.1
  clear h2
  go_wp2_with fail
  refine (HSU.out _).mono ?_
  rintro e w3 ⟨rfl, hb3⟩
  replace HS := hide (HS.out.1.below hb3)
  clear hb3 hn hp HSU
  have hr := HS.out.lr.1
  have hrl := HS.out.lr.2
  have hrf := HS.out.fr
  have HBE := hide HS.out.bel
  clear HS
  go_wp2
  exact bodyPost_ret (v := .tuple #[.agg #[.int .u64 (dgl (r) 0 : Nat), .int .u64 (dgl (r) 1 : Nat), .int .u64 (dgl (r) 2 : Nat), .int .u64 (dgl (r) 3 : Nat), .int .u64 (dgl (r) 4 : Nat), .int .u64 (dgl (r) 5 : Nat), .int .u64 (dgl (r) 6 : Nat), .int .u64 (dgl (r) 7 : Nat)], .bool s]) (by simp [results, Try.results61, go_sem, hr, hrl]) rfl ⟨rfl, below_set8 HBE.out _ (by omega) _ _ _ _ _ _ _ _⟩

theorem quo1_any (n d q pd pn : Nat) (hn : n < QQ) (hd : d < 2 ^ 120) (hq : q < 2 ^ 210) (w : World) (ld : LiesF w pd (dgl d)) (ln : LiesF w pn (dgl n)) :
    Calls Try.prog 56 #[.agg #[.int .u64 (dgl (q) 0 : Nat), .int .u64 (dgl (q) 1 : Nat), .int .u64 (dgl (q) 2 : Nat), .int .u64 (dgl (q) 3 : Nat), .int .u64 (dgl (q) 4 : Nat), .int .u64 (dgl (q) 5 : Nat), .int .u64 (dgl (q) 6 : Nat), .int .u64 (dgl (q) 7 : Nat)], .pointer (some ⟨pd, 0, none⟩), .pointer (some ⟨pn, 0, none⟩)] w fun e w' => e = .returned (.tuple #[.agg #[.int .u64 (dgl (subQ n (q * d)) 0 : Nat), .int .u64 (dgl (subQ n (q * d)) 1 : Nat), .int .u64 (dgl (subQ n (q * d)) 2 : Nat), .int .u64 (dgl (subQ n (q * d)) 3 : Nat), .int .u64 (dgl (subQ n (q * d)) 4 : Nat), .int .u64 (dgl (subQ n (q * d)) 5 : Nat), .int .u64 (dgl (subQ n (q * d)) 6 : Nat), .int .u64 (dgl (subQ n (q * d)) 7 : Nat)], .bool (decide (n < q * d))]) ∧ Below w.heap.size w w' := by
  have h0 : q * d < QQ := Nat.lt_of_le_of_lt (Nat.mul_le_mul (Nat.le_of_lt hq) (Nat.le_of_lt hd)) (by decide +kernel)
  have h1 : (2 : Nat) ^ 210 < QQ := by decide +kernel
  have h2 : (2 : Nat) ^ 120 < QQ := by decide +kernel
  exact quo1_walk n d q (q * d) _ pd pn _ _ w ld ln (hide fun w => prodMul_any q d (Nat.lt_trans hq h1) (Nat.lt_trans hd h2) w) (hide fun w => wideSub_any n (q * d) hn h0 w)
theorem rot1_any (n q pn : Nat) (hn : n < QQ) (hq : q < 2 ^ 210) (w : World) (ln : LiesF w pn (dgl n)) :
    Calls Try.prog 61 #[.agg #[.int .u64 (dgl (q) 0 : Nat), .int .u64 (dgl (q) 1 : Nat), .int .u64 (dgl (q) 2 : Nat), .int .u64 (dgl (q) 3 : Nat), .int .u64 (dgl (q) 4 : Nat), .int .u64 (dgl (q) 5 : Nat), .int .u64 (dgl (q) 6 : Nat), .int .u64 (dgl (q) 7 : Nat)], .pointer (some ⟨pn, 0, none⟩)] w fun e w' => e = .returned (.tuple #[.agg #[.int .u64 (dgl (subQ n (q * q)) 0 : Nat), .int .u64 (dgl (subQ n (q * q)) 1 : Nat), .int .u64 (dgl (subQ n (q * q)) 2 : Nat), .int .u64 (dgl (subQ n (q * q)) 3 : Nat), .int .u64 (dgl (subQ n (q * q)) 4 : Nat), .int .u64 (dgl (subQ n (q * q)) 5 : Nat), .int .u64 (dgl (subQ n (q * q)) 6 : Nat), .int .u64 (dgl (subQ n (q * q)) 7 : Nat)], .bool (decide (n < q * q))]) ∧ Below w.heap.size w w' := by
  have h0 : q * q < QQ := Nat.lt_of_le_of_lt (Nat.mul_le_mul (Nat.le_of_lt hq) (Nat.le_of_lt hq)) (by decide +kernel)
  have h1 : (2 : Nat) ^ 210 < QQ := by decide +kernel
  exact rot1_walk n n q (q * q) _ pn pn _ _ w ln ln (hide fun w => prodSquare_any q (Nat.lt_trans hq h1) w) (hide fun w => wideSub_any n (q * q) hn h0 w)
end Go.Proofs.Yteocibahclpegaa

