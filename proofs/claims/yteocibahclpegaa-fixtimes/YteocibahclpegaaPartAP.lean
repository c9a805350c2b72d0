/- Contracts and laws: FixB, FixC, RtA, RtB. -/
import Derived.Test.YteocibahclpegaaPartAO
import Derived.Test.YteocibahclpegaaPartAN
import Derived.WalkMore
/- Contracts: fix.right. -/
set_option linter.unusedVariables false
set_option linter.unusedSimpArgs false
set_option maxRecDepth 8000
namespace Go.Proofs.Yteocibahclpegaa
open Go.RowKit Plain
/-- What right goes by: its two results, a number, 1. -/
structure RgS (x p10 p11 : Nat) (w W : World) : Prop where
  r2 : R2St (w.heap.size + 1) (w.heap.size + 2) 0 0 w W
  l10 : LiesF W p10 (dgl x)
  f10 : ∀ i, W.frozen? ⟨p10, i, none⟩ = false
  l11 : LiesF W p11 (dgl 1)
  o10 : w.heap.size + 3 ≤ p10
  o11 : w.heap.size + 3 ≤ p11
  ne : p10 ≠ p11
/-- .. and what is left. -/
structure RgW (x y p10 p11 p12 : Nat) (w W : World) : Prop where
  s : RgS x p10 p11 w W
  l12 : LiesF W p12 (dgl y)
  f12 : ∀ i, W.frozen? ⟨p12, i, none⟩ = false
  n2 : p10 < p12
  n3 : p11 < p12
theorem RgS.below {x p10 p11 : Nat} {w W W' : World} (h : RgS x p10 p11 w W) (hb : Below W.heap.size W W') : RgS x p10 p11 w W' :=
  ⟨h.r2.below hb, h.l10.below hb, fun i => (hb.frozen (p := ⟨p10, i, none⟩) h.l10.2).trans (h.f10 i), h.l11.below hb, h.o10, h.o11, h.ne⟩
theorem RgW.below {x y p10 p11 p12 : Nat} {w W W' : World} (h : RgW x y p10 p11 p12 w W) (hb : Below W.heap.size W W') : RgW x y p10 p11 p12 w W' :=
  ⟨h.s.below hb, h.l12.below hb, fun i => (hb.frozen (p := ⟨p12, i, none⟩) h.l12.2).trans (h.f12 i), h.n2, h.n3⟩
theorem RgW.set10 {x y p10 p11 p12 : Nat} {w W : World} (h : RgW x y p10 p11 p12 w W) (z : Nat) : RgW z y p10 p11 p12 w ((((((((W.setCell ⟨p10, 0, none⟩ (.int .u64 (dgl z 0 : Nat))).setCell ⟨p10, 1, none⟩ (.int .u64 (dgl z 1 : Nat))).setCell ⟨p10, 2, none⟩ (.int .u64 (dgl z 2 : Nat))).setCell ⟨p10, 3, none⟩ (.int .u64 (dgl z 3 : Nat))).setCell ⟨p10, 4, none⟩ (.int .u64 (dgl z 4 : Nat))).setCell ⟨p10, 5, none⟩ (.int .u64 (dgl z 5 : Nat))).setCell ⟨p10, 6, none⟩ (.int .u64 (dgl z 6 : Nat))).setCell ⟨p10, 7, none⟩ (.int .u64 (dgl z 7 : Nat))) := by
  have ho := h.s.o10
  have hne := h.s.ne
  have h2 := h.n2
  exact ⟨⟨h.s.r2.under (below_set8 (Below.refl (w.heap.size + 3) W) p10 ho _ _ _ _ _ _ _ _) (by omega), set8_same W p10 (dgl z) (dgl x) h.s.l10, fun i => by simpa [go_sem] using h.s.f10 i, lies_ne h.s.l11 (Ne.symm hne), ho, h.s.o11, hne⟩, lies_ne h.l12 (by omega), fun i => by simpa [go_sem] using h.f12 i, h2, h.n3⟩
theorem RgW.set12 {x y p10 p11 p12 : Nat} {w W : World} (h : RgW x y p10 p11 p12 w W) (z : Nat) : RgW x z p10 p11 p12 w ((((((((W.setCell ⟨p12, 0, none⟩ (.int .u64 (dgl z 0 : Nat))).setCell ⟨p12, 1, none⟩ (.int .u64 (dgl z 1 : Nat))).setCell ⟨p12, 2, none⟩ (.int .u64 (dgl z 2 : Nat))).setCell ⟨p12, 3, none⟩ (.int .u64 (dgl z 3 : Nat))).setCell ⟨p12, 4, none⟩ (.int .u64 (dgl z 4 : Nat))).setCell ⟨p12, 5, none⟩ (.int .u64 (dgl z 5 : Nat))).setCell ⟨p12, 6, none⟩ (.int .u64 (dgl z 6 : Nat))).setCell ⟨p12, 7, none⟩ (.int .u64 (dgl z 7 : Nat))) := by
  have ho := h.s.o10
  have h2 := h.n2
  have h3 := h.n3
  exact ⟨⟨h.s.r2.under (below_set8 (Below.refl (w.heap.size + 3) W) p12 (by omega) _ _ _ _ _ _ _ _) (by omega), lies_ne h.s.l10 (by omega), fun i => by simpa [go_sem] using h.s.f10 i, lies_ne h.s.l11 (by omega), ho, h.s.o11, h.s.ne⟩, set8_same W p12 (dgl z) (dgl y) h.l12, fun i => by simpa [go_sem] using h.f12 i, h2, h3⟩
theorem rgW_new {x p10 p11 : Nat} {w W : World} (h : RgS x p10 p11 w W) (e : TypeId) : RgW x 0 p10 p11 W.heap.size w (W.alloc (.cells #[.int .u64 0, .int .u64 0, .int .u64 0, .int .u64 0, .int .u64 0, .int .u64 0, .int .u64 0, .int .u64 0] e)) :=
  ⟨h.below (below_allocs _ _), by rw [dgl_z]; exact liesF_new W (fun _ => 0) e, fun i => by simp [go_sem], h.l10.2, h.l11.2⟩
theorem rg_start (G : Nat) (w : World) (e1 e2 e3 : TypeId) : LiesF (((w.alloc (.cells #[.int .u64 (dgl (G) 0 : Nat), .int .u64 (dgl (G) 1 : Nat), .int .u64 (dgl (G) 2 : Nat), .int .u64 (dgl (G) 3 : Nat), .int .u64 (dgl (G) 4 : Nat), .int .u64 (dgl (G) 5 : Nat), .int .u64 (dgl (G) 6 : Nat), .int .u64 (dgl (G) 7 : Nat)] e1)).alloc (.cells #[.int .u64 0, .int .u64 0, .int .u64 0, .int .u64 0, .int .u64 0, .int .u64 0, .int .u64 0, .int .u64 0] e2)).alloc (.cells #[.int .u64 0, .int .u64 0, .int .u64 0, .int .u64 0, .int .u64 0, .int .u64 0, .int .u64 0, .int .u64 0] e3)) w.heap.size (dgl G) ∧ R2St (w.heap.size + 1) (w.heap.size + 2) 0 0 w (((w.alloc (.cells #[.int .u64 (dgl (G) 0 : Nat), .int .u64 (dgl (G) 1 : Nat), .int .u64 (dgl (G) 2 : Nat), .int .u64 (dgl (G) 3 : Nat), .int .u64 (dgl (G) 4 : Nat), .int .u64 (dgl (G) 5 : Nat), .int .u64 (dgl (G) 6 : Nat), .int .u64 (dgl (G) 7 : Nat)] e1)).alloc (.cells #[.int .u64 0, .int .u64 0, .int .u64 0, .int .u64 0, .int .u64 0, .int .u64 0, .int .u64 0, .int .u64 0] e2)).alloc (.cells #[.int .u64 0, .int .u64 0, .int .u64 0, .int .u64 0, .int .u64 0, .int .u64 0, .int .u64 0, .int .u64 0] e3)) := by
  have h := r2_new w (w.alloc (.cells #[.int .u64 (dgl (G) 0 : Nat), .int .u64 (dgl (G) 1 : Nat), .int .u64 (dgl (G) 2 : Nat), .int .u64 (dgl (G) 3 : Nat), .int .u64 (dgl (G) 4 : Nat), .int .u64 (dgl (G) 5 : Nat), .int .u64 (dgl (G) 6 : Nat), .int .u64 (dgl (G) 7 : Nat)] e1)) (below_allocs _ _) e2 e3
  rw [World.size_alloc] at h
  exact ⟨((liesF_new w (dgl G) e1).alloc _).alloc _, h⟩

set_option maxHeartbeats 8000000 in
theorem right_walk (fid : Nat) (caps : Array Value) (G most aw : Nat) (qs lv : Nat → Nat) (ab : Nat → Bool) (w : World) (hmost : most ≤ 100) (HQ0 : Hid (qs 0 = G))
    (hent : ∀ args w, (callFunc fid args).run Try.prog w = .ok (.enter fid args) w)
    (HQL : Hid (∀ j, j ≤ aw → qs j < 2 ^ 210)) (HQU : Hid (∀ j, j ≤ aw → qs j + 1 < 2 ^ 210))
    (HQN : Hid (∀ j, j ≤ aw → ((ab (qs j) = true ∧ ab (qs j + 1) = true) ∧ j < aw ∧ 1 ≤ qs j ∧ qs (j + 1) = qs j - 1) ∨ (ab (qs j) = false ∧ ab (qs j + 1) = true ∧ j = aw) ∨ (ab (qs j) = false ∧ ab (qs j + 1) = false ∧ j < aw ∧ qs (j + 1) = qs j + 1)))
    (HCL : Hid (∀ q V, q < 2 ^ 210 → Below w.heap.size w V → Calls Try.prog fid (#[.agg #[.int .u64 (dgl (q) 0 : Nat), .int .u64 (dgl (q) 1 : Nat), .int .u64 (dgl (q) 2 : Nat), .int .u64 (dgl (q) 3 : Nat), .int .u64 (dgl (q) 4 : Nat), .int .u64 (dgl (q) 5 : Nat), .int .u64 (dgl (q) 6 : Nat), .int .u64 (dgl (q) 7 : Nat)]] ++ caps) V fun e w' => e = .returned (.tuple #[.agg #[.int .u64 (dgl (lv q) 0 : Nat), .int .u64 (dgl (lv q) 1 : Nat), .int .u64 (dgl (lv q) 2 : Nat), .int .u64 (dgl (lv q) 3 : Nat), .int .u64 (dgl (lv q) 4 : Nat), .int .u64 (dgl (lv q) 5 : Nat), .int .u64 (dgl (lv q) 6 : Nat), .int .u64 (dgl (lv q) 7 : Nat)], .bool (ab q)]) ∧ Below V.heap.size V w'))
    (HAD : Hid (∀ j, j ≤ aw → ∀ w, Calls Try.prog 79 #[.agg #[.int .u64 (dgl (qs j) 0 : Nat), .int .u64 (dgl (qs j) 1 : Nat), .int .u64 (dgl (qs j) 2 : Nat), .int .u64 (dgl (qs j) 3 : Nat), .int .u64 (dgl (qs j) 4 : Nat), .int .u64 (dgl (qs j) 5 : Nat), .int .u64 (dgl (qs j) 6 : Nat), .int .u64 (dgl (qs j) 7 : Nat)], .agg #[.int .u64 (dgl (1) 0 : Nat), .int .u64 (dgl (1) 1 : Nat), .int .u64 (dgl (1) 2 : Nat), .int .u64 (dgl (1) 3 : Nat), .int .u64 (dgl (1) 4 : Nat), .int .u64 (dgl (1) 5 : Nat), .int .u64 (dgl (1) 6 : Nat), .int .u64 (dgl (1) 7 : Nat)]] w fun e w' => ∃ t, e = .returned (.tuple #[.agg #[.int .u64 (dgl (qs j + 1) 0 : Nat), .int .u64 (dgl (qs j + 1) 1 : Nat), .int .u64 (dgl (qs j + 1) 2 : Nat), .int .u64 (dgl (qs j + 1) 3 : Nat), .int .u64 (dgl (qs j + 1) 4 : Nat), .int .u64 (dgl (qs j + 1) 5 : Nat), .int .u64 (dgl (qs j + 1) 6 : Nat), .int .u64 (dgl (qs j + 1) 7 : Nat)], .bool t]) ∧ Below w.heap.size w w'))
    (HSU : Hid (∀ j, j ≤ aw → 1 ≤ qs j → ∀ w, Calls Try.prog 58 #[.agg #[.int .u64 (dgl (qs j) 0 : Nat), .int .u64 (dgl (qs j) 1 : Nat), .int .u64 (dgl (qs j) 2 : Nat), .int .u64 (dgl (qs j) 3 : Nat), .int .u64 (dgl (qs j) 4 : Nat), .int .u64 (dgl (qs j) 5 : Nat), .int .u64 (dgl (qs j) 6 : Nat), .int .u64 (dgl (qs j) 7 : Nat)], .agg #[.int .u64 (dgl (1) 0 : Nat), .int .u64 (dgl (1) 1 : Nat), .int .u64 (dgl (1) 2 : Nat), .int .u64 (dgl (1) 3 : Nat), .int .u64 (dgl (1) 4 : Nat), .int .u64 (dgl (1) 5 : Nat), .int .u64 (dgl (1) 6 : Nat), .int .u64 (dgl (1) 7 : Nat)]] w fun e w' => ∃ t, e = .returned (.tuple #[.agg #[.int .u64 (dgl (qs j - 1) 0 : Nat), .int .u64 (dgl (qs j - 1) 1 : Nat), .int .u64 (dgl (qs j - 1) 2 : Nat), .int .u64 (dgl (qs j - 1) 3 : Nat), .int .u64 (dgl (qs j - 1) 4 : Nat), .int .u64 (dgl (qs j - 1) 5 : Nat), .int .u64 (dgl (qs j - 1) 6 : Nat), .int .u64 (dgl (qs j - 1) 7 : Nat)], .bool t]) ∧ Below w.heap.size w w')) :
    Calls Try.prog 55 #[.agg #[.int .u64 (dgl (G) 0 : Nat), .int .u64 (dgl (G) 1 : Nat), .int .u64 (dgl (G) 2 : Nat), .int .u64 (dgl (G) 3 : Nat), .int .u64 (dgl (G) 4 : Nat), .int .u64 (dgl (G) 5 : Nat), .int .u64 (dgl (G) 6 : Nat), .int .u64 (dgl (G) 7 : Nat)], .int .i64 (most : Nat), .func (.func fid) #[] caps] w fun e w' => (e = .returned (.tuple #[.agg #[.int .u64 (dgl (qs aw) 0 : Nat), .int .u64 (dgl (qs aw) 1 : Nat), .int .u64 (dgl (qs aw) 2 : Nat), .int .u64 (dgl (qs aw) 3 : Nat), .int .u64 (dgl (qs aw) 4 : Nat), .int .u64 (dgl (qs aw) 5 : Nat), .int .u64 (dgl (qs aw) 6 : Nat), .int .u64 (dgl (qs aw) 7 : Nat)], .agg #[.int .u64 (dgl (lv (qs aw)) 0 : Nat), .int .u64 (dgl (lv (qs aw)) 1 : Nat), .int .u64 (dgl (lv (qs aw)) 2 : Nat), .int .u64 (dgl (lv (qs aw)) 3 : Nat), .int .u64 (dgl (lv (qs aw)) 4 : Nat), .int .u64 (dgl (lv (qs aw)) 5 : Nat), .int .u64 (dgl (lv (qs aw)) 6 : Nat), .int .u64 (dgl (lv (qs aw)) 7 : Nat)], .int .i64 (aw : Nat), .int .i64 0]) ∧ aw ≤ most ∧ Below w.heap.size w w') ∨ (e = .returned (.tuple #[.agg #[.int .u64 0, .int .u64 0, .int .u64 0, .int .u64 0, .int .u64 0, .int .u64 0, .int .u64 0, .int .u64 0], .agg #[.int .u64 0, .int .u64 0, .int .u64 0, .int .u64 0, .int .u64 0, .int .u64 0, .int .u64 0, .int .u64 0], .int .i64 0, .int .i64 6]) ∧ most < aw ∧ Below w.heap.size w w') := by
  have HO1 : Hid (∀ i, i < 8 → dg [1] i = dgl 1 i) := fun i hi => (dig_one (β := 18446744073709551616) (show 1 < 18446744073709551616 by omega)).2 i
  have HS := hide (rg_start G w 32 32 32)
  go_enter Try.func55, Try.ntmps55
  go_upto_region 1 with fail
  refine wp_gen (fun W => LiesF W w.heap.size (dgl G) ∧ R2St (w.heap.size + 1) (w.heap.size + 2) 0 0 w W) HS.out ?_
  clear HS
  rintro W1 h1
  go_step3
  refine wp_seq ?_
  refine wp_region_storeL 7 [5, 6] [10, 11] [20, 21, 22, 10, 11] (fun bs => [(20, .val (.agg #[.int .u64 (dgl (G) 0 : Nat), .int .u64 (dgl (G) 1 : Nat), .int .u64 (dgl (G) 2 : Nat), .int .u64 (dgl (G) 3 : Nat), .int .u64 (dgl (G) 4 : Nat), .int .u64 (dgl (G) 5 : Nat), .int .u64 (dgl (G) 6 : Nat), .int .u64 (dgl (G) 7 : Nat)])), (21, bif (bs.headD false || bs.tail.headD false) then SlotIs.any else SlotIs.rd [1]), (22, .val (.agg #[.int .u64 (dgl (1) 0 : Nat), .int .u64 (dgl (1) 1 : Nat), .int .u64 (dgl (1) 2 : Nat), .int .u64 (dgl (1) 3 : Nat), .int .u64 (dgl (1) 4 : Nat), .int .u64 (dgl (1) 5 : Nat), .int .u64 (dgl (1) 6 : Nat), .int .u64 (dgl (1) 7 : Nat)])), (10, bif bs.headD false then SlotIs.box (w.heap.size + 3) (dgl G) else SlotIs.box (w.heap.size + 3) (fun _ => 0)), (11, bif bs.tail.headD false then SlotIs.box (w.heap.size + 3) (dgl 1) else SlotIs.box (w.heap.size + 3) (fun _ => 0))])
    (fun _ W => LiesF W w.heap.size (dgl G) ∧ R2St (w.heap.size + 1) (w.heap.size + 2) 0 0 w W) (fun bs => rfl) mixedOk (by kernel_rfl) (by kernel_rfl) (by kernel_rfl) (apart_start (by kernel_rfl)) (⟨h1.1.below (Below.refl _ _).drew, h1.2.below (Below.refl _ _).drew⟩) (fun bs W W' h hb => ⟨h.1.below hb, h.2.below hb⟩) ?_ ?_
  · refine jSt rfl rfl (fun φ hφ => gStep_run rfl ?_) ?_
    · intro ρ W hC hc hf hL
      have e3 : ρ (.tmp 3) = .pointer (some ⟨w.heap.size, 0, none⟩) := hL 3 (by decide +kernel)
      have hl := hC.1.1
      simp [go_sem, hc, hf, e3, hl]
      exact ⟨Below.refl _ _, rfl⟩
    refine jSt rfl rfl (fun φ hφ => gStep_run rfl ?_) ?_
    · intro ρ W hC hc hf hL
      simp [go_sem, hc, hf]
      refine ⟨below_allocs _ _, ?_⟩
      show (bif (φ 5 || φ 6) then SlotIs.any else SlotIs.rd [1]).R _ _
      cases hh : (φ 5 || φ 6)
      · exact Rd.lit (mk := mk64) W 24 [.int .u64 1] [1] rfl 1 (Nat.le_refl 1) (by decide)
      · trivial
    refine jSt rfl rfl (fun φ hφ => gStep_run rfl ?_) ?_
    · intro ρ W hC hc hf hL
      have hφ0 : φ 5 = false := hφ 5 (by simp) (by kernel_rfl)
      have hφ1 : φ 6 = false := hφ 6 (by simp) (by kernel_rfl)
      have b21 : (bif (φ 5 || φ 6) then SlotIs.any else SlotIs.rd [1]).R (ρ (.tmp 21)) W := hL 21 (by decide +kernel)
      rw [hφ0, hφ1, Bool.or_false] at b21
      simp [go_sem, hc, hf]
      refine (wideOf_any [1] 1 _ _ b21 HO1.out).mono ?_
      rintro e w' ⟨rfl, hb⟩
      exact ⟨_, rfl, by first | exact hb | (subst hb; exact Below.refl _ _), rfl⟩
    refine jStF rfl rfl (fun φ hφ => ⟨rfl, ?_⟩) ?_
    · intro ρ W hC hc hL
      have hφ0 : φ 5 = false := hφ 5 (by simp) (by kernel_rfl)
      simp [go_sem, hc]
      refine ⟨⟨below_allocs _ _, ?_⟩, fun b hb => by cases hb; simp⟩
      show (bif φ 5 then SlotIs.box (w.heap.size + 3) (dgl G) else SlotIs.box (w.heap.size + 3) (fun _ => 0)).R _ _
      rw [hφ0]
      exact ⟨_, rfl, hC.2.ly.2, liesF_new _ (fun _ => 0) _, fun i => by simp [go_sem]⟩
    refine jStF rfl rfl (fun φ hφ => ⟨rfl, ?_⟩) ?_
    · intro ρ W hC hc hL
      have hφ0 : φ 6 = false := hφ 6 (by simp) (by kernel_rfl)
      simp [go_sem, hc]
      refine ⟨⟨below_allocs _ _, ?_⟩, fun b hb => by cases hb; simp⟩
      show (bif φ 6 then SlotIs.box (w.heap.size + 3) (dgl 1) else SlotIs.box (w.heap.size + 3) (fun _ => 0)).R _ _
      rw [hφ0]
      exact ⟨_, rfl, hC.2.ly.2, liesF_new _ (fun _ => 0) _, fun i => by simp [go_sem]⟩
    refine jStS rfl ⟨rfl, rfl, ?_⟩ ?_
    · intro φ ρ W hφ hC hc hap hL
      have b10 := hL 10 (by decide +kernel)
      have e20 : ρ (.tmp 20) = .agg #[.int .u64 (dgl (G) 0 : Nat), .int .u64 (dgl (G) 1 : Nat), .int .u64 (dgl (G) 2 : Nat), .int .u64 (dgl (G) 3 : Nat), .int .u64 (dgl (G) 4 : Nat), .int .u64 (dgl (G) 5 : Nat), .int .u64 (dgl (G) 6 : Nat), .int .u64 (dgl (G) 7 : Nat)] := hL 20 (by decide +kernel)
      have b10 : (bif φ 5 then SlotIs.box (w.heap.size + 3) (dgl G) else SlotIs.box (w.heap.size + 3) (fun _ => 0)).R (ρ (.tmp 10)) W := hL 10 (by decide +kernel)
      rw [hφ] at b10
      obtain ⟨pp, ep, qp, lp, zp⟩ := b10
      have hz := lp.1
      have hzl := lp.2
      refine gUpon_of ((((((((W.setCell ⟨pp, 0, none⟩ (.int .u64 (dgl G 0 : Nat))).setCell ⟨pp, 1, none⟩ (.int .u64 (dgl G 1 : Nat))).setCell ⟨pp, 2, none⟩ (.int .u64 (dgl G 2 : Nat))).setCell ⟨pp, 3, none⟩ (.int .u64 (dgl G 3 : Nat))).setCell ⟨pp, 4, none⟩ (.int .u64 (dgl G 4 : Nat))).setCell ⟨pp, 5, none⟩ (.int .u64 (dgl G 5 : Nat))).setCell ⟨pp, 6, none⟩ (.int .u64 (dgl G 6 : Nat))).setCell ⟨pp, 7, none⟩ (.int .u64 (dgl G 7 : Nat))) ?_ (fun _ => ?_)
      · simp [go_sem, hc, e20, ep, hz, hzl, zp, gUpon]
      have hs8 := below_set8 (Below.refl (w.heap.size + 3) W) pp qp (.int .u64 (dgl G 0 : Nat)) (.int .u64 (dgl G 1 : Nat)) (.int .u64 (dgl G 2 : Nat)) (.int .u64 (dgl G 3 : Nat)) (.int .u64 (dgl G 4 : Nat)) (.int .u64 (dgl G 5 : Nat)) (.int .u64 (dgl G 6 : Nat)) (.int .u64 (dgl G 7 : Nat))
      have hne : ρ (.tmp 11) ≠ .pointer (some ⟨pp, 0, none⟩) := hap.2 10 (by decide) 11 (by decide) (by decide) pp ep
      refine ⟨⟨lies_box hC.1 hs8 (by omega), hC.2.under hs8 (by omega)⟩, hs8.size, fun t => ?_⟩
      refine (tbl_imp rfl (fun _ => val_imp) (tbl_imp rfl (fun ht h => ?_) (tbl_imp rfl (fun _ => val_imp) (tbl_imp rfl (fun ht h => ?_) (tbl_imp rfl (fun ht h => ?_) tbl_nil_imp)))))
      · subst ht
        show (bif ((φ 5 || true) || (φ 6 || false)) then SlotIs.any else SlotIs.rd [1]).R _ _
        rw [Bool.or_true, Bool.true_or]
        trivial
      · subst ht
        show (bif (φ 5 || true) then SlotIs.box (w.heap.size + 3) (dgl G) else SlotIs.box (w.heap.size + 3) (fun _ => 0)).R _ _
        rw [Bool.or_true]
        exact ⟨pp, ep, qp, set8_same W pp (dgl G) (fun _ => 0) lp, fun i => by simpa [go_sem] using zp i⟩
      · subst ht
        show (bif (φ 6 || false) then SlotIs.box (w.heap.size + 3) (dgl 1) else SlotIs.box (w.heap.size + 3) (fun _ => 0)).R _ _
        rw [Bool.or_false]
        replace h : (bif φ 6 then SlotIs.box (w.heap.size + 3) (dgl 1) else SlotIs.box (w.heap.size + 3) (fun _ => 0)).R (ρ (.tmp 11)) W := h
        cases hφ2 : φ 6
        · rw [hφ2] at h; exact box_other h hne
        · rw [hφ2] at h; exact box_other h hne
    refine jStS rfl ⟨rfl, rfl, ?_⟩ ?_
    · intro φ ρ W hφ hC hc hap hL
      have b11 := hL 11 (by decide +kernel)
      have e22 : ρ (.tmp 22) = .agg #[.int .u64 (dgl (1) 0 : Nat), .int .u64 (dgl (1) 1 : Nat), .int .u64 (dgl (1) 2 : Nat), .int .u64 (dgl (1) 3 : Nat), .int .u64 (dgl (1) 4 : Nat), .int .u64 (dgl (1) 5 : Nat), .int .u64 (dgl (1) 6 : Nat), .int .u64 (dgl (1) 7 : Nat)] := hL 22 (by decide +kernel)
      have b11 : (bif φ 6 then SlotIs.box (w.heap.size + 3) (dgl 1) else SlotIs.box (w.heap.size + 3) (fun _ => 0)).R (ρ (.tmp 11)) W := hL 11 (by decide +kernel)
      rw [hφ] at b11
      obtain ⟨pp, ep, qp, lp, zp⟩ := b11
      have hz := lp.1
      have hzl := lp.2
      refine gUpon_of ((((((((W.setCell ⟨pp, 0, none⟩ (.int .u64 (dgl 1 0 : Nat))).setCell ⟨pp, 1, none⟩ (.int .u64 (dgl 1 1 : Nat))).setCell ⟨pp, 2, none⟩ (.int .u64 (dgl 1 2 : Nat))).setCell ⟨pp, 3, none⟩ (.int .u64 (dgl 1 3 : Nat))).setCell ⟨pp, 4, none⟩ (.int .u64 (dgl 1 4 : Nat))).setCell ⟨pp, 5, none⟩ (.int .u64 (dgl 1 5 : Nat))).setCell ⟨pp, 6, none⟩ (.int .u64 (dgl 1 6 : Nat))).setCell ⟨pp, 7, none⟩ (.int .u64 (dgl 1 7 : Nat))) ?_ (fun _ => ?_)
      · simp [go_sem, hc, e22, ep, hz, hzl, zp, gUpon]
      have hs8 := below_set8 (Below.refl (w.heap.size + 3) W) pp qp (.int .u64 (dgl 1 0 : Nat)) (.int .u64 (dgl 1 1 : Nat)) (.int .u64 (dgl 1 2 : Nat)) (.int .u64 (dgl 1 3 : Nat)) (.int .u64 (dgl 1 4 : Nat)) (.int .u64 (dgl 1 5 : Nat)) (.int .u64 (dgl 1 6 : Nat)) (.int .u64 (dgl 1 7 : Nat))
      have hne : ρ (.tmp 10) ≠ .pointer (some ⟨pp, 0, none⟩) := hap.2 11 (by decide) 10 (by decide) (by decide) pp ep
      refine ⟨⟨lies_box hC.1 hs8 (by omega), hC.2.under hs8 (by omega)⟩, hs8.size, fun t => ?_⟩
      refine (tbl_imp rfl (fun _ => val_imp) (tbl_imp rfl (fun ht h => ?_) (tbl_imp rfl (fun _ => val_imp) (tbl_imp rfl (fun ht h => ?_) (tbl_imp rfl (fun ht h => ?_) tbl_nil_imp)))))
      · subst ht
        show (bif ((φ 5 || false) || (φ 6 || true)) then SlotIs.any else SlotIs.rd [1]).R _ _
        rw [Bool.or_true, Bool.or_true]
        trivial
      · subst ht
        show (bif (φ 5 || false) then SlotIs.box (w.heap.size + 3) (dgl G) else SlotIs.box (w.heap.size + 3) (fun _ => 0)).R _ _
        rw [Bool.or_false]
        replace h : (bif φ 5 then SlotIs.box (w.heap.size + 3) (dgl G) else SlotIs.box (w.heap.size + 3) (fun _ => 0)).R (ρ (.tmp 10)) W := h
        cases hφ2 : φ 5
        · rw [hφ2] at h; exact box_other h hne
        · rw [hφ2] at h; exact box_other h hne
      · subst ht
        show (bif (φ 6 || true) then SlotIs.box (w.heap.size + 3) (dgl 1) else SlotIs.box (w.heap.size + 3) (fun _ => 0)).R _ _
        rw [Bool.or_true]
        exact ⟨pp, ep, qp, set8_same W pp (dgl 1) (fun _ => 0) lp, fun i => by simpa [go_sem] using zp i⟩
    exact jSt0
  · intro W hC
    refine gFi 20 rfl ?_
    rintro _ rfl
    refine gFi 21 rfl ?_
    rintro u21 b21
    refine gFi 22 rfl ?_
    rintro _ rfl
    refine gFi 10 rfl ?_
    rintro _ ⟨p10, rfl, q10, l10, z10⟩
    refine gFi 11 rfl ?_
    rintro _ ⟨p11, rfl, q11, l11, z11⟩
    refine gFiN rfl ?_
    refine gFiN rfl ?_
    refine gFi0 ?_
    simp only [List.drop_succ_cons, List.drop_zero, Act.put, List.setIfInBounds_toArray, List.set_cons_succ, List.set_cons_zero]
    intro hap
    have hne : p10 ≠ p11 := fun he => by
      subst he
      exact hap.2 10 (by decide) 11 (by decide) (by decide) p10 rfl rfl
    clear hap b21
    have HS := hide (show RgS G p10 p11 w W from ⟨hC.2, l10, z10, l11, q10, q11, hne⟩)
    clear hC l10 z10 l11 z11 q10 q11 hne h1 HO1
    go_upto_region 3 with fail
    refine wp_gen (fun V => RgW G 0 p10 p11 W.heap.size w V) (rgW_new HS.out _) ?_
    clear HS
    generalize W.heap.size = p12 at *
    rintro W3 h3
    have HS := hide h3
    clear h3
    go_wp2
    go_step3
    go_wp2
    go_loopw [13] (fun t wr => ∃ j : Nat, j ≤ most + 1 ∧ j ≤ aw ∧ t = .int .i64 j ∧ Hid (RgW (qs j) 0 p10 p11 p12 w wr))
      (fun t _ => most + 1 - (intOf t).toNat)
    case atStart => exact ⟨0, by omega, by omega, rfl, hide (by rw [HQ0.out]; exact HS.out)⟩
    case round =>
      clear HS
      obtain ⟨j, hjm, hja, rfl, HS⟩ := hrel
      by_cases hle : j ≤ most
      · have hle2 : (j : Int) ≤ (most : Int) := by omega
        rcases HQN.out j hja with ⟨h1, hlt, hpos, hnx⟩ | ⟨h1, h2, he⟩ | ⟨h1, h2, hlt, hnx⟩
        · obtain ⟨h1, h2⟩ := h1
          have HC1 := hide (HCL.out (qs j) wr (HQL.out j hja) HS.out.s.r2.bel)
          rw [h1] at HC1
          have hl := HS.out.s.l10.1
          go_wp2_with fail
          refine HC1.out.mono ?_
          rintro e w1 ⟨rfl, hb1⟩
          replace HS := hide (HS.out.below hb1)
          clear hb1 hl HC1
          go_upto_region 7 with fail
          refine wp_gen (fun W => RgW (qs j) 0 p10 p11 p12 w W ∧ LiesF W w1.heap.size (dgl (lv (qs j)))) ⟨HS.out.below (below_allocs _ _), liesF_new w1 (dgl (lv (qs j))) _⟩ ?_
          clear HS
          generalize w1.heap.size = p14 at *
          rintro W7 h7
          have HS := hide h7
          have hl := h7.1.s.l10.1
          have hk := h7.1.s.l11.1
          clear h7
          go_wp2_with fail
          refine (HAD.out j hja _).mono ?_
          rintro e w2 ⟨t2, rfl, hb2⟩
          replace HS := hide (show RgW (qs j) 0 p10 p11 p12 w w2 ∧ LiesF w2 p14 (dgl (lv (qs j))) from ⟨HS.out.1.below hb2, HS.out.2.below hb2⟩)
          clear hb2 hl hk
          go_upto_region 8 with fail
          refine wp_gen (fun W => RgW (qs j) 0 p10 p11 p12 w W ∧ LiesF W p14 (dgl (lv (qs j))) ∧ LiesF W w2.heap.size (dgl (qs j + 1))) ⟨HS.out.1.below (below_allocs _ _), HS.out.2.below (below_allocs _ _), liesF_new w2 (dgl (qs j + 1)) _⟩ ?_
          clear HS
          generalize w2.heap.size = p16 at *
          rintro W8 h8
          have HS := hide h8
          have hl := h8.2.2.1
          clear h8
          have HC2 := hide (HCL.out (qs j + 1) W8 (HQU.out j hja) HS.out.1.s.r2.bel)
          rw [h2] at HC2
          go_wp2_with fail
          refine HC2.out.mono ?_
          rintro e w3 ⟨rfl, hb3⟩
          replace HS := hide (show RgW (qs j) 0 p10 p11 p12 w w3 ∧ LiesF w3 p14 (dgl (lv (qs j))) ∧ LiesF w3 p16 (dgl (qs j + 1)) from ⟨HS.out.1.below hb3, HS.out.2.1.below hb3, HS.out.2.2.below hb3⟩)
          clear hb3 hl HC2
          go_upto_region 10 with fail
          refine wp_gen (fun W => RgW (qs j) 0 p10 p11 p12 w W ∧ LiesF W p14 (dgl (lv (qs j))) ∧ LiesF W p16 (dgl (qs j + 1))) ⟨HS.out.1.below (below_allocs _ _), HS.out.2.1.below (below_allocs _ _), HS.out.2.2.below (below_allocs _ _)⟩ ?_
          clear HS
          rintro W9 h9
          have HS := hide h9
          clear h9
          have hl := HS.out.1.s.l10.1
          have hk := HS.out.1.s.l11.1
          go_wp2_with fail
          refine (HSU.out j hja hpos _).mono ?_
          rintro e w4 ⟨t4, rfl, hb4⟩
          replace HS := hide (HS.out.1.below hb4)
          clear hb4 hl hk
          have hz := HS.out.s.l10.1
          have hzl := HS.out.s.l10.2
          have hzf := HS.out.s.f10
          have hw : IntKind.i64.wrap ((j : Int) + 1) = ((j + 1 : Nat) : Int) := by rw [IntKind.wrap_i64]; omega
          have HS2 := hide (HS.out.set10 (qs j - 1))
          clear HS
          go_wp2
          go_roundw
          case rel => exact ⟨j + 1, by omega, by omega, rfl, hide (by rw [hnx]; exact HS2.out)⟩
          case measure => first | (simp [intOf]; done) | (simp [intOf]; omega)
        · obtain rfl : j = aw := he
          have HC1 := hide (HCL.out (qs j) wr (HQL.out j hja) HS.out.s.r2.bel)
          rw [h1] at HC1
          have hl := HS.out.s.l10.1
          go_wp2_with fail
          refine HC1.out.mono ?_
          rintro e w1 ⟨rfl, hb1⟩
          replace HS := hide (HS.out.below hb1)
          clear hb1 hl HC1
          go_upto_region 7 with fail
          refine wp_gen (fun W => RgW (qs j) 0 p10 p11 p12 w W ∧ LiesF W w1.heap.size (dgl (lv (qs j)))) ⟨HS.out.below (below_allocs _ _), liesF_new w1 (dgl (lv (qs j))) _⟩ ?_
          clear HS
          generalize w1.heap.size = p14 at *
          rintro W7 h7
          have HS := hide h7
          have hl := h7.1.s.l10.1
          have hk := h7.1.s.l11.1
          clear h7
          go_wp2_with fail
          refine (HAD.out j hja _).mono ?_
          rintro e w2 ⟨t2, rfl, hb2⟩
          replace HS := hide (show RgW (qs j) 0 p10 p11 p12 w w2 ∧ LiesF w2 p14 (dgl (lv (qs j))) from ⟨HS.out.1.below hb2, HS.out.2.below hb2⟩)
          clear hb2 hl hk
          go_upto_region 8 with fail
          refine wp_gen (fun W => RgW (qs j) 0 p10 p11 p12 w W ∧ LiesF W p14 (dgl (lv (qs j))) ∧ LiesF W w2.heap.size (dgl (qs j + 1))) ⟨HS.out.1.below (below_allocs _ _), HS.out.2.below (below_allocs _ _), liesF_new w2 (dgl (qs j + 1)) _⟩ ?_
          clear HS
          generalize w2.heap.size = p16 at *
          rintro W8 h8
          have HS := hide h8
          have hl := h8.2.2.1
          clear h8
          have HC2 := hide (HCL.out (qs j + 1) W8 (HQU.out j hja) HS.out.1.s.r2.bel)
          rw [h2] at HC2
          go_wp2_with fail
          refine HC2.out.mono ?_
          rintro e w3 ⟨rfl, hb3⟩
          replace HS := hide (show RgW (qs j) 0 p10 p11 p12 w w3 ∧ LiesF w3 p14 (dgl (lv (qs j))) ∧ LiesF w3 p16 (dgl (qs j + 1)) from ⟨HS.out.1.below hb3, HS.out.2.1.below hb3, HS.out.2.2.below hb3⟩)
          clear hb3 hl HC2
          go_upto_region 10 with fail
          refine wp_gen (fun W => RgW (qs j) 0 p10 p11 p12 w W ∧ LiesF W p14 (dgl (lv (qs j))) ∧ LiesF W p16 (dgl (qs j + 1))) ⟨HS.out.1.below (below_allocs _ _), HS.out.2.1.below (below_allocs _ _), HS.out.2.2.below (below_allocs _ _)⟩ ?_
          clear HS
          rintro W9 h9
          have HS := hide h9
          clear h9
          have hl := HS.out.2.1.1
          have hz := HS.out.1.l12.1
          have hzl := HS.out.1.l12.2
          have hzf := HS.out.1.f12
          have HS2 := hide (HS.out.1.set12 (lv (qs j)))
          clear HS
          have hgt : ¬ (most : Int) < (j : Int) := by omega
          go_upto_region 16 with fail
          refine wp_gen (fun W => RgW (qs j) (lv (qs j)) p10 p11 p12 w W) HS2.out ?_
          clear HS2 hl hz hzl hzf
          rintro W h10
          have HS6 := hide (show R2St (w.heap.size + 1) (w.heap.size + 2) 0 0 w W ∧ LiesF W p10 (dgl (qs j)) ∧ LiesF W p12 (dgl (lv (qs j))) from ⟨h10.s.r2, h10.s.l10, h10.l12⟩)
          have HNE := hide (show w.heap.size + 3 ≤ p10 ∧ w.heap.size + 3 ≤ p12 from ⟨h10.s.o10, by have := h10.s.o10; have := h10.n2; omega⟩)
          clear h10
          refine wp_region_storeK 7 [3, 4] [63, 64, 65, 8, 9] (fun bs => [(63, .val (.agg #[.int .u64 (dgl ((qs j)) 0 : Nat), .int .u64 (dgl ((qs j)) 1 : Nat), .int .u64 (dgl ((qs j)) 2 : Nat), .int .u64 (dgl ((qs j)) 3 : Nat), .int .u64 (dgl ((qs j)) 4 : Nat), .int .u64 (dgl ((qs j)) 5 : Nat), .int .u64 (dgl ((qs j)) 6 : Nat), .int .u64 (dgl ((qs j)) 7 : Nat)])), (64, .val (.agg #[.int .u64 (dgl ((lv (qs j))) 0 : Nat), .int .u64 (dgl ((lv (qs j))) 1 : Nat), .int .u64 (dgl ((lv (qs j))) 2 : Nat), .int .u64 (dgl ((lv (qs j))) 3 : Nat), .int .u64 (dgl ((lv (qs j))) 4 : Nat), .int .u64 (dgl ((lv (qs j))) 5 : Nat), .int .u64 (dgl ((lv (qs j))) 6 : Nat), .int .u64 (dgl ((lv (qs j))) 7 : Nat)])), (65, .val (.int .i64 (j : Nat))), (8, .val (.int .i64 (j : Nat))), (9, .val (.int .i64 0))])
            (fun bs W => (∀ c e, bs.headD false = c → bs.tail.headD false = e → R2St (w.heap.size + 1) (w.heap.size + 2) (bif c then (qs j) else 0) (bif e then (lv (qs j)) else 0) w W) ∧ LiesF W p10 (dgl ((qs j))) ∧ LiesF W p12 (dgl ((lv (qs j))))) (fun bs => rfl) mixedOk (by kernel_rfl) (by kernel_rfl) (by kernel_rfl) (⟨fun c e hc he => by subst hc; subst he; exact (HS6.out).1.below (Below.refl _ _).drew, (HS6.out).2.1.below (Below.refl _ _).drew, (HS6.out).2.2.below (Below.refl _ _).drew⟩) (fun bs W W' h hb => ⟨fun c e hc he => (h.1 c e hc he).below hb, h.2.1.below hb, h.2.2.below hb⟩) ?_ ?_
          · refine kSt rfl (fun φ hφ => gStep_run rfl ?_) ?_
            · intro ρ W hC hc hf hL
              have e10 : ρ (.tmp 10) = .pointer (some ⟨p10, 0, none⟩) := hL 10 (by decide +kernel)
              have hl := hC.2.1.1
              simp [go_sem, hc, hf, e10, hl]
              exact ⟨Below.refl _ _, rfl⟩
            refine kSt rfl (fun φ hφ => gStep_run rfl ?_) ?_
            · intro ρ W hC hc hf hL
              have e12 : ρ (.tmp 12) = .pointer (some ⟨p12, 0, none⟩) := hL 12 (by decide +kernel)
              have hl := hC.2.2.1
              simp [go_sem, hc, hf, e12, hl]
              exact ⟨Below.refl _ _, rfl⟩
            refine kSt rfl (fun φ hφ => gStep_run rfl (gRun_move 13 65 (.inl rfl) rfl (by decide +kernel) (fun v w h => h))) ?_
            refine kStS rfl ⟨rfl, rfl, ?_⟩ ?_
            · intro φ ρ W hφ hC hc hL
              have e6 : ρ (.tmp 6) = .pointer (some ⟨w.heap.size + 1, 0, none⟩) := hL 6 (by decide +kernel)
              have e63 : ρ (.tmp 63) = .agg #[.int .u64 (dgl ((qs j)) 0 : Nat), .int .u64 (dgl ((qs j)) 1 : Nat), .int .u64 (dgl ((qs j)) 2 : Nat), .int .u64 (dgl ((qs j)) 3 : Nat), .int .u64 (dgl ((qs j)) 4 : Nat), .int .u64 (dgl ((qs j)) 5 : Nat), .int .u64 (dgl ((qs j)) 6 : Nat), .int .u64 (dgl ((qs j)) 7 : Nat)] := hL 63 (by decide +kernel)
              have g : R2St (w.heap.size + 1) (w.heap.size + 2) 0 (bif φ 4 then (lv (qs j)) else 0) w W := hC.1 false (φ 4) (by simp [hφ]) rfl
              have hz := g.lx.1
              have hzl := g.lx.2
              have hzf := g.fx
              have hne := HNE.out
              refine gUpon_of ((((((((W.setCell ⟨w.heap.size + 1, 0, none⟩ (.int .u64 (dgl ((qs j)) 0 : Nat))).setCell ⟨w.heap.size + 1, 1, none⟩ (.int .u64 (dgl ((qs j)) 1 : Nat))).setCell ⟨w.heap.size + 1, 2, none⟩ (.int .u64 (dgl ((qs j)) 2 : Nat))).setCell ⟨w.heap.size + 1, 3, none⟩ (.int .u64 (dgl ((qs j)) 3 : Nat))).setCell ⟨w.heap.size + 1, 4, none⟩ (.int .u64 (dgl ((qs j)) 4 : Nat))).setCell ⟨w.heap.size + 1, 5, none⟩ (.int .u64 (dgl ((qs j)) 5 : Nat))).setCell ⟨w.heap.size + 1, 6, none⟩ (.int .u64 (dgl ((qs j)) 6 : Nat))).setCell ⟨w.heap.size + 1, 7, none⟩ (.int .u64 (dgl ((qs j)) 7 : Nat))) ?_ (fun _ => ?_)
              · simp [go_sem, hc, e6, e63, hz, hzl, hzf, gUpon]
              refine ⟨⟨fun c e hc he => ?_, lies_ne hC.2.1 (by omega), lies_ne hC.2.2 (by omega)⟩, fun t => ?_⟩
              · have hc1 : c = true := by rw [← hc]; simp
                have he1 : e = (φ 4) := by rw [← he]; simp
                subst hc1
                subst he1
                exact g.set1 _
              refine (tbl_imp rfl (fun _ => val_imp) (tbl_imp rfl (fun _ => val_imp) (tbl_imp rfl (fun _ => val_imp) (tbl_imp rfl (fun _ => val_imp) (tbl_imp rfl (fun _ => val_imp) tbl_nil_imp)))))
            refine kStS rfl ⟨rfl, rfl, ?_⟩ ?_
            · intro φ ρ W hφ hC hc hL
              have e7 : ρ (.tmp 7) = .pointer (some ⟨w.heap.size + 2, 0, none⟩) := hL 7 (by decide +kernel)
              have e64 : ρ (.tmp 64) = .agg #[.int .u64 (dgl ((lv (qs j))) 0 : Nat), .int .u64 (dgl ((lv (qs j))) 1 : Nat), .int .u64 (dgl ((lv (qs j))) 2 : Nat), .int .u64 (dgl ((lv (qs j))) 3 : Nat), .int .u64 (dgl ((lv (qs j))) 4 : Nat), .int .u64 (dgl ((lv (qs j))) 5 : Nat), .int .u64 (dgl ((lv (qs j))) 6 : Nat), .int .u64 (dgl ((lv (qs j))) 7 : Nat)] := hL 64 (by decide +kernel)
              have g : R2St (w.heap.size + 1) (w.heap.size + 2) (bif φ 3 then (qs j) else 0) 0 w W := hC.1 (φ 3) false rfl (by simp [hφ])
              have hz := g.ly.1
              have hzl := g.ly.2
              have hzf := g.fy
              have hne := HNE.out
              refine gUpon_of ((((((((W.setCell ⟨w.heap.size + 2, 0, none⟩ (.int .u64 (dgl ((lv (qs j))) 0 : Nat))).setCell ⟨w.heap.size + 2, 1, none⟩ (.int .u64 (dgl ((lv (qs j))) 1 : Nat))).setCell ⟨w.heap.size + 2, 2, none⟩ (.int .u64 (dgl ((lv (qs j))) 2 : Nat))).setCell ⟨w.heap.size + 2, 3, none⟩ (.int .u64 (dgl ((lv (qs j))) 3 : Nat))).setCell ⟨w.heap.size + 2, 4, none⟩ (.int .u64 (dgl ((lv (qs j))) 4 : Nat))).setCell ⟨w.heap.size + 2, 5, none⟩ (.int .u64 (dgl ((lv (qs j))) 5 : Nat))).setCell ⟨w.heap.size + 2, 6, none⟩ (.int .u64 (dgl ((lv (qs j))) 6 : Nat))).setCell ⟨w.heap.size + 2, 7, none⟩ (.int .u64 (dgl ((lv (qs j))) 7 : Nat))) ?_ (fun _ => ?_)
              · simp [go_sem, hc, e7, e64, hz, hzl, hzf, gUpon]
              refine ⟨⟨fun c e hc he => ?_, lies_ne hC.2.1 (by omega), lies_ne hC.2.2 (by omega)⟩, fun t => ?_⟩
              · have hc1 : c = (φ 3) := by rw [← hc]; simp
                have he1 : e = true := by rw [← he]; simp
                subst hc1
                subst he1
                exact g.set2 _
              refine (tbl_imp rfl (fun _ => val_imp) (tbl_imp rfl (fun _ => val_imp) (tbl_imp rfl (fun _ => val_imp) (tbl_imp rfl (fun _ => val_imp) (tbl_imp rfl (fun _ => val_imp) tbl_nil_imp)))))
            refine kSt rfl (fun φ hφ => gStep_run rfl (gRun_move 65 8 (.inr rfl) rfl (by decide +kernel) (fun v w h => h))) ?_
            refine kSt rfl (fun φ hφ => gStep_run rfl (gRun_const _ 9 (.inr rfl) rfl (fun w => rfl))) ?_
            exact kSt0
          · intro W hC
            refine gFi 63 rfl ?_
            rintro _ rfl
            refine gFi 64 rfl ?_
            rintro _ rfl
            refine gFi 65 rfl ?_
            rintro _ rfl
            refine gFiN rfl ?_
            refine gFiN rfl ?_
            refine gFi 8 rfl ?_
            rintro _ rfl
            refine gFi 9 rfl ?_
            rintro _ rfl
            refine gFi0 ?_
            simp only [List.drop_succ_cons, List.drop_zero, Act.put, List.setIfInBounds_toArray, List.set_cons_succ, List.set_cons_zero]
            have HS := hide (hC.1 true true rfl rfl)
            clear hC
            try rw [Exit.noGoto_ret]
            have hr1 := HS.out.lx.1
            have hrl1 := HS.out.lx.2
            have hrf1 := HS.out.fx
            have hr2 := HS.out.ly.1
            have hrl2 := HS.out.ly.2
            have hrf2 := HS.out.fy
            have HBE := hide HS.out.bel
            have HO1 := hide HS.out.o1
            have HO2 := hide HS.out.o2
            clear HS
            go_wp2
            exact bodyPost_ret (v := .tuple #[.agg #[.int .u64 (dgl (qs j) 0 : Nat), .int .u64 (dgl (qs j) 1 : Nat), .int .u64 (dgl (qs j) 2 : Nat), .int .u64 (dgl (qs j) 3 : Nat), .int .u64 (dgl (qs j) 4 : Nat), .int .u64 (dgl (qs j) 5 : Nat), .int .u64 (dgl (qs j) 6 : Nat), .int .u64 (dgl (qs j) 7 : Nat)], .agg #[.int .u64 (dgl (lv (qs j)) 0 : Nat), .int .u64 (dgl (lv (qs j)) 1 : Nat), .int .u64 (dgl (lv (qs j)) 2 : Nat), .int .u64 (dgl (lv (qs j)) 3 : Nat), .int .u64 (dgl (lv (qs j)) 4 : Nat), .int .u64 (dgl (lv (qs j)) 5 : Nat), .int .u64 (dgl (lv (qs j)) 6 : Nat), .int .u64 (dgl (lv (qs j)) 7 : Nat)], .int .i64 (j : Nat), .int .i64 0]) (by simp [results, Try.results55, go_sem, hr1, hrl1, hr2, hrl2]) rfl (Or.inl ⟨rfl, hle, HBE.out⟩)
    
        · skip
          have HC1 := hide (HCL.out (qs j) wr (HQL.out j hja) HS.out.s.r2.bel)
          rw [h1] at HC1
          have hl := HS.out.s.l10.1
          go_wp2_with fail
          refine HC1.out.mono ?_
          rintro e w1 ⟨rfl, hb1⟩
          replace HS := hide (HS.out.below hb1)
          clear hb1 hl HC1
          go_upto_region 7 with fail
          refine wp_gen (fun W => RgW (qs j) 0 p10 p11 p12 w W ∧ LiesF W w1.heap.size (dgl (lv (qs j)))) ⟨HS.out.below (below_allocs _ _), liesF_new w1 (dgl (lv (qs j))) _⟩ ?_
          clear HS
          generalize w1.heap.size = p14 at *
          rintro W7 h7
          have HS := hide h7
          have hl := h7.1.s.l10.1
          have hk := h7.1.s.l11.1
          clear h7
          go_wp2_with fail
          refine (HAD.out j hja _).mono ?_
          rintro e w2 ⟨t2, rfl, hb2⟩
          replace HS := hide (show RgW (qs j) 0 p10 p11 p12 w w2 ∧ LiesF w2 p14 (dgl (lv (qs j))) from ⟨HS.out.1.below hb2, HS.out.2.below hb2⟩)
          clear hb2 hl hk
          go_upto_region 8 with fail
          refine wp_gen (fun W => RgW (qs j) 0 p10 p11 p12 w W ∧ LiesF W p14 (dgl (lv (qs j))) ∧ LiesF W w2.heap.size (dgl (qs j + 1))) ⟨HS.out.1.below (below_allocs _ _), HS.out.2.below (below_allocs _ _), liesF_new w2 (dgl (qs j + 1)) _⟩ ?_
          clear HS
          generalize w2.heap.size = p16 at *
          rintro W8 h8
          have HS := hide h8
          have hl := h8.2.2.1
          clear h8
          have HC2 := hide (HCL.out (qs j + 1) W8 (HQU.out j hja) HS.out.1.s.r2.bel)
          rw [h2] at HC2
          go_wp2_with fail
          refine HC2.out.mono ?_
          rintro e w3 ⟨rfl, hb3⟩
          replace HS := hide (show RgW (qs j) 0 p10 p11 p12 w w3 ∧ LiesF w3 p14 (dgl (lv (qs j))) ∧ LiesF w3 p16 (dgl (qs j + 1)) from ⟨HS.out.1.below hb3, HS.out.2.1.below hb3, HS.out.2.2.below hb3⟩)
          clear hb3 hl HC2
          go_upto_region 10 with fail
          refine wp_gen (fun W => RgW (qs j) 0 p10 p11 p12 w W ∧ LiesF W p14 (dgl (lv (qs j))) ∧ LiesF W p16 (dgl (qs j + 1))) ⟨HS.out.1.below (below_allocs _ _), HS.out.2.1.below (below_allocs _ _), HS.out.2.2.below (below_allocs _ _)⟩ ?_
          clear HS
          rintro W9 h9
          have HS := hide h9
          clear h9
          have hl := HS.out.2.2.1
          have hz := HS.out.1.s.l10.1
          have hzl := HS.out.1.s.l10.2
          have hzf := HS.out.1.s.f10
          have hw : IntKind.i64.wrap ((j : Int) + 1) = ((j + 1 : Nat) : Int) := by rw [IntKind.wrap_i64]; omega
          have HS2 := hide (HS.out.1.set10 (qs j + 1))
          clear HS
          go_wp2
          go_roundw
          case rel => exact ⟨j + 1, by omega, by omega, rfl, hide (by rw [hnx]; exact HS2.out)⟩
          case measure => first | (simp [intOf]; done) | (simp [intOf]; omega)
      · have hgt : ¬ (j : Int) ≤ (most : Int) := by omega
        have hgt2 : (most : Int) < (j : Int) := by omega
        have hr1 := HS.out.s.r2.lx.1
        have hrl1 := HS.out.s.r2.lx.2
        have hrf1 := HS.out.s.r2.fx
        have hr2 := HS.out.s.r2.ly.1
        have hrl2 := HS.out.s.r2.ly.2
        have hrf2 := HS.out.s.r2.fy
        have HBE := hide HS.out.s.r2.bel
        clear HS
        go_wp2
        try rw [Exit.noGoto_ret]
        exact bodyPost_ret (v := .tuple #[.agg #[.int .u64 0, .int .u64 0, .int .u64 0, .int .u64 0, .int .u64 0, .int .u64 0, .int .u64 0, .int .u64 0], .agg #[.int .u64 0, .int .u64 0, .int .u64 0, .int .u64 0, .int .u64 0, .int .u64 0, .int .u64 0, .int .u64 0], .int .i64 0, .int .i64 6]) (by simp [results, Try.results55, go_sem, hr1, hrl1, hr2, hrl2]) rfl (Or.inr ⟨rfl, by omega, below_set8 (below_set8 HBE.out _ (by omega) _ _ _ _ _ _ _ _) _ (by omega) _ _ _ _ _ _ _ _⟩)
  
end Go.Proofs.Yteocibahclpegaa

/- Contracts: fix.may, Quotient, Root, Times. -/
set_option linter.unusedVariables false
set_option linter.unusedSimpArgs false
set_option maxRecDepth 8000
namespace Go.Proofs.Yteocibahclpegaa
open Go.RowKit Plain

theorem box1_start (g : Nat) (w : World) (e : TypeId) : LiesF (w.alloc (.cells #[.int .u64 (dgl (g) 0 : Nat), .int .u64 (dgl (g) 1 : Nat), .int .u64 (dgl (g) 2 : Nat), .int .u64 (dgl (g) 3 : Nat), .int .u64 (dgl (g) 4 : Nat), .int .u64 (dgl (g) 5 : Nat), .int .u64 (dgl (g) 6 : Nat), .int .u64 (dgl (g) 7 : Nat)] e)) w.heap.size (dgl g) ∧ Below w.heap.size w (w.alloc (.cells #[.int .u64 (dgl (g) 0 : Nat), .int .u64 (dgl (g) 1 : Nat), .int .u64 (dgl (g) 2 : Nat), .int .u64 (dgl (g) 3 : Nat), .int .u64 (dgl (g) 4 : Nat), .int .u64 (dgl (g) 5 : Nat), .int .u64 (dgl (g) 6 : Nat), .int .u64 (dgl (g) 7 : Nat)] e)) := ⟨liesF_new w (dgl g) e, below_allocs w _⟩
/-- What may tells: the steps, what is told of the numbers, the guess. -/
def fmN (most e : Int) (g : Nat) : Int := if most < 0 ∨ 100 < most then 1 else if e ≠ 0 then e else if 200 < Go.bitLen g then 4 else 0
set_option maxHeartbeats 1000000 in
theorem fmay_A (most e : Int) (g : Nat) (h0 : most < 0) (w : World) : Calls Try.prog 53 #[.int .i64 most, .int .i64 e, .agg #[.int .u64 (dgl (g) 0 : Nat), .int .u64 (dgl (g) 1 : Nat), .int .u64 (dgl (g) 2 : Nat), .int .u64 (dgl (g) 3 : Nat), .int .u64 (dgl (g) 4 : Nat), .int .u64 (dgl (g) 5 : Nat), .int .u64 (dgl (g) 6 : Nat), .int .u64 (dgl (g) 7 : Nat)]] w fun e' w' => e' = .returned (.int .i64 1) ∧ Below w.heap.size w w' := by
  go_enter Try.func53, Try.ntmps53
  go_wp2
  exact bodyPost_ret (v := .int .i64 (1)) (by simp [results, Try.results53, go_sem]) rfl ⟨rfl, below_allocs _ _⟩
set_option maxHeartbeats 1000000 in
theorem fmay_B (most e : Int) (g : Nat) (h0 : ¬ most < 0) (h1 : 100 < most) (w : World) : Calls Try.prog 53 #[.int .i64 most, .int .i64 e, .agg #[.int .u64 (dgl (g) 0 : Nat), .int .u64 (dgl (g) 1 : Nat), .int .u64 (dgl (g) 2 : Nat), .int .u64 (dgl (g) 3 : Nat), .int .u64 (dgl (g) 4 : Nat), .int .u64 (dgl (g) 5 : Nat), .int .u64 (dgl (g) 6 : Nat), .int .u64 (dgl (g) 7 : Nat)]] w fun e' w' => e' = .returned (.int .i64 1) ∧ Below w.heap.size w w' := by
  go_enter Try.func53, Try.ntmps53
  go_wp2
  exact bodyPost_ret (v := .int .i64 (1)) (by simp [results, Try.results53, go_sem]) rfl ⟨rfl, below_allocs _ _⟩
set_option maxHeartbeats 1000000 in
theorem fmay_E (most e : Int) (g : Nat) (h0 : ¬ most < 0) (h1 : ¬ 100 < most) (he : (e == 0) = false) (w : World) : Calls Try.prog 53 #[.int .i64 most, .int .i64 e, .agg #[.int .u64 (dgl (g) 0 : Nat), .int .u64 (dgl (g) 1 : Nat), .int .u64 (dgl (g) 2 : Nat), .int .u64 (dgl (g) 3 : Nat), .int .u64 (dgl (g) 4 : Nat), .int .u64 (dgl (g) 5 : Nat), .int .u64 (dgl (g) 6 : Nat), .int .u64 (dgl (g) 7 : Nat)]] w fun e' w' => e' = .returned (.int .i64 e) ∧ Below w.heap.size w w' := by
  go_enter Try.func53, Try.ntmps53
  go_wp2
  exact bodyPost_ret (v := .int .i64 (e)) (by simp [results, Try.results53, go_sem]) rfl ⟨rfl, below_allocs _ _⟩
set_option maxHeartbeats 1000000 in
theorem fmay_L (most L : Int) (g : Nat) (h0 : ¬ most < 0) (h1 : ¬ 100 < most) (hL : 200 < L) (HLN : Hid (∀ w, Calls Try.prog 46 #[.agg #[.int .u64 (dgl (g) 0 : Nat), .int .u64 (dgl (g) 1 : Nat), .int .u64 (dgl (g) 2 : Nat), .int .u64 (dgl (g) 3 : Nat), .int .u64 (dgl (g) 4 : Nat), .int .u64 (dgl (g) 5 : Nat), .int .u64 (dgl (g) 6 : Nat), .int .u64 (dgl (g) 7 : Nat)]] w fun e w' => e = .returned (.int .i64 L) ∧ Below w.heap.size w w')) (w : World) : Calls Try.prog 53 #[.int .i64 most, .int .i64 0, .agg #[.int .u64 (dgl (g) 0 : Nat), .int .u64 (dgl (g) 1 : Nat), .int .u64 (dgl (g) 2 : Nat), .int .u64 (dgl (g) 3 : Nat), .int .u64 (dgl (g) 4 : Nat), .int .u64 (dgl (g) 5 : Nat), .int .u64 (dgl (g) 6 : Nat), .int .u64 (dgl (g) 7 : Nat)]] w fun e' w' => e' = .returned (.int .i64 4) ∧ Below w.heap.size w w' := by
  have HS := hide (box1_start g w 32)
  go_enter Try.func53, Try.ntmps53
  have hl := HS.out.1.1
  go_wp2_with fail
  refine (HLN.out _).mono ?_
  rintro e wk ⟨rfl, hb⟩
  have HB := hide (below_trans HS.out.2 hb)
  clear hb HS hl HLN
  go_wp2
  exact bodyPost_ret (v := .int .i64 4) (by simp [results, Try.results53, go_sem]) rfl ⟨rfl, HB.out⟩
set_option maxHeartbeats 1000000 in
theorem fmay_O (most L : Int) (g : Nat) (h0 : ¬ most < 0) (h1 : ¬ 100 < most) (hL : ¬ 200 < L) (HLN : Hid (∀ w, Calls Try.prog 46 #[.agg #[.int .u64 (dgl (g) 0 : Nat), .int .u64 (dgl (g) 1 : Nat), .int .u64 (dgl (g) 2 : Nat), .int .u64 (dgl (g) 3 : Nat), .int .u64 (dgl (g) 4 : Nat), .int .u64 (dgl (g) 5 : Nat), .int .u64 (dgl (g) 6 : Nat), .int .u64 (dgl (g) 7 : Nat)]] w fun e w' => e = .returned (.int .i64 L) ∧ Below w.heap.size w w')) (w : World) : Calls Try.prog 53 #[.int .i64 most, .int .i64 0, .agg #[.int .u64 (dgl (g) 0 : Nat), .int .u64 (dgl (g) 1 : Nat), .int .u64 (dgl (g) 2 : Nat), .int .u64 (dgl (g) 3 : Nat), .int .u64 (dgl (g) 4 : Nat), .int .u64 (dgl (g) 5 : Nat), .int .u64 (dgl (g) 6 : Nat), .int .u64 (dgl (g) 7 : Nat)]] w fun e' w' => e' = .returned (.int .i64 0) ∧ Below w.heap.size w w' := by
  have HS := hide (box1_start g w 32)
  go_enter Try.func53, Try.ntmps53
  have hl := HS.out.1.1
  go_wp2_with fail
  refine (HLN.out _).mono ?_
  rintro e wk ⟨rfl, hb⟩
  have HB := hide (below_trans HS.out.2 hb)
  clear hb HS hl HLN
  go_wp2
  exact bodyPost_ret (v := .int .i64 0) (by simp [results, Try.results53, go_sem]) rfl ⟨rfl, HB.out⟩
theorem fmay_any (most e : Int) (g : Nat) (hg : g < QQ) (w : World) : Calls Try.prog 53 #[.int .i64 most, .int .i64 e, .agg #[.int .u64 (dgl (g) 0 : Nat), .int .u64 (dgl (g) 1 : Nat), .int .u64 (dgl (g) 2 : Nat), .int .u64 (dgl (g) 3 : Nat), .int .u64 (dgl (g) 4 : Nat), .int .u64 (dgl (g) 5 : Nat), .int .u64 (dgl (g) 6 : Nat), .int .u64 (dgl (g) 7 : Nat)]] w fun e' w' => e' = .returned (.int .i64 (fmN most e g)) ∧ Below w.heap.size w w' := by
  unfold fmN
  by_cases h0 : most < 0
  · rw [if_pos (.inl h0)]
    exact fmay_A most e g h0 w
  by_cases h1 : 100 < most
  · rw [if_pos (.inr h1)]
    exact fmay_B most e g h0 h1 w
  rw [if_neg (by omega)]
  by_cases he : e = 0
  · subst he
    rw [if_neg (by omega)]
    by_cases hL : 200 < Go.bitLen g
    · rw [if_pos hL]
      exact fmay_L most _ g h0 h1 (by omega) (hide fun w => wideLen_any g hg w) w
    · rw [if_neg hL]
      exact fmay_O most _ g h0 h1 (by omega) (hide fun w => wideLen_any g hg w) w
  · rw [if_pos he]
    exact fmay_E most e g h0 h1 (by rw [beq_eq_false_iff_ne]; exact he) w
set_option maxHeartbeats 1000000 in
theorem fmayR_L (L : Int) (g : Nat) (hL : 256 < L) (HLN : Hid (∀ w, Calls Try.prog 46 #[.agg #[.int .u64 (dgl (g) 0 : Nat), .int .u64 (dgl (g) 1 : Nat), .int .u64 (dgl (g) 2 : Nat), .int .u64 (dgl (g) 3 : Nat), .int .u64 (dgl (g) 4 : Nat), .int .u64 (dgl (g) 5 : Nat), .int .u64 (dgl (g) 6 : Nat), .int .u64 (dgl (g) 7 : Nat)]] w fun e w' => e = .returned (.int .i64 L) ∧ Below w.heap.size w w')) (w : World) : Calls Try.prog 60 #[.agg #[.int .u64 (dgl (g) 0 : Nat), .int .u64 (dgl (g) 1 : Nat), .int .u64 (dgl (g) 2 : Nat), .int .u64 (dgl (g) 3 : Nat), .int .u64 (dgl (g) 4 : Nat), .int .u64 (dgl (g) 5 : Nat), .int .u64 (dgl (g) 6 : Nat), .int .u64 (dgl (g) 7 : Nat)]] w fun e' w' => e' = .returned (.int .i64 4) ∧ Below w.heap.size w w' := by
  have HS := hide (box1_start g w 32)
  go_enter Try.func60, Try.ntmps60
  have hl := HS.out.1.1
  go_wp2_with fail
  refine (HLN.out _).mono ?_
  rintro e wk ⟨rfl, hb⟩
  have HB := hide (below_trans HS.out.2 hb)
  clear hb HS hl HLN
  go_wp2
  exact bodyPost_ret (v := .int .i64 4) (by simp [results, Try.results60, go_sem]) rfl ⟨rfl, HB.out⟩
set_option maxHeartbeats 1000000 in
theorem fmayR_O (L : Int) (g : Nat) (hL : ¬ 256 < L) (HLN : Hid (∀ w, Calls Try.prog 46 #[.agg #[.int .u64 (dgl (g) 0 : Nat), .int .u64 (dgl (g) 1 : Nat), .int .u64 (dgl (g) 2 : Nat), .int .u64 (dgl (g) 3 : Nat), .int .u64 (dgl (g) 4 : Nat), .int .u64 (dgl (g) 5 : Nat), .int .u64 (dgl (g) 6 : Nat), .int .u64 (dgl (g) 7 : Nat)]] w fun e w' => e = .returned (.int .i64 L) ∧ Below w.heap.size w w')) (w : World) : Calls Try.prog 60 #[.agg #[.int .u64 (dgl (g) 0 : Nat), .int .u64 (dgl (g) 1 : Nat), .int .u64 (dgl (g) 2 : Nat), .int .u64 (dgl (g) 3 : Nat), .int .u64 (dgl (g) 4 : Nat), .int .u64 (dgl (g) 5 : Nat), .int .u64 (dgl (g) 6 : Nat), .int .u64 (dgl (g) 7 : Nat)]] w fun e' w' => e' = .returned (.int .i64 0) ∧ Below w.heap.size w w' := by
  have HS := hide (box1_start g w 32)
  go_enter Try.func60, Try.ntmps60
  have hl := HS.out.1.1
  go_wp2_with fail
  refine (HLN.out _).mono ?_
  rintro e wk ⟨rfl, hb⟩
  have HB := hide (below_trans HS.out.2 hb)
  clear hb HS hl HLN
  go_wp2
  exact bodyPost_ret (v := .int .i64 0) (by simp [results, Try.results60, go_sem]) rfl ⟨rfl, HB.out⟩
theorem fmayR_any (g : Nat) (hg : g < QQ) (w : World) : Calls Try.prog 60 #[.agg #[.int .u64 (dgl (g) 0 : Nat), .int .u64 (dgl (g) 1 : Nat), .int .u64 (dgl (g) 2 : Nat), .int .u64 (dgl (g) 3 : Nat), .int .u64 (dgl (g) 4 : Nat), .int .u64 (dgl (g) 5 : Nat), .int .u64 (dgl (g) 6 : Nat), .int .u64 (dgl (g) 7 : Nat)]] w fun e' w' => e' = .returned (.int .i64 (if g < 2 ^ 256 then 0 else 4)) ∧ Below w.heap.size w w' := by
  have hb := bitLen_above g 256
  by_cases hL : g < 2 ^ 256
  · rw [if_pos hL]
    exact fmayR_O _ g (by have : ¬ 256 < Go.bitLen g := fun h => absurd (hb.1 h) (Nat.not_le.2 hL); omega) (hide fun w => wideLen_any g hg w) w
  · rw [if_neg hL]
    exact fmayR_L _ g (by have := hb.2 (Nat.not_lt.1 hL); omega) (hide fun w => wideLen_any g hg w) w

/-- What fix.Quotient goes by: its arguments, its results. -/
structure QuSt (n d g : Nat) (w W : World) : Prop where
  la : LiesF W (w.heap.size) (dgl n)
  ld : LiesF W (w.heap.size + 1) (dgl d)
  lg : LiesF W (w.heap.size + 2) (dgl g)
  r2 : R2St (w.heap.size + 3) (w.heap.size + 4) 0 0 w W
theorem QuSt.below {n d g : Nat} {w W W' : World} (h : QuSt n d g w W) (hb : Below W.heap.size W W') : QuSt n d g w W' := ⟨h.la.below hb, h.ld.below hb, h.lg.below hb, h.r2.below hb⟩
theorem quSt_start (n d g : Nat) (w : World) : QuSt n d g w (((((w.alloc (.cells #[.int .u64 (dgl (n) 0 : Nat), .int .u64 (dgl (n) 1 : Nat), .int .u64 (dgl (n) 2 : Nat), .int .u64 (dgl (n) 3 : Nat), .int .u64 (dgl (n) 4 : Nat), .int .u64 (dgl (n) 5 : Nat), .int .u64 (dgl (n) 6 : Nat), .int .u64 (dgl (n) 7 : Nat)] 32)).alloc (.cells #[.int .u64 (dgl (d) 0 : Nat), .int .u64 (dgl (d) 1 : Nat), .int .u64 (dgl (d) 2 : Nat), .int .u64 (dgl (d) 3 : Nat), .int .u64 (dgl (d) 4 : Nat), .int .u64 (dgl (d) 5 : Nat), .int .u64 (dgl (d) 6 : Nat), .int .u64 (dgl (d) 7 : Nat)] 32)).alloc (.cells #[.int .u64 (dgl (g) 0 : Nat), .int .u64 (dgl (g) 1 : Nat), .int .u64 (dgl (g) 2 : Nat), .int .u64 (dgl (g) 3 : Nat), .int .u64 (dgl (g) 4 : Nat), .int .u64 (dgl (g) 5 : Nat), .int .u64 (dgl (g) 6 : Nat), .int .u64 (dgl (g) 7 : Nat)] 32)).alloc (.cells #[.int .u64 0, .int .u64 0, .int .u64 0, .int .u64 0, .int .u64 0, .int .u64 0, .int .u64 0, .int .u64 0] 32)).alloc (.cells #[.int .u64 0, .int .u64 0, .int .u64 0, .int .u64 0, .int .u64 0, .int .u64 0, .int .u64 0, .int .u64 0] 32)) := by
  have h := r2_new w (((w.alloc (.cells #[.int .u64 (dgl (n) 0 : Nat), .int .u64 (dgl (n) 1 : Nat), .int .u64 (dgl (n) 2 : Nat), .int .u64 (dgl (n) 3 : Nat), .int .u64 (dgl (n) 4 : Nat), .int .u64 (dgl (n) 5 : Nat), .int .u64 (dgl (n) 6 : Nat), .int .u64 (dgl (n) 7 : Nat)] 32)).alloc (.cells #[.int .u64 (dgl (d) 0 : Nat), .int .u64 (dgl (d) 1 : Nat), .int .u64 (dgl (d) 2 : Nat), .int .u64 (dgl (d) 3 : Nat), .int .u64 (dgl (d) 4 : Nat), .int .u64 (dgl (d) 5 : Nat), .int .u64 (dgl (d) 6 : Nat), .int .u64 (dgl (d) 7 : Nat)] 32)).alloc (.cells #[.int .u64 (dgl (g) 0 : Nat), .int .u64 (dgl (g) 1 : Nat), .int .u64 (dgl (g) 2 : Nat), .int .u64 (dgl (g) 3 : Nat), .int .u64 (dgl (g) 4 : Nat), .int .u64 (dgl (g) 5 : Nat), .int .u64 (dgl (g) 6 : Nat), .int .u64 (dgl (g) 7 : Nat)] 32)) (below_trans (below_trans (below_allocs _ _) (below_allocs _ _)) (below_allocs _ _)) 32 32
  simp only [World.size_alloc] at h
  have h0 := liesF_new w (dgl n) 32
  have h1 := liesF_new (w.alloc (.cells #[.int .u64 (dgl (n) 0 : Nat), .int .u64 (dgl (n) 1 : Nat), .int .u64 (dgl (n) 2 : Nat), .int .u64 (dgl (n) 3 : Nat), .int .u64 (dgl (n) 4 : Nat), .int .u64 (dgl (n) 5 : Nat), .int .u64 (dgl (n) 6 : Nat), .int .u64 (dgl (n) 7 : Nat)] 32)) (dgl d) 32
  simp only [World.size_alloc] at h1
  have h2 := liesF_new ((w.alloc (.cells #[.int .u64 (dgl (n) 0 : Nat), .int .u64 (dgl (n) 1 : Nat), .int .u64 (dgl (n) 2 : Nat), .int .u64 (dgl (n) 3 : Nat), .int .u64 (dgl (n) 4 : Nat), .int .u64 (dgl (n) 5 : Nat), .int .u64 (dgl (n) 6 : Nat), .int .u64 (dgl (n) 7 : Nat)] 32)).alloc (.cells #[.int .u64 (dgl (d) 0 : Nat), .int .u64 (dgl (d) 1 : Nat), .int .u64 (dgl (d) 2 : Nat), .int .u64 (dgl (d) 3 : Nat), .int .u64 (dgl (d) 4 : Nat), .int .u64 (dgl (d) 5 : Nat), .int .u64 (dgl (d) 6 : Nat), .int .u64 (dgl (d) 7 : Nat)] 32)) (dgl g) 32
  simp only [World.size_alloc] at h2
  exact ⟨((((h0.alloc _).alloc _).alloc _).alloc _), (((h1.alloc _).alloc _).alloc _), ((h2.alloc _).alloc _), h⟩
set_option maxHeartbeats 2000000 in
theorem quot_E (n d g : Nat) (most ez E : Int) (w : World) (hE : (E == 0) = false)
    (HM : Hid (∀ w, Calls Try.prog 54 #[.agg #[.int .u64 (dgl (n) 0 : Nat), .int .u64 (dgl (n) 1 : Nat), .int .u64 (dgl (n) 2 : Nat), .int .u64 (dgl (n) 3 : Nat), .int .u64 (dgl (n) 4 : Nat), .int .u64 (dgl (n) 5 : Nat), .int .u64 (dgl (n) 6 : Nat), .int .u64 (dgl (n) 7 : Nat)], .agg #[.int .u64 (dgl (d) 0 : Nat), .int .u64 (dgl (d) 1 : Nat), .int .u64 (dgl (d) 2 : Nat), .int .u64 (dgl (d) 3 : Nat), .int .u64 (dgl (d) 4 : Nat), .int .u64 (dgl (d) 5 : Nat), .int .u64 (dgl (d) 6 : Nat), .int .u64 (dgl (d) 7 : Nat)]] w fun e w' => e = .returned (.int .i64 ez) ∧ Below w.heap.size w w'))
    (HF : Hid (∀ w, Calls Try.prog 53 #[.int .i64 most, .int .i64 ez, .agg #[.int .u64 (dgl (g) 0 : Nat), .int .u64 (dgl (g) 1 : Nat), .int .u64 (dgl (g) 2 : Nat), .int .u64 (dgl (g) 3 : Nat), .int .u64 (dgl (g) 4 : Nat), .int .u64 (dgl (g) 5 : Nat), .int .u64 (dgl (g) 6 : Nat), .int .u64 (dgl (g) 7 : Nat)]] w fun e w' => e = .returned (.int .i64 E) ∧ Below w.heap.size w w')) :
    Calls Try.prog 26 #[.agg #[.int .u64 (dgl (n) 0 : Nat), .int .u64 (dgl (n) 1 : Nat), .int .u64 (dgl (n) 2 : Nat), .int .u64 (dgl (n) 3 : Nat), .int .u64 (dgl (n) 4 : Nat), .int .u64 (dgl (n) 5 : Nat), .int .u64 (dgl (n) 6 : Nat), .int .u64 (dgl (n) 7 : Nat)], .agg #[.int .u64 (dgl (d) 0 : Nat), .int .u64 (dgl (d) 1 : Nat), .int .u64 (dgl (d) 2 : Nat), .int .u64 (dgl (d) 3 : Nat), .int .u64 (dgl (d) 4 : Nat), .int .u64 (dgl (d) 5 : Nat), .int .u64 (dgl (d) 6 : Nat), .int .u64 (dgl (d) 7 : Nat)], .agg #[.int .u64 (dgl (g) 0 : Nat), .int .u64 (dgl (g) 1 : Nat), .int .u64 (dgl (g) 2 : Nat), .int .u64 (dgl (g) 3 : Nat), .int .u64 (dgl (g) 4 : Nat), .int .u64 (dgl (g) 5 : Nat), .int .u64 (dgl (g) 6 : Nat), .int .u64 (dgl (g) 7 : Nat)], .int .i64 most] w fun e' w' => e' = .returned (.tuple #[.agg #[.int .u64 0, .int .u64 0, .int .u64 0, .int .u64 0, .int .u64 0, .int .u64 0, .int .u64 0, .int .u64 0], .agg #[.int .u64 0, .int .u64 0, .int .u64 0, .int .u64 0, .int .u64 0, .int .u64 0, .int .u64 0, .int .u64 0], .int .i64 0, .int .i64 E]) ∧ Below w.heap.size w w' := by
  have HS := hide (quSt_start n d g w)
  go_enter Try.func26, Try.ntmps26
  go_upto_region 1 with fail
  refine wp_gen (fun W => QuSt n d g w W) HS.out ?_
  clear HS
  rintro W1 h1
  refine wp_region_grow 7 [(13, .val (.int .i64 most)), (14, .val (.agg #[.int .u64 (dgl (n) 0 : Nat), .int .u64 (dgl (n) 1 : Nat), .int .u64 (dgl (n) 2 : Nat), .int .u64 (dgl (n) 3 : Nat), .int .u64 (dgl (n) 4 : Nat), .int .u64 (dgl (n) 5 : Nat), .int .u64 (dgl (n) 6 : Nat), .int .u64 (dgl (n) 7 : Nat)])), (15, .val (.agg #[.int .u64 (dgl (d) 0 : Nat), .int .u64 (dgl (d) 1 : Nat), .int .u64 (dgl (d) 2 : Nat), .int .u64 (dgl (d) 3 : Nat), .int .u64 (dgl (d) 4 : Nat), .int .u64 (dgl (d) 5 : Nat), .int .u64 (dgl (d) 6 : Nat), .int .u64 (dgl (d) 7 : Nat)])), (16, .val (.int .i64 ez)), (17, .val (.agg #[.int .u64 (dgl (g) 0 : Nat), .int .u64 (dgl (g) 1 : Nat), .int .u64 (dgl (g) 2 : Nat), .int .u64 (dgl (g) 3 : Nat), .int .u64 (dgl (g) 4 : Nat), .int .u64 (dgl (g) 5 : Nat), .int .u64 (dgl (g) 6 : Nat), .int .u64 (dgl (g) 7 : Nat)])), (18, .val (.int .i64 E)), (12, .val (.int .i64 E))]
    (fun W => QuSt n d g w W) mixedOk (by kernel_rfl) (by kernel_rfl) (h1.below (Below.refl _ _).drew) (fun W W' h hb => h.below hb) ?_ ?_
  · refine gSt (gStep_run rfl (gRun_move 3 13 (.inl rfl) rfl (by decide +kernel) (fun v w h => h))) ?_
    refine gSt (gStep_run rfl ?_) ?_
    · intro ρ W hC hc hf hL
      have e4 : ρ (.tmp 4) = .pointer (some ⟨w.heap.size, 0, none⟩) := hL 4 (by decide +kernel)
      have hl := hC.la.1
      simp [go_sem, hc, hf, e4, hl]
      exact ⟨Below.refl _ _, rfl⟩
    refine gSt (gStep_run rfl ?_) ?_
    · intro ρ W hC hc hf hL
      have e5 : ρ (.tmp 5) = .pointer (some ⟨w.heap.size + 1, 0, none⟩) := hL 5 (by decide +kernel)
      have hl := hC.ld.1
      simp [go_sem, hc, hf, e5, hl]
      exact ⟨Below.refl _ _, rfl⟩
    refine gSt (gStep_run rfl ?_) ?_
    · intro ρ W hC hc hf hL
      have e14 : ρ (.tmp 14) = .agg #[.int .u64 (dgl (n) 0 : Nat), .int .u64 (dgl (n) 1 : Nat), .int .u64 (dgl (n) 2 : Nat), .int .u64 (dgl (n) 3 : Nat), .int .u64 (dgl (n) 4 : Nat), .int .u64 (dgl (n) 5 : Nat), .int .u64 (dgl (n) 6 : Nat), .int .u64 (dgl (n) 7 : Nat)] := hL 14 (by decide +kernel)
      have e15 : ρ (.tmp 15) = .agg #[.int .u64 (dgl (d) 0 : Nat), .int .u64 (dgl (d) 1 : Nat), .int .u64 (dgl (d) 2 : Nat), .int .u64 (dgl (d) 3 : Nat), .int .u64 (dgl (d) 4 : Nat), .int .u64 (dgl (d) 5 : Nat), .int .u64 (dgl (d) 6 : Nat), .int .u64 (dgl (d) 7 : Nat)] := hL 15 (by decide +kernel)
      simp [go_sem, hc, hf, e14, e15]
      refine (HM.out W).mono ?_
      rintro e w' ⟨rfl, hb⟩
      exact ⟨_, rfl, by first | exact hb | (subst hb; exact Below.refl _ _), rfl⟩
    refine gSt (gStep_run rfl ?_) ?_
    · intro ρ W hC hc hf hL
      have e6 : ρ (.tmp 6) = .pointer (some ⟨w.heap.size + 2, 0, none⟩) := hL 6 (by decide +kernel)
      have hl := hC.lg.1
      simp [go_sem, hc, hf, e6, hl]
      exact ⟨Below.refl _ _, rfl⟩
    refine gSt (gStep_run rfl ?_) ?_
    · intro ρ W hC hc hf hL
      have e13 : ρ (.tmp 13) = .int .i64 most := hL 13 (by decide +kernel)
      have e16 : ρ (.tmp 16) = .int .i64 ez := hL 16 (by decide +kernel)
      have e17 : ρ (.tmp 17) = .agg #[.int .u64 (dgl (g) 0 : Nat), .int .u64 (dgl (g) 1 : Nat), .int .u64 (dgl (g) 2 : Nat), .int .u64 (dgl (g) 3 : Nat), .int .u64 (dgl (g) 4 : Nat), .int .u64 (dgl (g) 5 : Nat), .int .u64 (dgl (g) 6 : Nat), .int .u64 (dgl (g) 7 : Nat)] := hL 17 (by decide +kernel)
      simp [go_sem, hc, hf, e13, e16, e17]
      refine (HF.out W).mono ?_
      rintro e w' ⟨rfl, hb⟩
      exact ⟨_, rfl, by first | exact hb | (subst hb; exact Below.refl _ _), rfl⟩
    refine gSt (gStep_run rfl (gRun_move 18 12 (.inr rfl) rfl (by decide +kernel) (fun v w h => h))) ?_
    exact gSt0
  · intro W hC
    refine gFi 13 rfl ?_
    rintro _ rfl
    refine gFi 14 rfl ?_
    rintro _ rfl
    refine gFi 15 rfl ?_
    rintro _ rfl
    refine gFi 16 rfl ?_
    rintro _ rfl
    refine gFi 17 rfl ?_
    rintro _ rfl
    refine gFi 18 rfl ?_
    rintro _ rfl
    refine gFi 12 rfl ?_
    rintro _ rfl
    refine gFi0 ?_
    simp only [List.drop_succ_cons, List.drop_zero, Act.put, List.setIfInBounds_toArray, List.set_cons_succ, List.set_cons_zero]
    have hr1 := hC.r2.lx.1
    have hrl1 := hC.r2.lx.2
    have hrf1 := hC.r2.fx
    have hr2 := hC.r2.ly.1
    have hrl2 := hC.r2.ly.2
    have hrf2 := hC.r2.fy
    have HBE := hide hC.r2.bel
    clear hC h1
    go_wp2
    exact bodyPost_ret (v := .tuple #[.agg #[.int .u64 0, .int .u64 0, .int .u64 0, .int .u64 0, .int .u64 0, .int .u64 0, .int .u64 0, .int .u64 0], .agg #[.int .u64 0, .int .u64 0, .int .u64 0, .int .u64 0, .int .u64 0, .int .u64 0, .int .u64 0, .int .u64 0], .int .i64 0, .int .i64 E]) (by simp [results, Try.results26, go_sem, hr1, hrl1, hr2, hrl2]) rfl ⟨rfl, below_set8 (below_set8 HBE.out _ (by omega) _ _ _ _ _ _ _ _) _ (by omega) _ _ _ _ _ _ _ _⟩
    
set_option maxHeartbeats 2000000 in
theorem quot_Y (n d g x y : Nat) (most ez E k e2 : Int) (w : World) (hE : E = 0)
    (HM : Hid (∀ w, Calls Try.prog 54 #[.agg #[.int .u64 (dgl (n) 0 : Nat), .int .u64 (dgl (n) 1 : Nat), .int .u64 (dgl (n) 2 : Nat), .int .u64 (dgl (n) 3 : Nat), .int .u64 (dgl (n) 4 : Nat), .int .u64 (dgl (n) 5 : Nat), .int .u64 (dgl (n) 6 : Nat), .int .u64 (dgl (n) 7 : Nat)], .agg #[.int .u64 (dgl (d) 0 : Nat), .int .u64 (dgl (d) 1 : Nat), .int .u64 (dgl (d) 2 : Nat), .int .u64 (dgl (d) 3 : Nat), .int .u64 (dgl (d) 4 : Nat), .int .u64 (dgl (d) 5 : Nat), .int .u64 (dgl (d) 6 : Nat), .int .u64 (dgl (d) 7 : Nat)]] w fun e w' => e = .returned (.int .i64 ez) ∧ Below w.heap.size w w'))
    (HF : Hid (∀ w, Calls Try.prog 53 #[.int .i64 most, .int .i64 ez, .agg #[.int .u64 (dgl (g) 0 : Nat), .int .u64 (dgl (g) 1 : Nat), .int .u64 (dgl (g) 2 : Nat), .int .u64 (dgl (g) 3 : Nat), .int .u64 (dgl (g) 4 : Nat), .int .u64 (dgl (g) 5 : Nat), .int .u64 (dgl (g) 6 : Nat), .int .u64 (dgl (g) 7 : Nat)]] w fun e w' => e = .returned (.int .i64 E) ∧ Below w.heap.size w w'))
    (HR : Hid (∀ W, LiesF W w.heap.size (dgl n) → LiesF W (w.heap.size + 1) (dgl d) → Below w.heap.size w W → Calls Try.prog 55 #[.agg #[.int .u64 (dgl (g) 0 : Nat), .int .u64 (dgl (g) 1 : Nat), .int .u64 (dgl (g) 2 : Nat), .int .u64 (dgl (g) 3 : Nat), .int .u64 (dgl (g) 4 : Nat), .int .u64 (dgl (g) 5 : Nat), .int .u64 (dgl (g) 6 : Nat), .int .u64 (dgl (g) 7 : Nat)], .int .i64 most, .func (.func 56) #[] #[.pointer (some ⟨w.heap.size + 1, 0, none⟩), .pointer (some ⟨w.heap.size, 0, none⟩)]] W fun e w' => e = .returned (.tuple #[.agg #[.int .u64 (dgl (x) 0 : Nat), .int .u64 (dgl (x) 1 : Nat), .int .u64 (dgl (x) 2 : Nat), .int .u64 (dgl (x) 3 : Nat), .int .u64 (dgl (x) 4 : Nat), .int .u64 (dgl (x) 5 : Nat), .int .u64 (dgl (x) 6 : Nat), .int .u64 (dgl (x) 7 : Nat)], .agg #[.int .u64 (dgl (y) 0 : Nat), .int .u64 (dgl (y) 1 : Nat), .int .u64 (dgl (y) 2 : Nat), .int .u64 (dgl (y) 3 : Nat), .int .u64 (dgl (y) 4 : Nat), .int .u64 (dgl (y) 5 : Nat), .int .u64 (dgl (y) 6 : Nat), .int .u64 (dgl (y) 7 : Nat)], .int .i64 k, .int .i64 e2]) ∧ Below W.heap.size W w')) :
    Calls Try.prog 26 #[.agg #[.int .u64 (dgl (n) 0 : Nat), .int .u64 (dgl (n) 1 : Nat), .int .u64 (dgl (n) 2 : Nat), .int .u64 (dgl (n) 3 : Nat), .int .u64 (dgl (n) 4 : Nat), .int .u64 (dgl (n) 5 : Nat), .int .u64 (dgl (n) 6 : Nat), .int .u64 (dgl (n) 7 : Nat)], .agg #[.int .u64 (dgl (d) 0 : Nat), .int .u64 (dgl (d) 1 : Nat), .int .u64 (dgl (d) 2 : Nat), .int .u64 (dgl (d) 3 : Nat), .int .u64 (dgl (d) 4 : Nat), .int .u64 (dgl (d) 5 : Nat), .int .u64 (dgl (d) 6 : Nat), .int .u64 (dgl (d) 7 : Nat)], .agg #[.int .u64 (dgl (g) 0 : Nat), .int .u64 (dgl (g) 1 : Nat), .int .u64 (dgl (g) 2 : Nat), .int .u64 (dgl (g) 3 : Nat), .int .u64 (dgl (g) 4 : Nat), .int .u64 (dgl (g) 5 : Nat), .int .u64 (dgl (g) 6 : Nat), .int .u64 (dgl (g) 7 : Nat)], .int .i64 most] w fun e' w' => e' = .returned (.tuple #[.agg #[.int .u64 (dgl (x) 0 : Nat), .int .u64 (dgl (x) 1 : Nat), .int .u64 (dgl (x) 2 : Nat), .int .u64 (dgl (x) 3 : Nat), .int .u64 (dgl (x) 4 : Nat), .int .u64 (dgl (x) 5 : Nat), .int .u64 (dgl (x) 6 : Nat), .int .u64 (dgl (x) 7 : Nat)], .agg #[.int .u64 (dgl (y) 0 : Nat), .int .u64 (dgl (y) 1 : Nat), .int .u64 (dgl (y) 2 : Nat), .int .u64 (dgl (y) 3 : Nat), .int .u64 (dgl (y) 4 : Nat), .int .u64 (dgl (y) 5 : Nat), .int .u64 (dgl (y) 6 : Nat), .int .u64 (dgl (y) 7 : Nat)], .int .i64 k, .int .i64 e2]) ∧ Below w.heap.size w w' := by
  have HS := hide (quSt_start n d g w)
  subst hE
  go_enter Try.func26, Try.ntmps26
  go_upto_region 1 with fail
  refine wp_gen (fun W => QuSt n d g w W) HS.out ?_
  clear HS
  rintro W1 h1
  refine wp_region_grow 7 [(13, .val (.int .i64 most)), (14, .val (.agg #[.int .u64 (dgl (n) 0 : Nat), .int .u64 (dgl (n) 1 : Nat), .int .u64 (dgl (n) 2 : Nat), .int .u64 (dgl (n) 3 : Nat), .int .u64 (dgl (n) 4 : Nat), .int .u64 (dgl (n) 5 : Nat), .int .u64 (dgl (n) 6 : Nat), .int .u64 (dgl (n) 7 : Nat)])), (15, .val (.agg #[.int .u64 (dgl (d) 0 : Nat), .int .u64 (dgl (d) 1 : Nat), .int .u64 (dgl (d) 2 : Nat), .int .u64 (dgl (d) 3 : Nat), .int .u64 (dgl (d) 4 : Nat), .int .u64 (dgl (d) 5 : Nat), .int .u64 (dgl (d) 6 : Nat), .int .u64 (dgl (d) 7 : Nat)])), (16, .val (.int .i64 ez)), (17, .val (.agg #[.int .u64 (dgl (g) 0 : Nat), .int .u64 (dgl (g) 1 : Nat), .int .u64 (dgl (g) 2 : Nat), .int .u64 (dgl (g) 3 : Nat), .int .u64 (dgl (g) 4 : Nat), .int .u64 (dgl (g) 5 : Nat), .int .u64 (dgl (g) 6 : Nat), .int .u64 (dgl (g) 7 : Nat)])), (18, .val (.int .i64 0)), (12, .val (.int .i64 0))]
    (fun W => QuSt n d g w W) mixedOk (by kernel_rfl) (by kernel_rfl) (h1.below (Below.refl _ _).drew) (fun W W' h hb => h.below hb) ?_ ?_
  · refine gSt (gStep_run rfl (gRun_move 3 13 (.inl rfl) rfl (by decide +kernel) (fun v w h => h))) ?_
    refine gSt (gStep_run rfl ?_) ?_
    · intro ρ W hC hc hf hL
      have e4 : ρ (.tmp 4) = .pointer (some ⟨w.heap.size, 0, none⟩) := hL 4 (by decide +kernel)
      have hl := hC.la.1
      simp [go_sem, hc, hf, e4, hl]
      exact ⟨Below.refl _ _, rfl⟩
    refine gSt (gStep_run rfl ?_) ?_
    · intro ρ W hC hc hf hL
      have e5 : ρ (.tmp 5) = .pointer (some ⟨w.heap.size + 1, 0, none⟩) := hL 5 (by decide +kernel)
      have hl := hC.ld.1
      simp [go_sem, hc, hf, e5, hl]
      exact ⟨Below.refl _ _, rfl⟩
    refine gSt (gStep_run rfl ?_) ?_
    · intro ρ W hC hc hf hL
      have e14 : ρ (.tmp 14) = .agg #[.int .u64 (dgl (n) 0 : Nat), .int .u64 (dgl (n) 1 : Nat), .int .u64 (dgl (n) 2 : Nat), .int .u64 (dgl (n) 3 : Nat), .int .u64 (dgl (n) 4 : Nat), .int .u64 (dgl (n) 5 : Nat), .int .u64 (dgl (n) 6 : Nat), .int .u64 (dgl (n) 7 : Nat)] := hL 14 (by decide +kernel)
      have e15 : ρ (.tmp 15) = .agg #[.int .u64 (dgl (d) 0 : Nat), .int .u64 (dgl (d) 1 : Nat), .int .u64 (dgl (d) 2 : Nat), .int .u64 (dgl (d) 3 : Nat), .int .u64 (dgl (d) 4 : Nat), .int .u64 (dgl (d) 5 : Nat), .int .u64 (dgl (d) 6 : Nat), .int .u64 (dgl (d) 7 : Nat)] := hL 15 (by decide +kernel)
      simp [go_sem, hc, hf, e14, e15]
      refine (HM.out W).mono ?_
      rintro e w' ⟨rfl, hb⟩
      exact ⟨_, rfl, by first | exact hb | (subst hb; exact Below.refl _ _), rfl⟩
    refine gSt (gStep_run rfl ?_) ?_
    · intro ρ W hC hc hf hL
      have e6 : ρ (.tmp 6) = .pointer (some ⟨w.heap.size + 2, 0, none⟩) := hL 6 (by decide +kernel)
      have hl := hC.lg.1
      simp [go_sem, hc, hf, e6, hl]
      exact ⟨Below.refl _ _, rfl⟩
    refine gSt (gStep_run rfl ?_) ?_
    · intro ρ W hC hc hf hL
      have e13 : ρ (.tmp 13) = .int .i64 most := hL 13 (by decide +kernel)
      have e16 : ρ (.tmp 16) = .int .i64 ez := hL 16 (by decide +kernel)
      have e17 : ρ (.tmp 17) = .agg #[.int .u64 (dgl (g) 0 : Nat), .int .u64 (dgl (g) 1 : Nat), .int .u64 (dgl (g) 2 : Nat), .int .u64 (dgl (g) 3 : Nat), .int .u64 (dgl (g) 4 : Nat), .int .u64 (dgl (g) 5 : Nat), .int .u64 (dgl (g) 6 : Nat), .int .u64 (dgl (g) 7 : Nat)] := hL 17 (by decide +kernel)
      simp [go_sem, hc, hf, e13, e16, e17]
      refine (HF.out W).mono ?_
      rintro e w' ⟨rfl, hb⟩
      exact ⟨_, rfl, by first | exact hb | (subst hb; exact Below.refl _ _), rfl⟩
    refine gSt (gStep_run rfl (gRun_move 18 12 (.inr rfl) rfl (by decide +kernel) (fun v w h => h))) ?_
    exact gSt0
  · intro W hC
    refine gFi 13 rfl ?_
    rintro _ rfl
    refine gFi 14 rfl ?_
    rintro _ rfl
    refine gFi 15 rfl ?_
    rintro _ rfl
    refine gFi 16 rfl ?_
    rintro _ rfl
    refine gFi 17 rfl ?_
    rintro _ rfl
    refine gFi 18 rfl ?_
    rintro _ rfl
    refine gFi 12 rfl ?_
    rintro _ rfl
    refine gFi0 ?_
    simp only [List.drop_succ_cons, List.drop_zero, Act.put, List.setIfInBounds_toArray, List.set_cons_succ, List.set_cons_zero]
    have HS := hide hC
    have hl := hC.lg.1
    have HR1 := hide (HR.out W hC.la hC.ld hC.r2.bel)
    clear hC h1
    go_wp2_with fail
    refine HR1.out.mono ?_
    rintro e w5 ⟨rfl, hb5⟩
    replace HS := hide (HS.out.below hb5)
    clear hb5 hl HR1
    have hr1 := HS.out.r2.lx.1
    have hrl1 := HS.out.r2.lx.2
    have hrf1 := HS.out.r2.fx
    have hr2 := HS.out.r2.ly.1
    have hrl2 := HS.out.r2.ly.2
    have hrf2 := HS.out.r2.fy
    have HBE := hide HS.out.r2.bel
    clear HS
    go_wp2
    exact bodyPost_ret (v := .tuple #[.agg #[.int .u64 (dgl (x) 0 : Nat), .int .u64 (dgl (x) 1 : Nat), .int .u64 (dgl (x) 2 : Nat), .int .u64 (dgl (x) 3 : Nat), .int .u64 (dgl (x) 4 : Nat), .int .u64 (dgl (x) 5 : Nat), .int .u64 (dgl (x) 6 : Nat), .int .u64 (dgl (x) 7 : Nat)], .agg #[.int .u64 (dgl (y) 0 : Nat), .int .u64 (dgl (y) 1 : Nat), .int .u64 (dgl (y) 2 : Nat), .int .u64 (dgl (y) 3 : Nat), .int .u64 (dgl (y) 4 : Nat), .int .u64 (dgl (y) 5 : Nat), .int .u64 (dgl (y) 6 : Nat), .int .u64 (dgl (y) 7 : Nat)], .int .i64 k, .int .i64 e2]) (by simp [results, Try.results26, go_sem, hr1, hrl1, hr2, hrl2]) rfl ⟨rfl, below_set8 (below_set8 HBE.out _ (by omega) _ _ _ _ _ _ _ _) _ (by omega) _ _ _ _ _ _ _ _⟩
    

/-- What fix.Root goes by: its arguments, its results. -/
structure RtSt (n g : Nat) (w W : World) : Prop where
  la : LiesF W (w.heap.size) (dgl n)
  lg : LiesF W (w.heap.size + 1) (dgl g)
  r2 : R2St (w.heap.size + 2) (w.heap.size + 3) 0 0 w W
theorem RtSt.below {n g : Nat} {w W W' : World} (h : RtSt n g w W) (hb : Below W.heap.size W W') : RtSt n g w W' := ⟨h.la.below hb, h.lg.below hb, h.r2.below hb⟩
theorem rtSt_start (n g : Nat) (w : World) : RtSt n g w ((((w.alloc (.cells #[.int .u64 (dgl (n) 0 : Nat), .int .u64 (dgl (n) 1 : Nat), .int .u64 (dgl (n) 2 : Nat), .int .u64 (dgl (n) 3 : Nat), .int .u64 (dgl (n) 4 : Nat), .int .u64 (dgl (n) 5 : Nat), .int .u64 (dgl (n) 6 : Nat), .int .u64 (dgl (n) 7 : Nat)] 32)).alloc (.cells #[.int .u64 (dgl (g) 0 : Nat), .int .u64 (dgl (g) 1 : Nat), .int .u64 (dgl (g) 2 : Nat), .int .u64 (dgl (g) 3 : Nat), .int .u64 (dgl (g) 4 : Nat), .int .u64 (dgl (g) 5 : Nat), .int .u64 (dgl (g) 6 : Nat), .int .u64 (dgl (g) 7 : Nat)] 32)).alloc (.cells #[.int .u64 0, .int .u64 0, .int .u64 0, .int .u64 0, .int .u64 0, .int .u64 0, .int .u64 0, .int .u64 0] 32)).alloc (.cells #[.int .u64 0, .int .u64 0, .int .u64 0, .int .u64 0, .int .u64 0, .int .u64 0, .int .u64 0, .int .u64 0] 32)) := by
  have h := r2_new w ((w.alloc (.cells #[.int .u64 (dgl (n) 0 : Nat), .int .u64 (dgl (n) 1 : Nat), .int .u64 (dgl (n) 2 : Nat), .int .u64 (dgl (n) 3 : Nat), .int .u64 (dgl (n) 4 : Nat), .int .u64 (dgl (n) 5 : Nat), .int .u64 (dgl (n) 6 : Nat), .int .u64 (dgl (n) 7 : Nat)] 32)).alloc (.cells #[.int .u64 (dgl (g) 0 : Nat), .int .u64 (dgl (g) 1 : Nat), .int .u64 (dgl (g) 2 : Nat), .int .u64 (dgl (g) 3 : Nat), .int .u64 (dgl (g) 4 : Nat), .int .u64 (dgl (g) 5 : Nat), .int .u64 (dgl (g) 6 : Nat), .int .u64 (dgl (g) 7 : Nat)] 32)) (below_trans (below_allocs _ _) (below_allocs _ _)) 32 32
  simp only [World.size_alloc] at h
  have h0 := liesF_new w (dgl n) 32
  have h1 := liesF_new (w.alloc (.cells #[.int .u64 (dgl (n) 0 : Nat), .int .u64 (dgl (n) 1 : Nat), .int .u64 (dgl (n) 2 : Nat), .int .u64 (dgl (n) 3 : Nat), .int .u64 (dgl (n) 4 : Nat), .int .u64 (dgl (n) 5 : Nat), .int .u64 (dgl (n) 6 : Nat), .int .u64 (dgl (n) 7 : Nat)] 32)) (dgl g) 32
  simp only [World.size_alloc] at h1
  exact ⟨(((h0.alloc _).alloc _).alloc _), ((h1.alloc _).alloc _), h⟩
set_option maxHeartbeats 2000000 in
theorem root18_E (n g : Nat) (most ez E : Int) (w : World) (hE : (E == 0) = false)
    (HM : Hid (∀ w, Calls Try.prog 60 #[.agg #[.int .u64 (dgl (n) 0 : Nat), .int .u64 (dgl (n) 1 : Nat), .int .u64 (dgl (n) 2 : Nat), .int .u64 (dgl (n) 3 : Nat), .int .u64 (dgl (n) 4 : Nat), .int .u64 (dgl (n) 5 : Nat), .int .u64 (dgl (n) 6 : Nat), .int .u64 (dgl (n) 7 : Nat)]] w fun e w' => e = .returned (.int .i64 ez) ∧ Below w.heap.size w w'))
    (HF : Hid (∀ w, Calls Try.prog 53 #[.int .i64 most, .int .i64 ez, .agg #[.int .u64 (dgl (g) 0 : Nat), .int .u64 (dgl (g) 1 : Nat), .int .u64 (dgl (g) 2 : Nat), .int .u64 (dgl (g) 3 : Nat), .int .u64 (dgl (g) 4 : Nat), .int .u64 (dgl (g) 5 : Nat), .int .u64 (dgl (g) 6 : Nat), .int .u64 (dgl (g) 7 : Nat)]] w fun e w' => e = .returned (.int .i64 E) ∧ Below w.heap.size w w')) :
    Calls Try.prog 33 #[.agg #[.int .u64 (dgl (n) 0 : Nat), .int .u64 (dgl (n) 1 : Nat), .int .u64 (dgl (n) 2 : Nat), .int .u64 (dgl (n) 3 : Nat), .int .u64 (dgl (n) 4 : Nat), .int .u64 (dgl (n) 5 : Nat), .int .u64 (dgl (n) 6 : Nat), .int .u64 (dgl (n) 7 : Nat)], .agg #[.int .u64 (dgl (g) 0 : Nat), .int .u64 (dgl (g) 1 : Nat), .int .u64 (dgl (g) 2 : Nat), .int .u64 (dgl (g) 3 : Nat), .int .u64 (dgl (g) 4 : Nat), .int .u64 (dgl (g) 5 : Nat), .int .u64 (dgl (g) 6 : Nat), .int .u64 (dgl (g) 7 : Nat)], .int .i64 most] w fun e' w' => e' = .returned (.tuple #[.agg #[.int .u64 0, .int .u64 0, .int .u64 0, .int .u64 0, .int .u64 0, .int .u64 0, .int .u64 0, .int .u64 0], .agg #[.int .u64 0, .int .u64 0, .int .u64 0, .int .u64 0, .int .u64 0, .int .u64 0, .int .u64 0, .int .u64 0], .int .i64 0, .int .i64 E]) ∧ Below w.heap.size w w' := by
  have HS := hide (rtSt_start n g w)
  go_enter Try.func33, Try.ntmps33
  go_upto_region 1 with fail
  refine wp_gen (fun W => RtSt n g w W) HS.out ?_
  clear HS
  rintro W1 h1
  refine wp_region_grow 6 [(11, .val (.int .i64 most)), (12, .val (.agg #[.int .u64 (dgl (n) 0 : Nat), .int .u64 (dgl (n) 1 : Nat), .int .u64 (dgl (n) 2 : Nat), .int .u64 (dgl (n) 3 : Nat), .int .u64 (dgl (n) 4 : Nat), .int .u64 (dgl (n) 5 : Nat), .int .u64 (dgl (n) 6 : Nat), .int .u64 (dgl (n) 7 : Nat)])), (13, .val (.int .i64 ez)), (14, .val (.agg #[.int .u64 (dgl (g) 0 : Nat), .int .u64 (dgl (g) 1 : Nat), .int .u64 (dgl (g) 2 : Nat), .int .u64 (dgl (g) 3 : Nat), .int .u64 (dgl (g) 4 : Nat), .int .u64 (dgl (g) 5 : Nat), .int .u64 (dgl (g) 6 : Nat), .int .u64 (dgl (g) 7 : Nat)])), (15, .val (.int .i64 E)), (10, .val (.int .i64 E))]
    (fun W => RtSt n g w W) mixedOk (by kernel_rfl) (by kernel_rfl) (h1.below (Below.refl _ _).drew) (fun W W' h hb => h.below hb) ?_ ?_
  · refine gSt (gStep_run rfl (gRun_move 2 11 (.inl rfl) rfl (by decide +kernel) (fun v w h => h))) ?_
    refine gSt (gStep_run rfl ?_) ?_
    · intro ρ W hC hc hf hL
      have e3 : ρ (.tmp 3) = .pointer (some ⟨w.heap.size, 0, none⟩) := hL 3 (by decide +kernel)
      have hl := hC.la.1
      simp [go_sem, hc, hf, e3, hl]
      exact ⟨Below.refl _ _, rfl⟩
    refine gSt (gStep_run rfl ?_) ?_
    · intro ρ W hC hc hf hL
      have e12 : ρ (.tmp 12) = .agg #[.int .u64 (dgl (n) 0 : Nat), .int .u64 (dgl (n) 1 : Nat), .int .u64 (dgl (n) 2 : Nat), .int .u64 (dgl (n) 3 : Nat), .int .u64 (dgl (n) 4 : Nat), .int .u64 (dgl (n) 5 : Nat), .int .u64 (dgl (n) 6 : Nat), .int .u64 (dgl (n) 7 : Nat)] := hL 12 (by decide +kernel)
      simp [go_sem, hc, hf, e12]
      refine (HM.out W).mono ?_
      rintro e w' ⟨rfl, hb⟩
      exact ⟨_, rfl, by first | exact hb | (subst hb; exact Below.refl _ _), rfl⟩
    refine gSt (gStep_run rfl ?_) ?_
    · intro ρ W hC hc hf hL
      have e4 : ρ (.tmp 4) = .pointer (some ⟨w.heap.size + 1, 0, none⟩) := hL 4 (by decide +kernel)
      have hl := hC.lg.1
      simp [go_sem, hc, hf, e4, hl]
      exact ⟨Below.refl _ _, rfl⟩
    refine gSt (gStep_run rfl ?_) ?_
    · intro ρ W hC hc hf hL
      have e11 : ρ (.tmp 11) = .int .i64 most := hL 11 (by decide +kernel)
      have e13 : ρ (.tmp 13) = .int .i64 ez := hL 13 (by decide +kernel)
      have e14 : ρ (.tmp 14) = .agg #[.int .u64 (dgl (g) 0 : Nat), .int .u64 (dgl (g) 1 : Nat), .int .u64 (dgl (g) 2 : Nat), .int .u64 (dgl (g) 3 : Nat), .int .u64 (dgl (g) 4 : Nat), .int .u64 (dgl (g) 5 : Nat), .int .u64 (dgl (g) 6 : Nat), .int .u64 (dgl (g) 7 : Nat)] := hL 14 (by decide +kernel)
      simp [go_sem, hc, hf, e11, e13, e14]
      refine (HF.out W).mono ?_
      rintro e w' ⟨rfl, hb⟩
      exact ⟨_, rfl, by first | exact hb | (subst hb; exact Below.refl _ _), rfl⟩
    refine gSt (gStep_run rfl (gRun_move 15 10 (.inr rfl) rfl (by decide +kernel) (fun v w h => h))) ?_
    exact gSt0
  · intro W hC
    refine gFi 11 rfl ?_
    rintro _ rfl
    refine gFi 12 rfl ?_
    rintro _ rfl
    refine gFi 13 rfl ?_
    rintro _ rfl
    refine gFi 14 rfl ?_
    rintro _ rfl
    refine gFi 15 rfl ?_
    rintro _ rfl
    refine gFi 10 rfl ?_
    rintro _ rfl
    refine gFi0 ?_
    simp only [List.drop_succ_cons, List.drop_zero, Act.put, List.setIfInBounds_toArray, List.set_cons_succ, List.set_cons_zero]
    have hr1 := hC.r2.lx.1
    have hrl1 := hC.r2.lx.2
    have hrf1 := hC.r2.fx
    have hr2 := hC.r2.ly.1
    have hrl2 := hC.r2.ly.2
    have hrf2 := hC.r2.fy
    have HBE := hide hC.r2.bel
    clear hC h1
    go_wp2
    exact bodyPost_ret (v := .tuple #[.agg #[.int .u64 0, .int .u64 0, .int .u64 0, .int .u64 0, .int .u64 0, .int .u64 0, .int .u64 0, .int .u64 0], .agg #[.int .u64 0, .int .u64 0, .int .u64 0, .int .u64 0, .int .u64 0, .int .u64 0, .int .u64 0, .int .u64 0], .int .i64 0, .int .i64 E]) (by simp [results, Try.results33, go_sem, hr1, hrl1, hr2, hrl2]) rfl ⟨rfl, below_set8 (below_set8 HBE.out _ (by omega) _ _ _ _ _ _ _ _) _ (by omega) _ _ _ _ _ _ _ _⟩
    
set_option maxHeartbeats 2000000 in
theorem root18_Y (n g x y : Nat) (most ez E k e2 : Int) (w : World) (hE : E = 0)
    (HM : Hid (∀ w, Calls Try.prog 60 #[.agg #[.int .u64 (dgl (n) 0 : Nat), .int .u64 (dgl (n) 1 : Nat), .int .u64 (dgl (n) 2 : Nat), .int .u64 (dgl (n) 3 : Nat), .int .u64 (dgl (n) 4 : Nat), .int .u64 (dgl (n) 5 : Nat), .int .u64 (dgl (n) 6 : Nat), .int .u64 (dgl (n) 7 : Nat)]] w fun e w' => e = .returned (.int .i64 ez) ∧ Below w.heap.size w w'))
    (HF : Hid (∀ w, Calls Try.prog 53 #[.int .i64 most, .int .i64 ez, .agg #[.int .u64 (dgl (g) 0 : Nat), .int .u64 (dgl (g) 1 : Nat), .int .u64 (dgl (g) 2 : Nat), .int .u64 (dgl (g) 3 : Nat), .int .u64 (dgl (g) 4 : Nat), .int .u64 (dgl (g) 5 : Nat), .int .u64 (dgl (g) 6 : Nat), .int .u64 (dgl (g) 7 : Nat)]] w fun e w' => e = .returned (.int .i64 E) ∧ Below w.heap.size w w'))
    (HR : Hid (∀ W, LiesF W w.heap.size (dgl n) → Below w.heap.size w W → Calls Try.prog 55 #[.agg #[.int .u64 (dgl (g) 0 : Nat), .int .u64 (dgl (g) 1 : Nat), .int .u64 (dgl (g) 2 : Nat), .int .u64 (dgl (g) 3 : Nat), .int .u64 (dgl (g) 4 : Nat), .int .u64 (dgl (g) 5 : Nat), .int .u64 (dgl (g) 6 : Nat), .int .u64 (dgl (g) 7 : Nat)], .int .i64 most, .func (.func 61) #[] #[.pointer (some ⟨w.heap.size, 0, none⟩)]] W fun e w' => e = .returned (.tuple #[.agg #[.int .u64 (dgl (x) 0 : Nat), .int .u64 (dgl (x) 1 : Nat), .int .u64 (dgl (x) 2 : Nat), .int .u64 (dgl (x) 3 : Nat), .int .u64 (dgl (x) 4 : Nat), .int .u64 (dgl (x) 5 : Nat), .int .u64 (dgl (x) 6 : Nat), .int .u64 (dgl (x) 7 : Nat)], .agg #[.int .u64 (dgl (y) 0 : Nat), .int .u64 (dgl (y) 1 : Nat), .int .u64 (dgl (y) 2 : Nat), .int .u64 (dgl (y) 3 : Nat), .int .u64 (dgl (y) 4 : Nat), .int .u64 (dgl (y) 5 : Nat), .int .u64 (dgl (y) 6 : Nat), .int .u64 (dgl (y) 7 : Nat)], .int .i64 k, .int .i64 e2]) ∧ Below W.heap.size W w')) :
    Calls Try.prog 33 #[.agg #[.int .u64 (dgl (n) 0 : Nat), .int .u64 (dgl (n) 1 : Nat), .int .u64 (dgl (n) 2 : Nat), .int .u64 (dgl (n) 3 : Nat), .int .u64 (dgl (n) 4 : Nat), .int .u64 (dgl (n) 5 : Nat), .int .u64 (dgl (n) 6 : Nat), .int .u64 (dgl (n) 7 : Nat)], .agg #[.int .u64 (dgl (g) 0 : Nat), .int .u64 (dgl (g) 1 : Nat), .int .u64 (dgl (g) 2 : Nat), .int .u64 (dgl (g) 3 : Nat), .int .u64 (dgl (g) 4 : Nat), .int .u64 (dgl (g) 5 : Nat), .int .u64 (dgl (g) 6 : Nat), .int .u64 (dgl (g) 7 : Nat)], .int .i64 most] w fun e' w' => e' = .returned (.tuple #[.agg #[.int .u64 (dgl (x) 0 : Nat), .int .u64 (dgl (x) 1 : Nat), .int .u64 (dgl (x) 2 : Nat), .int .u64 (dgl (x) 3 : Nat), .int .u64 (dgl (x) 4 : Nat), .int .u64 (dgl (x) 5 : Nat), .int .u64 (dgl (x) 6 : Nat), .int .u64 (dgl (x) 7 : Nat)], .agg #[.int .u64 (dgl (y) 0 : Nat), .int .u64 (dgl (y) 1 : Nat), .int .u64 (dgl (y) 2 : Nat), .int .u64 (dgl (y) 3 : Nat), .int .u64 (dgl (y) 4 : Nat), .int .u64 (dgl (y) 5 : Nat), .int .u64 (dgl (y) 6 : Nat), .int .u64 (dgl (y) 7 : Nat)], .int .i64 k, .int .i64 e2]) ∧ Below w.heap.size w w' := by
  have HS := hide (rtSt_start n g w)
  subst hE
  go_enter Try.func33, Try.ntmps33
  go_upto_region 1 with fail
  refine wp_gen (fun W => RtSt n g w W) HS.out ?_
  clear HS
  rintro W1 h1
  refine wp_region_grow 6 [(11, .val (.int .i64 most)), (12, .val (.agg #[.int .u64 (dgl (n) 0 : Nat), .int .u64 (dgl (n) 1 : Nat), .int .u64 (dgl (n) 2 : Nat), .int .u64 (dgl (n) 3 : Nat), .int .u64 (dgl (n) 4 : Nat), .int .u64 (dgl (n) 5 : Nat), .int .u64 (dgl (n) 6 : Nat), .int .u64 (dgl (n) 7 : Nat)])), (13, .val (.int .i64 ez)), (14, .val (.agg #[.int .u64 (dgl (g) 0 : Nat), .int .u64 (dgl (g) 1 : Nat), .int .u64 (dgl (g) 2 : Nat), .int .u64 (dgl (g) 3 : Nat), .int .u64 (dgl (g) 4 : Nat), .int .u64 (dgl (g) 5 : Nat), .int .u64 (dgl (g) 6 : Nat), .int .u64 (dgl (g) 7 : Nat)])), (15, .val (.int .i64 0)), (10, .val (.int .i64 0))]
    (fun W => RtSt n g w W) mixedOk (by kernel_rfl) (by kernel_rfl) (h1.below (Below.refl _ _).drew) (fun W W' h hb => h.below hb) ?_ ?_
  · refine gSt (gStep_run rfl (gRun_move 2 11 (.inl rfl) rfl (by decide +kernel) (fun v w h => h))) ?_
    refine gSt (gStep_run rfl ?_) ?_
    · intro ρ W hC hc hf hL
      have e3 : ρ (.tmp 3) = .pointer (some ⟨w.heap.size, 0, none⟩) := hL 3 (by decide +kernel)
      have hl := hC.la.1
      simp [go_sem, hc, hf, e3, hl]
      exact ⟨Below.refl _ _, rfl⟩
    refine gSt (gStep_run rfl ?_) ?_
    · intro ρ W hC hc hf hL
      have e12 : ρ (.tmp 12) = .agg #[.int .u64 (dgl (n) 0 : Nat), .int .u64 (dgl (n) 1 : Nat), .int .u64 (dgl (n) 2 : Nat), .int .u64 (dgl (n) 3 : Nat), .int .u64 (dgl (n) 4 : Nat), .int .u64 (dgl (n) 5 : Nat), .int .u64 (dgl (n) 6 : Nat), .int .u64 (dgl (n) 7 : Nat)] := hL 12 (by decide +kernel)
      simp [go_sem, hc, hf, e12]
      refine (HM.out W).mono ?_
      rintro e w' ⟨rfl, hb⟩
      exact ⟨_, rfl, by first | exact hb | (subst hb; exact Below.refl _ _), rfl⟩
    refine gSt (gStep_run rfl ?_) ?_
    · intro ρ W hC hc hf hL
      have e4 : ρ (.tmp 4) = .pointer (some ⟨w.heap.size + 1, 0, none⟩) := hL 4 (by decide +kernel)
      have hl := hC.lg.1
      simp [go_sem, hc, hf, e4, hl]
      exact ⟨Below.refl _ _, rfl⟩
    refine gSt (gStep_run rfl ?_) ?_
    · intro ρ W hC hc hf hL
      have e11 : ρ (.tmp 11) = .int .i64 most := hL 11 (by decide +kernel)
      have e13 : ρ (.tmp 13) = .int .i64 ez := hL 13 (by decide +kernel)
      have e14 : ρ (.tmp 14) = .agg #[.int .u64 (dgl (g) 0 : Nat), .int .u64 (dgl (g) 1 : Nat), .int .u64 (dgl (g) 2 : Nat), .int .u64 (dgl (g) 3 : Nat), .int .u64 (dgl (g) 4 : Nat), .int .u64 (dgl (g) 5 : Nat), .int .u64 (dgl (g) 6 : Nat), .int .u64 (dgl (g) 7 : Nat)] := hL 14 (by decide +kernel)
      simp [go_sem, hc, hf, e11, e13, e14]
      refine (HF.out W).mono ?_
      rintro e w' ⟨rfl, hb⟩
      exact ⟨_, rfl, by first | exact hb | (subst hb; exact Below.refl _ _), rfl⟩
    refine gSt (gStep_run rfl (gRun_move 15 10 (.inr rfl) rfl (by decide +kernel) (fun v w h => h))) ?_
    exact gSt0
  · intro W hC
    refine gFi 11 rfl ?_
    rintro _ rfl
    refine gFi 12 rfl ?_
    rintro _ rfl
    refine gFi 13 rfl ?_
    rintro _ rfl
    refine gFi 14 rfl ?_
    rintro _ rfl
    refine gFi 15 rfl ?_
    rintro _ rfl
    refine gFi 10 rfl ?_
    rintro _ rfl
    refine gFi0 ?_
    simp only [List.drop_succ_cons, List.drop_zero, Act.put, List.setIfInBounds_toArray, List.set_cons_succ, List.set_cons_zero]
    have HS := hide hC
    have hl := hC.lg.1
    have HR1 := hide (HR.out W hC.la hC.r2.bel)
    clear hC h1
    go_wp2_with fail
    refine HR1.out.mono ?_
    rintro e w5 ⟨rfl, hb5⟩
    replace HS := hide (HS.out.below hb5)
    clear hb5 hl HR1
    have hr1 := HS.out.r2.lx.1
    have hrl1 := HS.out.r2.lx.2
    have hrf1 := HS.out.r2.fx
    have hr2 := HS.out.r2.ly.1
    have hrl2 := HS.out.r2.ly.2
    have hrf2 := HS.out.r2.fy
    have HBE := hide HS.out.r2.bel
    clear HS
    go_wp2
    exact bodyPost_ret (v := .tuple #[.agg #[.int .u64 (dgl (x) 0 : Nat), .int .u64 (dgl (x) 1 : Nat), .int .u64 (dgl (x) 2 : Nat), .int .u64 (dgl (x) 3 : Nat), .int .u64 (dgl (x) 4 : Nat), .int .u64 (dgl (x) 5 : Nat), .int .u64 (dgl (x) 6 : Nat), .int .u64 (dgl (x) 7 : Nat)], .agg #[.int .u64 (dgl (y) 0 : Nat), .int .u64 (dgl (y) 1 : Nat), .int .u64 (dgl (y) 2 : Nat), .int .u64 (dgl (y) 3 : Nat), .int .u64 (dgl (y) 4 : Nat), .int .u64 (dgl (y) 5 : Nat), .int .u64 (dgl (y) 6 : Nat), .int .u64 (dgl (y) 7 : Nat)], .int .i64 k, .int .i64 e2]) (by simp [results, Try.results33, go_sem, hr1, hrl1, hr2, hrl2]) rfl ⟨rfl, below_set8 (below_set8 HBE.out _ (by omega) _ _ _ _ _ _ _ _) _ (by omega) _ _ _ _ _ _ _ _⟩
    

set_option maxHeartbeats 2000000 in
theorem ftimes_walk (a b p : Nat) (n : Int) (t : Bool) (w : World) (HH : Hid (∀ w, Calls Try.prog 63 #[.agg #[.int .u64 (dgl (a) 0 : Nat), .int .u64 (dgl (a) 1 : Nat), .int .u64 (dgl (a) 2 : Nat), .int .u64 (dgl (a) 3 : Nat), .int .u64 (dgl (a) 4 : Nat), .int .u64 (dgl (a) 5 : Nat), .int .u64 (dgl (a) 6 : Nat), .int .u64 (dgl (a) 7 : Nat)], .agg #[.int .u64 (dgl (b) 0 : Nat), .int .u64 (dgl (b) 1 : Nat), .int .u64 (dgl (b) 2 : Nat), .int .u64 (dgl (b) 3 : Nat), .int .u64 (dgl (b) 4 : Nat), .int .u64 (dgl (b) 5 : Nat), .int .u64 (dgl (b) 6 : Nat), .int .u64 (dgl (b) 7 : Nat)], .int .i64 n] w fun e w' => e = .returned (.tuple #[.agg #[.int .u64 (dgl (p) 0 : Nat), .int .u64 (dgl (p) 1 : Nat), .int .u64 (dgl (p) 2 : Nat), .int .u64 (dgl (p) 3 : Nat), .int .u64 (dgl (p) 4 : Nat), .int .u64 (dgl (p) 5 : Nat), .int .u64 (dgl (p) 6 : Nat), .int .u64 (dgl (p) 7 : Nat)], .bool t]) ∧ Below w.heap.size w w')) :
    Calls Try.prog 40 #[.agg #[.int .u64 (dgl (a) 0 : Nat), .int .u64 (dgl (a) 1 : Nat), .int .u64 (dgl (a) 2 : Nat), .int .u64 (dgl (a) 3 : Nat), .int .u64 (dgl (a) 4 : Nat), .int .u64 (dgl (a) 5 : Nat), .int .u64 (dgl (a) 6 : Nat), .int .u64 (dgl (a) 7 : Nat)], .agg #[.int .u64 (dgl (b) 0 : Nat), .int .u64 (dgl (b) 1 : Nat), .int .u64 (dgl (b) 2 : Nat), .int .u64 (dgl (b) 3 : Nat), .int .u64 (dgl (b) 4 : Nat), .int .u64 (dgl (b) 5 : Nat), .int .u64 (dgl (b) 6 : Nat), .int .u64 (dgl (b) 7 : Nat)], .int .i64 n] w fun e' w' => e' = .returned (.agg #[.int .u64 (dgl (p) 0 : Nat), .int .u64 (dgl (p) 1 : Nat), .int .u64 (dgl (p) 2 : Nat), .int .u64 (dgl (p) 3 : Nat), .int .u64 (dgl (p) 4 : Nat), .int .u64 (dgl (p) 5 : Nat), .int .u64 (dgl (p) 6 : Nat), .int .u64 (dgl (p) 7 : Nat)]) ∧ Below w.heap.size w w' := by
  have HS := hide (frSt_start a b w 32 32 32)
  go_enter Try.func40, Try.ntmps40
  have ha := HS.out.la.1
  have hb := HS.out.lb.1
  go_wp2_with fail
  refine (HH.out _).mono ?_
  rintro e w1 ⟨rfl, hb1⟩
  replace HS := hide (HS.out.below hb1)
  clear hb1 ha hb HH
  go_upto_region 2 with fail
  refine wp_gen (fun W => FrSt a b 0 w W ∧ LiesF W w1.heap.size (dgl p)) ⟨HS.out.below (below_allocs _ _), liesF_new w1 (dgl p) _⟩ ?_
  clear HS
  generalize w1.heap.size = p7 at *
  rintro W2 h2
  have hp := h2.2.1
  have hr := h2.1.lr.1
  have hrl := h2.1.lr.2
  have hrf := h2.1.fr
  have HBE := hide h2.1.bel
  clear h2
  go_wp2
  exact bodyPost_ret (v := .agg #[.int .u64 (dgl (p) 0 : Nat), .int .u64 (dgl (p) 1 : Nat), .int .u64 (dgl (p) 2 : Nat), .int .u64 (dgl (p) 3 : Nat), .int .u64 (dgl (p) 4 : Nat), .int .u64 (dgl (p) 5 : Nat), .int .u64 (dgl (p) 6 : Nat), .int .u64 (dgl (p) 7 : Nat)]) (by simp [results, Try.results40, go_sem, hr, hrl]) rfl ⟨rfl, below_set8 HBE.out _ (by omega) _ _ _ _ _ _ _ _⟩
theorem ftimes_any (a b k : Nat) (n : Int) (hk : (k : Int) = max n 0) (hn : n ≤ 9223372036854775807) (ha : a < QQ) (hb : b < QQ) (w : World) :
    Calls Try.prog 40 #[.agg #[.int .u64 (dgl (a) 0 : Nat), .int .u64 (dgl (a) 1 : Nat), .int .u64 (dgl (a) 2 : Nat), .int .u64 (dgl (a) 3 : Nat), .int .u64 (dgl (a) 4 : Nat), .int .u64 (dgl (a) 5 : Nat), .int .u64 (dgl (a) 6 : Nat), .int .u64 (dgl (a) 7 : Nat)], .agg #[.int .u64 (dgl (b) 0 : Nat), .int .u64 (dgl (b) 1 : Nat), .int .u64 (dgl (b) 2 : Nat), .int .u64 (dgl (b) 3 : Nat), .int .u64 (dgl (b) 4 : Nat), .int .u64 (dgl (b) 5 : Nat), .int .u64 (dgl (b) 6 : Nat), .int .u64 (dgl (b) 7 : Nat)], .int .i64 n] w fun e' w' => e' = .returned (.agg #[.int .u64 (dgl (a * b / 2 ^ k) 0 : Nat), .int .u64 (dgl (a * b / 2 ^ k) 1 : Nat), .int .u64 (dgl (a * b / 2 ^ k) 2 : Nat), .int .u64 (dgl (a * b / 2 ^ k) 3 : Nat), .int .u64 (dgl (a * b / 2 ^ k) 4 : Nat), .int .u64 (dgl (a * b / 2 ^ k) 5 : Nat), .int .u64 (dgl (a * b / 2 ^ k) 6 : Nat), .int .u64 (dgl (a * b / 2 ^ k) 7 : Nat)]) ∧ Below w.heap.size w w' :=
  ftimes_walk a b _ n _ w (hide fun w => prodHigh_any a b k n hk hn ha hb w)
end Go.Proofs.Yteocibahclpegaa

/- Contracts: the document's roots (radicandref12). -/
set_option linter.unusedVariables false
set_option linter.unusedSimpArgs false
set_option maxRecDepth 8000
namespace Go.Proofs.Yteocibahclpegaa
open Go.RowKit Plain

set_option maxHeartbeats 1000000 in
theorem rmay12_walk (n L : Nat) (z : Bool) (HBN : Hid (∀ w, Calls Try.prog 19 #[.agg #[.int .u64 (dgl (n) 0 : Nat), .int .u64 (dgl (n) 1 : Nat), .int .u64 (dgl (n) 2 : Nat), .int .u64 (dgl (n) 3 : Nat), .int .u64 (dgl (n) 4 : Nat), .int .u64 (dgl (n) 5 : Nat), .int .u64 (dgl (n) 6 : Nat), .int .u64 (dgl (n) 7 : Nat)]] w fun e w' => ∃ v, e = .returned v ∧ BigV w' v n 40 ∧ Below w.heap.size w w'))
    (HLN : Hid (∀ v w, BigV w v n 40 → Calls Try.prog 28 #[v] w fun e w' => e = .returned (.int .i64 ((L : Nat) : Int)) ∧ w' = w)) (hz : decide ((L : Int) ≤ 256) = z) (w : World) :
    Calls Try.prog 31 #[.agg #[.int .u64 (dgl (n) 0 : Nat), .int .u64 (dgl (n) 1 : Nat), .int .u64 (dgl (n) 2 : Nat), .int .u64 (dgl (n) 3 : Nat), .int .u64 (dgl (n) 4 : Nat), .int .u64 (dgl (n) 5 : Nat), .int .u64 (dgl (n) 6 : Nat), .int .u64 (dgl (n) 7 : Nat)]] w fun e w' => e = .returned (.bool z) ∧ Below w.heap.size w w' := by
  have HS : Hid (LiesF (w.alloc (.cells #[.int .u64 (dgl (n) 0 : Nat), .int .u64 (dgl (n) 1 : Nat), .int .u64 (dgl (n) 2 : Nat), .int .u64 (dgl (n) 3 : Nat), .int .u64 (dgl (n) 4 : Nat), .int .u64 (dgl (n) 5 : Nat), .int .u64 (dgl (n) 6 : Nat), .int .u64 (dgl (n) 7 : Nat)] 32)) w.heap.size (dgl n) ∧ Below w.heap.size w (w.alloc (.cells #[.int .u64 (dgl (n) 0 : Nat), .int .u64 (dgl (n) 1 : Nat), .int .u64 (dgl (n) 2 : Nat), .int .u64 (dgl (n) 3 : Nat), .int .u64 (dgl (n) 4 : Nat), .int .u64 (dgl (n) 5 : Nat), .int .u64 (dgl (n) 6 : Nat), .int .u64 (dgl (n) 7 : Nat)] 32))) := ⟨liesF_new w (dgl n) _, below_allocs w _⟩
  have HZ := hide hz
  clear hz
  go_enter Try.func31, Try.ntmps31
  have hca := HS.out.1.1
  go_wp2_with fail
  refine (HBN.out _).mono ?_
  rintro e w1 ⟨u, rfl, hu, hb1⟩
  have HB := hide (below_trans HS.out.2 hb1)
  clear HS hb1 hca
  go_wp2_with fail
  refine (HLN.out _ _ hu).mono ?_
  rintro e wl ⟨rfl, hw⟩
  subst wl
  go_wp2
  go_ret
  exact ⟨ret_bool HZ.out, HB.out⟩
theorem rmay12_any (n : Nat) (hn : n < QQ) (w : World) : Calls Try.prog 31 #[.agg #[.int .u64 (dgl (n) 0 : Nat), .int .u64 (dgl (n) 1 : Nat), .int .u64 (dgl (n) 2 : Nat), .int .u64 (dgl (n) 3 : Nat), .int .u64 (dgl (n) 4 : Nat), .int .u64 (dgl (n) 5 : Nat), .int .u64 (dgl (n) 6 : Nat), .int .u64 (dgl (n) 7 : Nat)]] w fun e w' => e = .returned (.bool (decide (n < 2 ^ 256))) ∧ Below w.heap.size w w' := by
  refine rmay12_walk n _ _ (fun w => refBig_any n hn w) (fun v w h => refLen_any n 40 v w h (by decide)) ?_ w
  have h := bitLen_above n 256
  rw [decide_eq_decide]
  generalize 2 ^ 256 = P at *
  omega

set_option maxHeartbeats 1000000 in
theorem refPow_any (b K k : Nat) (u : Value) (hK : K ≤ 300) (hk : k ≤ 3) (w : World) (hu : BigV w u b K) :
    Calls Try.prog 59 #[u, .int .i64 (k : Nat)] w fun e w' => ∃ v, e = .returned v ∧ BigV w' v (b ^ k) (2 + K * 3) ∧ Below w.heap.size w w' := by
  have HU := hide hu
  have HK := hide hK
  have HSM : Hid (∀ w, Calls Try.prog 18 #[.int .u64 1] w fun e w' => ∃ v, e = .returned v ∧ BigV w' v 1 2 ∧ Below w.heap.size w w') := fun w => small_any 1 (by decide) w
  have HMU : Hid (∀ i v w, i ≤ 3 → BigV w v (b ^ i) (2 + K * i) → BigV w u b K → Calls Try.prog 17 #[v, u] w fun e w' => ∃ v, e = .returned v ∧ BigV w' v (b ^ (i + 1)) (2 + K * (i + 1)) ∧ Below w.heap.size w w') := by
    intro i v w hi hv hu
    have h1 : K * i ≤ 300 * 3 := Nat.mul_le_mul hK hi
    refine (refMul_any (b ^ i) b (2 + K * i) K v u w hv hu (by omega) (by omega)).mono ?_
    rintro e w' ⟨v', e1, e2, e3⟩
    exact ⟨v', e1, by rw [Nat.pow_succ]; exact e2.mono (by rw [Nat.mul_add]; omega), e3⟩
  clear hu hK
  go_enter Try.func59, Try.ntmps59
  go_wp2_with fail
  refine (HSM.out _).mono ?_
  rintro e w1 ⟨v1, rfl, hv1, hb1⟩
  have HS0 : Hid (BigV w1 v1 (b ^ 0) (2 + K * 0) ∧ Below w.heap.size w w1) := ⟨hv1, hb1⟩
  clear hv1 hb1
  go_wp2
  go_loopw [5, 6] (fun v i wr => ∃ j : Nat, j ≤ k ∧ i = .int .i64 (j : Nat) ∧ Hid (BigV wr v (b ^ j) (2 + K * j) ∧ Below w.heap.size w wr))
    (fun _ i _ => k - (intOf i).toNat)
  case atStart => exact ⟨0, by omega, rfl, HS0⟩
  case round =>
    clear HS0
    obtain ⟨j, hjk, rfl, HS⟩ := hrel
    by_cases hlt : j < k
    · have hj : (j : Int) < (k : Int) := by omega
      go_wp2_with fail
      refine (HMU.out j _ _ (by omega) HS.out.1 (HU.out.below HS.out.2)).mono ?_
      rintro e w2 ⟨v2, rfl, hv2, hb2⟩
      have HS2 := hide (show BigV w2 v2 (b ^ (j + 1)) (2 + K * (j + 1)) ∧ Below w.heap.size w w2 from ⟨hv2, below_trans HS.out.2 hb2⟩)
      clear hv2 hb2 HS
      have hw1 : IntKind.i64.wrap ((j : Int) + 1) = ((j + 1 : Nat) : Int) := by rw [IntKind.wrap_i64]; omega
      go_wp2
      go_roundw
      case rel => exact ⟨j + 1, by omega, by go_num, HS2⟩
      case measure => simp [intOf]; omega
    · have hk2 : j = k := by omega
      subst hk2
      have hj : ¬ (j : Int) < (j : Int) := by omega
      go_wp2
      go_ret
      exact ⟨_, rfl, HS.out.1.mono (by have : K * j ≤ K * 3 := Nat.mul_le_mul_left _ hk
                                       omega), HS.out.2⟩

/-- A box and two results. -/
theorem rroot_start (a : Nat) (w : World) (e1 e2 e3 : TypeId) :
    LiesF (((w.alloc (.cells #[.int .u64 (dgl (a) 0 : Nat), .int .u64 (dgl (a) 1 : Nat), .int .u64 (dgl (a) 2 : Nat), .int .u64 (dgl (a) 3 : Nat), .int .u64 (dgl (a) 4 : Nat), .int .u64 (dgl (a) 5 : Nat), .int .u64 (dgl (a) 6 : Nat), .int .u64 (dgl (a) 7 : Nat)] e1)).alloc (.cells #[.int .u64 0, .int .u64 0, .int .u64 0, .int .u64 0, .int .u64 0, .int .u64 0, .int .u64 0, .int .u64 0] e2)).alloc (.cells #[.int .u64 0, .int .u64 0, .int .u64 0, .int .u64 0, .int .u64 0, .int .u64 0, .int .u64 0, .int .u64 0] e3)) w.heap.size (dgl a) ∧
    R2St (w.heap.size + 1) (w.heap.size + 2) 0 0 w (((w.alloc (.cells #[.int .u64 (dgl (a) 0 : Nat), .int .u64 (dgl (a) 1 : Nat), .int .u64 (dgl (a) 2 : Nat), .int .u64 (dgl (a) 3 : Nat), .int .u64 (dgl (a) 4 : Nat), .int .u64 (dgl (a) 5 : Nat), .int .u64 (dgl (a) 6 : Nat), .int .u64 (dgl (a) 7 : Nat)] e1)).alloc (.cells #[.int .u64 0, .int .u64 0, .int .u64 0, .int .u64 0, .int .u64 0, .int .u64 0, .int .u64 0, .int .u64 0] e2)).alloc (.cells #[.int .u64 0, .int .u64 0, .int .u64 0, .int .u64 0, .int .u64 0, .int .u64 0, .int .u64 0, .int .u64 0] e3)) := by
  have h2 := r2_new w _ (below_allocs w (.cells #[.int .u64 (dgl (a) 0 : Nat), .int .u64 (dgl (a) 1 : Nat), .int .u64 (dgl (a) 2 : Nat), .int .u64 (dgl (a) 3 : Nat), .int .u64 (dgl (a) 4 : Nat), .int .u64 (dgl (a) 5 : Nat), .int .u64 (dgl (a) 6 : Nat), .int .u64 (dgl (a) 7 : Nat)] e1)) e2 e3
  rw [World.size_alloc] at h2
  exact ⟨((liesF_new w (dgl a) e1).alloc _).alloc _, h2⟩

set_option maxHeartbeats 8000000 in
theorem rroot_walk (n k S pw r : Nat) (hk : k ≤ 3) (b1 b2 : Bool) (HS0 : Hid (hiN S 131 = 0)) (HIF : Hid (∀ c, cmpN ((hiN S (c + 1) + 2 ^ c) ^ k) n ≤ 0 ↔ S / 2 ^ c % 2 = 1))
    (HBN : Hid (∀ w, Calls Try.prog 19 #[.agg #[.int .u64 (dgl (n) 0 : Nat), .int .u64 (dgl (n) 1 : Nat), .int .u64 (dgl (n) 2 : Nat), .int .u64 (dgl (n) 3 : Nat), .int .u64 (dgl (n) 4 : Nat), .int .u64 (dgl (n) 5 : Nat), .int .u64 (dgl (n) 6 : Nat), .int .u64 (dgl (n) 7 : Nat)]] w fun e w' => ∃ v, e = .returned v ∧ BigV w' v n 40 ∧ Below w.heap.size w w'))
    (HWS : Hid (∀ u w, BigV w u (S) 141 → Calls Try.prog 34 #[u] w fun e w' => e = .returned (.tuple #[.agg #[.int .u64 (dgl (S) 0 : Nat), .int .u64 (dgl (S) 1 : Nat), .int .u64 (dgl (S) 2 : Nat), .int .u64 (dgl (S) 3 : Nat), .int .u64 (dgl (S) 4 : Nat), .int .u64 (dgl (S) 5 : Nat), .int .u64 (dgl (S) 6 : Nat), .int .u64 (dgl (S) 7 : Nat)], .bool b1]) ∧ Below w.heap.size w w'))
    (HPK : Hid (∀ u w, BigV w u S 141 → Calls Try.prog 59 #[u, .int .i64 (k : Nat)] w fun e w' => ∃ v, e = .returned v ∧ BigV w' v pw 1000 ∧ Below w.heap.size w w'))
    (HSB : Hid (∀ u v w, BigV w u (n) 40 → BigV w v (pw) 1000 → Calls Try.prog 39 #[u, v] w fun e w' => ∃ v', e = .returned v' ∧ BigV w' v' (r) 1000 ∧ Below w.heap.size w w'))
    (HWR : Hid (∀ u w, BigV w u (r) 1000 → Calls Try.prog 34 #[u] w fun e w' => e = .returned (.tuple #[.agg #[.int .u64 (dgl (r) 0 : Nat), .int .u64 (dgl (r) 1 : Nat), .int .u64 (dgl (r) 2 : Nat), .int .u64 (dgl (r) 3 : Nat), .int .u64 (dgl (r) 4 : Nat), .int .u64 (dgl (r) 5 : Nat), .int .u64 (dgl (r) 6 : Nat), .int .u64 (dgl (r) 7 : Nat)], .bool b2]) ∧ Below w.heap.size w w')) (w : World) :
    Calls Try.prog 32 #[.agg #[.int .u64 (dgl (n) 0 : Nat), .int .u64 (dgl (n) 1 : Nat), .int .u64 (dgl (n) 2 : Nat), .int .u64 (dgl (n) 3 : Nat), .int .u64 (dgl (n) 4 : Nat), .int .u64 (dgl (n) 5 : Nat), .int .u64 (dgl (n) 6 : Nat), .int .u64 (dgl (n) 7 : Nat)], .int .i64 (k : Nat)] w fun e w' => e = .returned (.tuple #[.agg #[.int .u64 (dgl (S) 0 : Nat), .int .u64 (dgl (S) 1 : Nat), .int .u64 (dgl (S) 2 : Nat), .int .u64 (dgl (S) 3 : Nat), .int .u64 (dgl (S) 4 : Nat), .int .u64 (dgl (S) 5 : Nat), .int .u64 (dgl (S) 6 : Nat), .int .u64 (dgl (S) 7 : Nat)], .agg #[.int .u64 (dgl (r) 0 : Nat), .int .u64 (dgl (r) 1 : Nat), .int .u64 (dgl (r) 2 : Nat), .int .u64 (dgl (r) 3 : Nat), .int .u64 (dgl (r) 4 : Nat), .int .u64 (dgl (r) 5 : Nat), .int .u64 (dgl (r) 6 : Nat), .int .u64 (dgl (r) 7 : Nat)]]) ∧ Below w.heap.size w w' := by
  have HST := hide (rroot_start n w 32 32 32)
  have HPW : Hid (∀ i : Nat, i < 131 → ∀ w, Calls Try.prog 38 #[.int .i64 (i : Nat)] w fun e w' => ∃ v, e = .returned v ∧ BigV w' v (2 ^ i) 8 ∧ Below w.heap.size w w') := fun i hi w =>
    (refPower_any i (2 ^ i) (by omega) rfl w).mono fun e w' ⟨v, e1, e2, e3⟩ => ⟨v, e1, e2.mono (by omega), e3⟩
  have HADD : Hid (∀ (a b C : Nat) u v w, C ≤ 200 → 8 ≤ C → BigV w u a C → BigV w v b 8 → Calls Try.prog 37 #[u, v] w fun e w' => ∃ v, e = .returned v ∧ BigV w' v (a + b) (C + 1) ∧ Below w.heap.size w w') := fun a b C u v w hC h8 hu hv =>
    (refAdd_any a b C 8 u v w hu hv (by omega) (by omega)).mono fun e w' ⟨v, e1, e2, e3⟩ => ⟨v, e1, e2.mono (by omega), e3⟩
  have HPO : Hid (∀ (a C : Nat) u w, C ≤ 300 → BigV w u a C → Calls Try.prog 59 #[u, .int .i64 (k : Nat)] w fun e w' => ∃ v, e = .returned v ∧ BigV w' v (a ^ k) 1000 ∧ Below w.heap.size w w') := fun a C u w hC hu =>
    (refPow_any a C k u hC hk w hu).mono fun e w' ⟨v, e1, e2, e3⟩ => ⟨v, e1, e2.mono (by omega), e3⟩
  have HCM : Hid (∀ (a : Nat) u v w, BigV w u a 1000 → BigV w v n 40 → Calls Try.prog 20 #[u, v] w fun e w' => e = .returned (.int .i64 (cmpN a n)) ∧ w' = w) := fun a u v w hu hv => cmp_any a n 1000 40 u v w hu hv
  clear hk
  go_enter Try.func32, Try.ntmps32
  have hca := HST.out.1.1
  go_wp2_with fail
  refine (HBN.out _).mono ?_
  rintro e w1 ⟨ux, rfl, hux, hb1⟩
  have HS := hide (show R2St (w.heap.size + 1) (w.heap.size + 2) 0 0 w w1 ∧ BigV w1 ux n 40 from ⟨HST.out.2.below hb1, hux⟩)
  clear HST hux hb1 hca
  go_wp2
  go_loopw [7, 8] (fun q' i wr => ∃ (c : Nat) (zi : Int) (q : Value), q = q' ∧ c ≤ 131 ∧ Hid (zi = (c : Int) - 1) ∧ i = .int .i64 zi ∧ Hid (R2St (w.heap.size + 1) (w.heap.size + 2) 0 0 w wr ∧ BigV wr ux n 40 ∧ BigV wr q (hiN S c) (141 - c)))
    (fun _ i _ => (intOf i + 1).toNat)
  case atStart =>
    have hbw := below_allocs w1 (.cells #[] 72)
    exact ⟨131, 130, _, rfl, by omega, hide rfl, rfl, ⟨HS.out.1.below (below_allocs _ _), HS.out.2.below (below_allocs _ _), by rw [HS0.out]; exact (mk0_big _ _).mono (by omega)⟩⟩
  case round =>
    clear HS
    obtain ⟨c, zi, q, rfl, hc, hzi, rfl, HS⟩ := hrel
    by_cases hz0 : 0 ≤ zi
    · obtain ⟨p, rfl⟩ : ∃ p : Nat, zi = (p : Int) := ⟨zi.toNat, by omega⟩
      obtain rfl : c = p + 1 := by have := hzi.out; omega
      have hp : p < 131 := hc
      clear hzi hc
      go_wp2_with fail
      refine (HPW.out p hp _).mono ?_
      rintro e w2 ⟨vp, rfl, hvp, hb2⟩
      replace HS := hide (show R2St (w.heap.size + 1) (w.heap.size + 2) 0 0 w w2 ∧ BigV w2 ux n 40 ∧ BigV w2 q (hiN S (p + 1)) (141 - (p + 1)) from ⟨HS.out.1.below hb2, BigV.below HS.out.2.1 hb2, BigV.below HS.out.2.2 hb2⟩)
      clear hb2
      go_wp2_with fail
      refine (HADD.out _ _ _ _ _ _ (by omega) (by omega) HS.out.2.2 hvp).mono ?_
      rintro e w3 ⟨vm, rfl, hvm, hb3⟩
      replace HS := hide (show R2St (w.heap.size + 1) (w.heap.size + 2) 0 0 w w3 ∧ BigV w3 ux n 40 ∧ BigV w3 q (hiN S (p + 1)) (141 - (p + 1)) from ⟨HS.out.1.below hb3, BigV.below HS.out.2.1 hb3, BigV.below HS.out.2.2 hb3⟩)
      clear hb3 hvp
      go_wp2_with fail
      refine (HPO.out _ _ _ _ (by omega) hvm).mono ?_
      rintro e w4 ⟨vx, rfl, hvx, hb4⟩
      replace HS := hide (show R2St (w.heap.size + 1) (w.heap.size + 2) 0 0 w w4 ∧ BigV w4 ux n 40 ∧ BigV w4 q (hiN S (p + 1)) (141 - (p + 1)) from ⟨HS.out.1.below hb4, BigV.below HS.out.2.1 hb4, BigV.below HS.out.2.2 hb4⟩)
      have HVM := hide (BigV.below hvm hb4)
      clear hb4 hvm
      go_wp2_with fail
      refine (HCM.out _ _ _ _ hvx HS.out.2.1).mono ?_
      rintro e wl ⟨rfl, hw⟩
      subst wl
      clear hvx
      have HI := hide (HIF.out p)
      have HON : Hid (S / 2 ^ p % 2 = 1 → hiN S p = hiN S (p + 1) + 2 ^ p) := hiN_on
      have HOF : Hid (S / 2 ^ p % 2 = 0 → hiN S p = hiN S (p + 1)) := hiN_off
      have HBC := hide (bitN_cases S p)
      generalize cmpN ((hiN S (p + 1) + 2 ^ p) ^ k) n = z at *
      have hw : IntKind.i64.wrap ((p : Int) - 1) = (p : Int) - 1 := by rw [IntKind.wrap_i64]; omega
      by_cases hz : z ≤ 0
      · have HE := hide (HON.out (HI.out.1 hz))
        clear HON HOF HI HBC
        go_wp2
        go_roundw
        case rel => exact ⟨p, (p : Int) - 1, _, rfl, by omega, hide rfl, rfl, ⟨HS.out.1, HS.out.2.1, by rw [HE.out]; exact HVM.out.mono (by omega)⟩⟩
        case measure => first | (simp [intOf]; done) | (simp [intOf]; omega)
      · have HE := hide (HOF.out (by rcases HBC.out with h | h; exact h; exact absurd (HI.out.2 h) hz))
        clear HON HOF HI HBC
        go_wp2
        go_roundw
        case rel => exact ⟨p, (p : Int) - 1, _, rfl, by omega, hide rfl, rfl, ⟨HS.out.1, HS.out.2.1, by rw [HE.out]; exact HS.out.2.2.mono (by omega)⟩⟩
        case measure => first | (simp [intOf]; done) | (simp [intOf]; omega)
    · obtain rfl : zi = -1 := by have := hzi.out; omega
      obtain rfl : c = 0 := by have := hzi.out; omega
      rw [hiN_zero] at HS
      clear hzi hc HS0 HIF HPW HADD HPO HCM
      go_wp2_with fail
      refine (HWS.out _ _ HS.out.2.2).mono ?_
      rintro e w2 ⟨rfl, hb2⟩
      replace HS := hide (show R2St (w.heap.size + 1) (w.heap.size + 2) 0 0 w w2 ∧ BigV w2 ux n 40 ∧ BigV w2 q S 141 from ⟨HS.out.1.below hb2, BigV.below HS.out.2.1 hb2, BigV.below HS.out.2.2 hb2⟩)
      clear hb2
      go_upto_region 10 with fail
      have hbw := below_allocs w2 (.cells #[.int .u64 (dgl (S) 0 : Nat), .int .u64 (dgl (S) 1 : Nat), .int .u64 (dgl (S) 2 : Nat), .int .u64 (dgl (S) 3 : Nat), .int .u64 (dgl (S) 4 : Nat), .int .u64 (dgl (S) 5 : Nat), .int .u64 (dgl (S) 6 : Nat), .int .u64 (dgl (S) 7 : Nat)] 32)
      refine wp_gen (fun W => (R2St (w.heap.size + 1) (w.heap.size + 2) 0 0 w W ∧ BigV W ux n 40 ∧ BigV W q S 141) ∧ LiesF W w2.heap.size (dgl S)) ⟨⟨HS.out.1.below hbw, BigV.below HS.out.2.1 hbw, BigV.below HS.out.2.2 hbw⟩, liesF_new _ _ _⟩ ?_
      have HP10 := hide HS.out.1.ly.2
      clear HS hbw
      generalize w2.heap.size = p10 at *
      rintro W3 h3
      have HS := hide h3
      clear h3
      go_wp2_with fail
      refine (HPK.out _ _ HS.out.1.2.2).mono ?_
      rintro e w4 ⟨vx, rfl, hvx, hb4⟩
      replace HS := hide (show R2St (w.heap.size + 1) (w.heap.size + 2) 0 0 w w4 ∧ BigV w4 ux n 40 ∧ LiesF w4 p10 (dgl S) from ⟨HS.out.1.1.below hb4, BigV.below HS.out.1.2.1 hb4, HS.out.2.below hb4⟩)
      clear hb4
      go_wp2_with fail
      refine (HSB.out _ _ _ HS.out.2.1 hvx).mono ?_
      rintro e w5 ⟨vr, rfl, hvr, hb5⟩
      replace HS := hide (show R2St (w.heap.size + 1) (w.heap.size + 2) 0 0 w w5 ∧ LiesF w5 p10 (dgl S) from ⟨HS.out.1.below hb5, HS.out.2.2.below hb5⟩)
      clear hb5 hvx
      go_wp2_with fail
      refine (HWR.out _ _ hvr).mono ?_
      rintro e w6 ⟨rfl, hb6⟩
      replace HS := hide (show R2St (w.heap.size + 1) (w.heap.size + 2) 0 0 w w6 ∧ LiesF w6 p10 (dgl S) from ⟨HS.out.1.below hb6, HS.out.2.below hb6⟩)
      clear hb6 hvr
      go_upto_region 11 with fail
      refine wp_gen (fun W => R2St (w.heap.size + 1) (w.heap.size + 2) 0 0 w W ∧ LiesF W p10 (dgl S) ∧ LiesF W w6.heap.size (dgl r)) ⟨HS.out.1.below (below_allocs _ _), HS.out.2.below (below_allocs _ _), liesF_new _ _ _⟩ ?_
      have HNE := hide (show w.heap.size + 2 < p10 ∧ w.heap.size + 2 < w6.heap.size from ⟨HP10.out, HS.out.1.ly.2⟩)
      clear HS HP10
      generalize w6.heap.size = p12 at *
      rintro W5 h5
      have HS5 := hide h5
      clear h5
      refine wp_region_storeK 4 [2, 3] [46, 47] (fun bs => [(46, .val (.agg #[.int .u64 (dgl (S) 0 : Nat), .int .u64 (dgl (S) 1 : Nat), .int .u64 (dgl (S) 2 : Nat), .int .u64 (dgl (S) 3 : Nat), .int .u64 (dgl (S) 4 : Nat), .int .u64 (dgl (S) 5 : Nat), .int .u64 (dgl (S) 6 : Nat), .int .u64 (dgl (S) 7 : Nat)])), (47, .val (.agg #[.int .u64 (dgl (r) 0 : Nat), .int .u64 (dgl (r) 1 : Nat), .int .u64 (dgl (r) 2 : Nat), .int .u64 (dgl (r) 3 : Nat), .int .u64 (dgl (r) 4 : Nat), .int .u64 (dgl (r) 5 : Nat), .int .u64 (dgl (r) 6 : Nat), .int .u64 (dgl (r) 7 : Nat)]))])
        (fun bs W => (∀ c e, bs.headD false = c → bs.tail.headD false = e → R2St (w.heap.size + 1) (w.heap.size + 2) (bif c then S else 0) (bif e then r else 0) w W) ∧ LiesF W p10 (dgl (S)) ∧ LiesF W p12 (dgl (r))) (fun bs => rfl) mixedOk (by kernel_rfl) (by kernel_rfl) (by kernel_rfl) (⟨fun c e hc he => by subst hc; subst he; exact (HS5.out).1.below (Below.refl _ _).drew, (HS5.out).2.1.below (Below.refl _ _).drew, (HS5.out).2.2.below (Below.refl _ _).drew⟩) (fun bs W W' h hb => ⟨fun c e hc he => (h.1 c e hc he).below hb, h.2.1.below hb, h.2.2.below hb⟩) ?_ ?_
      · refine kSt rfl (fun φ hφ => gStep_run rfl ?_) ?_
        · intro ρ W hC hc hf hL
          have e10 : ρ (.tmp 10) = .pointer (some ⟨p10, 0, none⟩) := hL 10 (by decide +kernel)
          have hl := hC.2.1.1
          simp [go_sem, hc, hf, e10, hl]
          exact ⟨Below.refl _ _, rfl⟩
        refine kSt rfl (fun φ hφ => gStep_run rfl ?_) ?_
        · intro ρ W hC hc hf hL
          have e12 : ρ (.tmp 12) = .pointer (some ⟨p12, 0, none⟩) := hL 12 (by decide +kernel)
          have hl := hC.2.2.1
          simp [go_sem, hc, hf, e12, hl]
          exact ⟨Below.refl _ _, rfl⟩
        refine kStS rfl ⟨rfl, rfl, ?_⟩ ?_
        · intro φ ρ W hφ hC hc hL
          have e4 : ρ (.tmp 4) = .pointer (some ⟨w.heap.size + 1, 0, none⟩) := hL 4 (by decide +kernel)
          have e46 : ρ (.tmp 46) = .agg #[.int .u64 (dgl (S) 0 : Nat), .int .u64 (dgl (S) 1 : Nat), .int .u64 (dgl (S) 2 : Nat), .int .u64 (dgl (S) 3 : Nat), .int .u64 (dgl (S) 4 : Nat), .int .u64 (dgl (S) 5 : Nat), .int .u64 (dgl (S) 6 : Nat), .int .u64 (dgl (S) 7 : Nat)] := hL 46 (by decide +kernel)
          have g : R2St (w.heap.size + 1) (w.heap.size + 2) 0 (bif φ 3 then r else 0) w W := hC.1 false (φ 3) (by simp [hφ]) rfl
          have hz := g.lx.1
          have hzl := g.lx.2
          have hzf := g.fx
          have hne := HNE.out
          refine gUpon_of ((((((((W.setCell ⟨w.heap.size + 1, 0, none⟩ (.int .u64 (dgl (S) 0 : Nat))).setCell ⟨w.heap.size + 1, 1, none⟩ (.int .u64 (dgl (S) 1 : Nat))).setCell ⟨w.heap.size + 1, 2, none⟩ (.int .u64 (dgl (S) 2 : Nat))).setCell ⟨w.heap.size + 1, 3, none⟩ (.int .u64 (dgl (S) 3 : Nat))).setCell ⟨w.heap.size + 1, 4, none⟩ (.int .u64 (dgl (S) 4 : Nat))).setCell ⟨w.heap.size + 1, 5, none⟩ (.int .u64 (dgl (S) 5 : Nat))).setCell ⟨w.heap.size + 1, 6, none⟩ (.int .u64 (dgl (S) 6 : Nat))).setCell ⟨w.heap.size + 1, 7, none⟩ (.int .u64 (dgl (S) 7 : Nat))) ?_ (fun _ => ?_)
          · simp [go_sem, hc, e4, e46, hz, hzl, hzf, gUpon]
          refine ⟨⟨fun c e hc he => ?_, lies_ne hC.2.1 (by omega), lies_ne hC.2.2 (by omega)⟩, fun t => ?_⟩
          · have hc1 : c = true := by rw [← hc]; simp
            have he1 : e = (φ 3) := by rw [← he]; simp
            subst hc1
            subst he1
            exact g.set1 _
          refine (tbl_imp rfl (fun _ => val_imp) (tbl_imp rfl (fun _ => val_imp) tbl_nil_imp))
        refine kStS rfl ⟨rfl, rfl, ?_⟩ ?_
        · intro φ ρ W hφ hC hc hL
          have e5 : ρ (.tmp 5) = .pointer (some ⟨w.heap.size + 2, 0, none⟩) := hL 5 (by decide +kernel)
          have e47 : ρ (.tmp 47) = .agg #[.int .u64 (dgl (r) 0 : Nat), .int .u64 (dgl (r) 1 : Nat), .int .u64 (dgl (r) 2 : Nat), .int .u64 (dgl (r) 3 : Nat), .int .u64 (dgl (r) 4 : Nat), .int .u64 (dgl (r) 5 : Nat), .int .u64 (dgl (r) 6 : Nat), .int .u64 (dgl (r) 7 : Nat)] := hL 47 (by decide +kernel)
          have g : R2St (w.heap.size + 1) (w.heap.size + 2) (bif φ 2 then S else 0) 0 w W := hC.1 (φ 2) false rfl (by simp [hφ])
          have hz := g.ly.1
          have hzl := g.ly.2
          have hzf := g.fy
          have hne := HNE.out
          refine gUpon_of ((((((((W.setCell ⟨w.heap.size + 2, 0, none⟩ (.int .u64 (dgl (r) 0 : Nat))).setCell ⟨w.heap.size + 2, 1, none⟩ (.int .u64 (dgl (r) 1 : Nat))).setCell ⟨w.heap.size + 2, 2, none⟩ (.int .u64 (dgl (r) 2 : Nat))).setCell ⟨w.heap.size + 2, 3, none⟩ (.int .u64 (dgl (r) 3 : Nat))).setCell ⟨w.heap.size + 2, 4, none⟩ (.int .u64 (dgl (r) 4 : Nat))).setCell ⟨w.heap.size + 2, 5, none⟩ (.int .u64 (dgl (r) 5 : Nat))).setCell ⟨w.heap.size + 2, 6, none⟩ (.int .u64 (dgl (r) 6 : Nat))).setCell ⟨w.heap.size + 2, 7, none⟩ (.int .u64 (dgl (r) 7 : Nat))) ?_ (fun _ => ?_)
          · simp [go_sem, hc, e5, e47, hz, hzl, hzf, gUpon]
          refine ⟨⟨fun c e hc he => ?_, lies_ne hC.2.1 (by omega), lies_ne hC.2.2 (by omega)⟩, fun t => ?_⟩
          · have hc1 : c = (φ 2) := by rw [← hc]; simp
            have he1 : e = true := by rw [← he]; simp
            subst hc1
            subst he1
            exact g.set2 _
          refine (tbl_imp rfl (fun _ => val_imp) (tbl_imp rfl (fun _ => val_imp) tbl_nil_imp))
        exact kSt0
      · intro W hC
        refine gFi 46 rfl ?_
        rintro _ rfl
        refine gFi 47 rfl ?_
        rintro _ rfl
        refine gFiN rfl ?_
        refine gFiN rfl ?_
        refine gFi0 ?_
        simp only [List.drop_succ_cons, List.drop_zero, Act.put, List.setIfInBounds_toArray, List.set_cons_succ, List.set_cons_zero]
        have HS := hide (hC.1 true true rfl rfl)
        clear hC
        have hr1 := HS.out.lx.1
        have hrl1 := HS.out.lx.2
        have hrf1 := HS.out.fx
        have hr2 := HS.out.ly.1
        have hrl2 := HS.out.ly.2
        have hrf2 := HS.out.fy
        have HBE := hide HS.out.bel
        have HO1 := hide HS.out.o1
        have HO2 := hide HS.out.o2
        clear HS
        go_wp2
        exact bodyPost_ret (v := .tuple #[.agg #[.int .u64 (dgl (S) 0 : Nat), .int .u64 (dgl (S) 1 : Nat), .int .u64 (dgl (S) 2 : Nat), .int .u64 (dgl (S) 3 : Nat), .int .u64 (dgl (S) 4 : Nat), .int .u64 (dgl (S) 5 : Nat), .int .u64 (dgl (S) 6 : Nat), .int .u64 (dgl (S) 7 : Nat)], .agg #[.int .u64 (dgl (r) 0 : Nat), .int .u64 (dgl (r) 1 : Nat), .int .u64 (dgl (r) 2 : Nat), .int .u64 (dgl (r) 3 : Nat), .int .u64 (dgl (r) 4 : Nat), .int .u64 (dgl (r) 5 : Nat), .int .u64 (dgl (r) 6 : Nat), .int .u64 (dgl (r) 7 : Nat)]]) (by simp [results, Try.results32, go_sem, hr1, hrl1, hr2, hrl2]) rfl ⟨rfl, HBE.out⟩
  

theorem refRoot_any (n k S : Nat) (hn : n < QQ) (hk0 : 0 < k) (hk : k ≤ 3) (hs : ∀ y, y ^ k ≤ n ↔ y ≤ S) (hS : S < 2 ^ 131) (w : World) :
    Calls Try.prog 32 #[.agg #[.int .u64 (dgl (n) 0 : Nat), .int .u64 (dgl (n) 1 : Nat), .int .u64 (dgl (n) 2 : Nat), .int .u64 (dgl (n) 3 : Nat), .int .u64 (dgl (n) 4 : Nat), .int .u64 (dgl (n) 5 : Nat), .int .u64 (dgl (n) 6 : Nat), .int .u64 (dgl (n) 7 : Nat)], .int .i64 (k : Nat)] w fun e w' => e = .returned (.tuple #[.agg #[.int .u64 (dgl (S) 0 : Nat), .int .u64 (dgl (S) 1 : Nat), .int .u64 (dgl (S) 2 : Nat), .int .u64 (dgl (S) 3 : Nat), .int .u64 (dgl (S) 4 : Nat), .int .u64 (dgl (S) 5 : Nat), .int .u64 (dgl (S) 6 : Nat), .int .u64 (dgl (S) 7 : Nat)], .agg #[.int .u64 (dgl (n - S ^ k) 0 : Nat), .int .u64 (dgl (n - S ^ k) 1 : Nat), .int .u64 (dgl (n - S ^ k) 2 : Nat), .int .u64 (dgl (n - S ^ k) 3 : Nat), .int .u64 (dgl (n - S ^ k) 4 : Nat), .int .u64 (dgl (n - S ^ k) 5 : Nat), .int .u64 (dgl (n - S ^ k) 6 : Nat), .int .u64 (dgl (n - S ^ k) 7 : Nat)]]) ∧ Below w.heap.size w w' := by
  have hle : S ^ k ≤ n := (hs S).2 (Nat.le_refl _)
  refine rroot_walk n k S (S ^ k) (n - S ^ k) hk (decide (QQ ≤ S)) (decide (QQ ≤ n - S ^ k)) (hiN_top hS) ?_ (fun w => refBig_any n hn w) (fun u w hu => refWide_any S 141 u w hu)
    (fun u w hu => (refPow_any S 141 k u (by decide) hk w hu).mono fun e w' ⟨v, e1, e2, e3⟩ => ⟨v, e1, e2.mono (by decide), e3⟩)
    (fun u v w hu hv => (refSub_any n (S ^ k) 40 1000 u v w hu hv (by decide) hle).mono fun e w' ⟨v', e1, e2, e3⟩ => ⟨v', e1, e2.mono (by decide), e3⟩) (fun u w hu => refWide_any (n - S ^ k) 1000 u w hu) w
  intro c
  rw [← root_iff hs]
  unfold cmpN
  split
  · omega
  · split <;> omega

end Go.Proofs.Yteocibahclpegaa

/- Contracts: root2.search. -/
set_option linter.unusedVariables false
set_option linter.unusedSimpArgs false
set_option maxRecDepth 8000
namespace Go.Proofs.Yteocibahclpegaa
open Go.RowKit Plain

end Go.Proofs.Yteocibahclpegaa

