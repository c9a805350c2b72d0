/- Contracts and laws: ClassSignsWalk. -/
import Derived.Test.YtidfegilddlglaaDoorXClsW
import Derived.Test.YtidfegilddlglaaDoorBaseQ
/- The walk of ClassSigns. -/
set_option linter.unusedVariables false
set_option linter.unusedSimpArgs false
set_option maxRecDepth 8000
namespace Go.Proofs.YtidfegilddlglaaDoor
open Go.RowKit Plain

/-- A word that lies in a block. -/
structure WB (W : World) (p x y : Nat) : Prop where
  h : W.cell? ⟨p, 0, none⟩ = some (.int .u64 (x : Nat))
  l : W.cell? ⟨p, 1, none⟩ = some (.int .u64 (y : Nat))
  lt : p < W.heap.size
theorem WB.below {W W' : World} {p x y : Nat} (h : WB W p x y) (hb : Below W.heap.size W W') : WB W' p x y :=
  ⟨(hb.cell (p := ⟨p, 0, none⟩) h.lt).trans h.h, (hb.cell (p := ⟨p, 1, none⟩) h.lt).trans h.l, Nat.lt_of_lt_of_le h.lt hb.size⟩
def SlotIs.wbox (B x y : Nat) : SlotIs :=
  ⟨fun v w => ∃ b, v = .pointer (some ⟨b, 0, none⟩) ∧ B ≤ b ∧ WB w b x y ∧ ∀ i, w.frozen? ⟨b, i, none⟩ = false,
   fun v w w' hb ⟨b, h1, h2, h3, h4⟩ => ⟨b, h1, h2, h3.below hb, fun i => (hb.frozen (p := ⟨b, i, none⟩) h3.lt).trans (h4 i)⟩⟩
theorem wbox_other {B x y p : Nat} {v u t : Value} {W : World} (h : (SlotIs.wbox B x y).R v W) (hne : v ≠ .pointer (some ⟨p, 0, none⟩)) : (SlotIs.wbox B x y).R v ((W.setCell ⟨p, 0, none⟩ u).setCell ⟨p, 1, none⟩ t) := by
  obtain ⟨b, rfl, h2, h3, h4⟩ := h
  have hb : b ≠ p := fun e => hne (by rw [e])
  exact ⟨b, rfl, h2, ⟨by simpa [go_sem, hb] using h3.h, by simpa [go_sem, hb] using h3.l, by simpa [go_sem] using h3.lt⟩, fun i => by simpa [go_sem] using h4 i⟩
theorem wb_set {W : World} {p x y x2 y2 : Nat} (h : WB W p x y) : WB ((W.setCell ⟨p, 0, none⟩ (.int .u64 (x2 : Nat))).setCell ⟨p, 1, none⟩ (.int .u64 (y2 : Nat))) p x2 y2 := by
  have h1 := h.h
  have h2 := h.l
  have h3 := h.lt
  exact ⟨by simp [go_sem, h1, h2, h3], by simp [go_sem, h1, h2, h3], by simpa [go_sem] using h3⟩
theorem wb_new (w : World) (e : TypeId) : WB (w.alloc (.cells #[.int .u64 0, .int .u64 0] e)) w.heap.size 0 0 :=
  ⟨by simp [go_sem], by simp [go_sem], by simp⟩
theorem OwSt.under {a : Nat} {w W W' : World} (h : OwSt a w W) (hb : Below (w.heap.size + 1) W W') : OwSt a w W' :=
  ⟨⟨fun i hi => (hb.cell (p := ⟨0, i, none⟩) (Nat.zero_lt_succ _)).trans (h.g.c i hi), Nat.lt_of_lt_of_le h.g.lt hb.size⟩, (hb.cell (p := ⟨w.heap.size, 0, none⟩) (Nat.lt_succ_self _)).trans h.h, (hb.cell (p := ⟨w.heap.size, 1, none⟩) (Nat.lt_succ_self _)).trans h.l, Nat.lt_of_lt_of_le h.lt hb.size, h.bel.trans (hb.mono (Nat.le_succ _))⟩

set_option maxHeartbeats 2000000 in
theorem classSigns_zero (f : Int) (a : Nat)
    (HO : Hid (∀ w, FmtG w → Calls Tryd.prog 13 #[.int .i64 f, .agg #[.int .u64 (dgl (a) 1 : Nat), .int .u64 (dgl (a) 0 : Nat)]] w fun e w' => e = .returned (.int .i64 0) ∧ Below w.heap.size w w')) (w : World) (hg : FmtG w) :
    Calls Tryd.prog 6 #[.int .i64 f, .agg #[.int .u64 (dgl (a) 1 : Nat), .int .u64 (dgl (a) 0 : Nat)]] w fun e w' => e = .returned (.bool true) ∧ Below w.heap.size w w' := by
  have HS := hide (owSt_start a w hg)
  clear hg
  go_enter Tryd.func6, Tryd.ntmps6
  have l0 := HS.out.h
  have l1 := HS.out.l
  go_wp2_with fail
  refine (HO.out _ HS.out.g).mono ?_
  rintro e w1 ⟨rfl, hb1⟩
  replace HS := hide (HS.out.below hb1)
  clear hb1 l0 l1 HO
  go_wp2_with fail
  refine (awake6_any _ HS.out.g).mono ?_
  rintro e w2 ⟨rfl, hb2⟩
  have HB := hide (below_trans HS.out.bel hb2)
  clear hb2 HS
  go_wp2
  go_ret
  exact ⟨rfl, HB.out⟩

set_option maxHeartbeats 4000000 in
theorem classSigns_more (f : Int) (a b c k : Nat) (ng : Bool) (Hk : Hid (((k : Nat) : Int) ≠ 0))
    (HO : Hid (∀ w, FmtG w → Calls Tryd.prog 13 #[.int .i64 f, .agg #[.int .u64 (dgl (a) 1 : Nat), .int .u64 (dgl (a) 0 : Nat)]] w fun e w' => e = .returned (.int .i64 (k : Nat)) ∧ Below w.heap.size w w'))
    (HAB : Hid (∀ w, FmtG w → Calls Tryd.prog 20 #[.int .i64 f, .agg #[.int .u64 (dgl (a) 1 : Nat), .int .u64 (dgl (a) 0 : Nat)]] w fun e w' => e = .returned (.agg #[.int .u64 (dgl (b) 1 : Nat), .int .u64 (dgl (b) 0 : Nat)]) ∧ Below w.heap.size w w'))
    (HFL : Hid (∀ w, FmtG w → Calls Tryd.prog 21 #[.int .i64 f, .agg #[.int .u64 (dgl (a) 1 : Nat), .int .u64 (dgl (a) 0 : Nat)]] w fun e w' => e = .returned (.agg #[.int .u64 (dgl (c) 1 : Nat), .int .u64 (dgl (c) 0 : Nat)]) ∧ Below w.heap.size w w'))
    (HF2 : Hid (∀ w, FmtG w → Calls Tryd.prog 21 #[.int .i64 f, .agg #[.int .u64 (dgl (c) 1 : Nat), .int .u64 (dgl (c) 0 : Nat)]] w fun e w' => e = .returned (.agg #[.int .u64 (dgl (a) 1 : Nat), .int .u64 (dgl (a) 0 : Nat)]) ∧ Below w.heap.size w w'))
    (HN2 : Hid (∀ w, FmtG w → Calls Tryd.prog 16 #[.int .i64 f, .agg #[.int .u64 (dgl (c) 1 : Nat), .int .u64 (dgl (c) 0 : Nat)]] w fun e w' => e = .returned (.bool (!ng)) ∧ Below w.heap.size w w'))
    (HN : Hid (∀ w, FmtG w → Calls Tryd.prog 16 #[.int .i64 f, .agg #[.int .u64 (dgl (a) 1 : Nat), .int .u64 (dgl (a) 0 : Nat)]] w fun e w' => e = .returned (.bool ng) ∧ Below w.heap.size w w'))
    (HN1 : Hid (∀ w, FmtG w → Calls Tryd.prog 16 #[.int .i64 f, .agg #[.int .u64 (dgl (b) 1 : Nat), .int .u64 (dgl (b) 0 : Nat)]] w fun e w' => e = .returned (.bool false) ∧ Below w.heap.size w w'))
    (HO1 : Hid (∀ w, FmtG w → Calls Tryd.prog 13 #[.int .i64 f, .agg #[.int .u64 (dgl (b) 1 : Nat), .int .u64 (dgl (b) 0 : Nat)]] w fun e w' => e = .returned (.int .i64 (k : Nat)) ∧ Below w.heap.size w w'))
    (HO2 : Hid (∀ w, FmtG w → Calls Tryd.prog 13 #[.int .i64 f, .agg #[.int .u64 (dgl (c) 1 : Nat), .int .u64 (dgl (c) 0 : Nat)]] w fun e w' => e = .returned (.int .i64 (k : Nat)) ∧ Below w.heap.size w w'))
    (HA2 : Hid (∀ w, FmtG w → Calls Tryd.prog 20 #[.int .i64 f, .agg #[.int .u64 (dgl (c) 1 : Nat), .int .u64 (dgl (c) 0 : Nat)]] w fun e w' => e = .returned (.agg #[.int .u64 (dgl (b) 1 : Nat), .int .u64 (dgl (b) 0 : Nat)]) ∧ Below w.heap.size w w')) (w : World) (hg : FmtG w) :
    Calls Tryd.prog 6 #[.int .i64 f, .agg #[.int .u64 (dgl (a) 1 : Nat), .int .u64 (dgl (a) 0 : Nat)]] w fun e w' => e = .returned (.bool true) ∧ Below w.heap.size w w' := by
  have HS := hide (owSt_start a w hg)
  clear hg
  go_enter Tryd.func6, Tryd.ntmps6
  have l0 := HS.out.h
  have l1 := HS.out.l
  go_wp2_with fail
  refine (HO.out _ HS.out.g).mono ?_
  rintro e w1 ⟨rfl, hb1⟩
  replace HS := hide (HS.out.below hb1)
  clear hb1 l0 l1 HO
  have hk := Hk.out
  go_upto_region 4 with fail
  refine wp_gen (fun W => OwSt a w W) HS.out ?_
  clear HS hk
  rintro W1 h1
  refine wp_region_storeJ 10 [8, 9] [6, 7] [14, 15, 16, 17, 18, 19, 6, 7] (fun bs => [(14, .val (.int .i64 f)), (15, .val (.agg #[.int .u64 (dgl (a) 1 : Nat), .int .u64 (dgl (a) 0 : Nat)])), (16, .val (.agg #[.int .u64 (dgl (b) 1 : Nat), .int .u64 (dgl (b) 0 : Nat)])), (17, .val (.int .i64 f)), (18, .val (.agg #[.int .u64 (dgl (a) 1 : Nat), .int .u64 (dgl (a) 0 : Nat)])), (19, .val (.agg #[.int .u64 (dgl (c) 1 : Nat), .int .u64 (dgl (c) 0 : Nat)])), (6, bif bs.headD false then SlotIs.wbox (w.heap.size + 1) (dgl b 1) (dgl b 0) else SlotIs.wbox (w.heap.size + 1) 0 0), (7, bif bs.tail.headD false then SlotIs.wbox (w.heap.size + 1) (dgl c 1) (dgl c 0) else SlotIs.wbox (w.heap.size + 1) 0 0)])
    (fun _ W => OwSt a w W) (fun bs => rfl) mixedOk (by kernel_rfl) (by kernel_rfl) (by kernel_rfl) (apart_start (by kernel_rfl)) (h1.below (Below.refl _ _).drew) (fun bs W W' h hb => h.below hb) ?_ ?_
  · refine jSt rfl rfl (fun φ hφ => gStep_run rfl (gRun_move 0 14 (.inl rfl) rfl (by decide +kernel) (fun v w h => h))) ?_
    refine jSt rfl rfl (fun φ hφ => gStep_run rfl ?_) ?_
    · intro ρ W hC hc hf hL
      have e3 : ρ (.tmp 3) = .pointer (some ⟨w.heap.size, 0, none⟩) := hL 3 (by decide +kernel)
      have l0 := hC.h
      have l1 := hC.l
      simp [go_sem, hc, hf, e3, l0, l1]
      exact ⟨Below.refl _ _, rfl⟩
    refine jSt rfl rfl (fun φ hφ => gStep_run rfl ?_) ?_
    · intro ρ W hC hc hf hL
      have e14 : ρ (.tmp 14) = .int .i64 f := hL 14 (by decide +kernel)
      have e15 : ρ (.tmp 15) = .agg #[.int .u64 (dgl (a) 1 : Nat), .int .u64 (dgl (a) 0 : Nat)] := hL 15 (by decide +kernel)
      simp [go_sem, hc, hf, e14, e15]
      refine (HAB.out W hC.g).mono ?_
      rintro e w' ⟨rfl, hb⟩
      exact ⟨_, rfl, by first | exact hb | (subst hb; exact Below.refl _ _), rfl⟩
    refine jSt rfl rfl (fun φ hφ => gStep_run rfl (gRun_move 0 17 (.inl rfl) rfl (by decide +kernel) (fun v w h => h))) ?_
    refine jSt rfl rfl (fun φ hφ => gStep_run rfl ?_) ?_
    · intro ρ W hC hc hf hL
      have e3 : ρ (.tmp 3) = .pointer (some ⟨w.heap.size, 0, none⟩) := hL 3 (by decide +kernel)
      have l0 := hC.h
      have l1 := hC.l
      simp [go_sem, hc, hf, e3, l0, l1]
      exact ⟨Below.refl _ _, rfl⟩
    refine jSt rfl rfl (fun φ hφ => gStep_run rfl ?_) ?_
    · intro ρ W hC hc hf hL
      have e17 : ρ (.tmp 17) = .int .i64 f := hL 17 (by decide +kernel)
      have e18 : ρ (.tmp 18) = .agg #[.int .u64 (dgl (a) 1 : Nat), .int .u64 (dgl (a) 0 : Nat)] := hL 18 (by decide +kernel)
      simp [go_sem, hc, hf, e17, e18]
      refine (HFL.out W hC.g).mono ?_
      rintro e w' ⟨rfl, hb⟩
      exact ⟨_, rfl, by first | exact hb | (subst hb; exact Below.refl _ _), rfl⟩
    refine jStF rfl rfl (fun φ hφ => ⟨rfl, ?_⟩) ?_
    · intro ρ W hC hc hL
      have hφ0 : φ 8 = false := hφ 8 (by simp) (by kernel_rfl)
      simp [go_sem, hc]
      refine ⟨⟨below_allocs _ _, ?_⟩, fun b hb => by cases hb; simp⟩
      show (bif φ 8 then SlotIs.wbox (w.heap.size + 1) (dgl b 1) (dgl b 0) else SlotIs.wbox (w.heap.size + 1) 0 0).R _ _
      rw [hφ0]
      exact ⟨_, rfl, hC.lt, wb_new _ _, fun i => by simp [go_sem]⟩
    refine jStF rfl rfl (fun φ hφ => ⟨rfl, ?_⟩) ?_
    · intro ρ W hC hc hL
      have hφ0 : φ 9 = false := hφ 9 (by simp) (by kernel_rfl)
      simp [go_sem, hc]
      refine ⟨⟨below_allocs _ _, ?_⟩, fun b hb => by cases hb; simp⟩
      show (bif φ 9 then SlotIs.wbox (w.heap.size + 1) (dgl c 1) (dgl c 0) else SlotIs.wbox (w.heap.size + 1) 0 0).R _ _
      rw [hφ0]
      exact ⟨_, rfl, hC.lt, wb_new _ _, fun i => by simp [go_sem]⟩
    refine jStS rfl ⟨rfl, rfl, ?_⟩ ?_
    · intro φ ρ W hφ hC hc hap hL
      have b6 := hL 6 (by decide +kernel)
      have e16 : ρ (.tmp 16) = .agg #[.int .u64 (dgl (b) 1 : Nat), .int .u64 (dgl (b) 0 : Nat)] := hL 16 (by decide +kernel)
      have b6 : (bif φ 8 then SlotIs.wbox (w.heap.size + 1) (dgl b 1) (dgl b 0) else SlotIs.wbox (w.heap.size + 1) 0 0).R (ρ (.tmp 6)) W := hL 6 (by decide +kernel)
      rw [hφ] at b6
      obtain ⟨pp, ep, qp, lp, zp⟩ := b6
      have hz := lp.h
      have hy := lp.l
      have hzl := lp.lt
      refine gUpon_of ((W.setCell ⟨pp, 0, none⟩ (.int .u64 (dgl b 1 : Nat))).setCell ⟨pp, 1, none⟩ (.int .u64 (dgl b 0 : Nat))) ?_ (fun _ => ?_)
      · simp [go_sem, hc, e16, ep, hz, hy, hzl, zp, gUpon]
      have hs2 : Below (w.heap.size + 1) W ((W.setCell ⟨pp, 0, none⟩ (.int .u64 (dgl b 1 : Nat))).setCell ⟨pp, 1, none⟩ (.int .u64 (dgl b 0 : Nat))) := ((Below.refl (w.heap.size + 1) W).setCell (p := ⟨pp, 0, none⟩) qp _).setCell (p := ⟨pp, 1, none⟩) qp _
      have hne : ρ (.tmp 7) ≠ .pointer (some ⟨pp, 0, none⟩) := hap.2 6 (by decide) 7 (by decide) (by decide) pp ep
      refine ⟨hC.under hs2, hs2.size, fun t => ?_⟩
      refine (tbl_imp rfl (fun _ => val_imp) (tbl_imp rfl (fun _ => val_imp) (tbl_imp rfl (fun _ => val_imp) (tbl_imp rfl (fun _ => val_imp) (tbl_imp rfl (fun _ => val_imp) (tbl_imp rfl (fun _ => val_imp) (tbl_imp rfl (fun ht h => ?_) (tbl_imp rfl (fun ht h => ?_) tbl_nil_imp))))))))
      · subst ht
        show (bif (φ 8 || true) then SlotIs.wbox (w.heap.size + 1) (dgl b 1) (dgl b 0) else SlotIs.wbox (w.heap.size + 1) 0 0).R _ _
        rw [Bool.or_true]
        exact ⟨pp, ep, qp, wb_set lp, fun i => by simpa [go_sem] using zp i⟩
      · subst ht
        show (bif (φ 9 || false) then SlotIs.wbox (w.heap.size + 1) (dgl c 1) (dgl c 0) else SlotIs.wbox (w.heap.size + 1) 0 0).R _ _
        rw [Bool.or_false]
        replace h : (bif φ 9 then SlotIs.wbox (w.heap.size + 1) (dgl c 1) (dgl c 0) else SlotIs.wbox (w.heap.size + 1) 0 0).R (ρ (.tmp 7)) W := h
        cases hφ2 : φ 9
        · rw [hφ2] at h; exact wbox_other h hne
        · rw [hφ2] at h; exact wbox_other h hne
    refine jStS rfl ⟨rfl, rfl, ?_⟩ ?_
    · intro φ ρ W hφ hC hc hap hL
      have b7 := hL 7 (by decide +kernel)
      have e19 : ρ (.tmp 19) = .agg #[.int .u64 (dgl (c) 1 : Nat), .int .u64 (dgl (c) 0 : Nat)] := hL 19 (by decide +kernel)
      have b7 : (bif φ 9 then SlotIs.wbox (w.heap.size + 1) (dgl c 1) (dgl c 0) else SlotIs.wbox (w.heap.size + 1) 0 0).R (ρ (.tmp 7)) W := hL 7 (by decide +kernel)
      rw [hφ] at b7
      obtain ⟨pp, ep, qp, lp, zp⟩ := b7
      have hz := lp.h
      have hy := lp.l
      have hzl := lp.lt
      refine gUpon_of ((W.setCell ⟨pp, 0, none⟩ (.int .u64 (dgl c 1 : Nat))).setCell ⟨pp, 1, none⟩ (.int .u64 (dgl c 0 : Nat))) ?_ (fun _ => ?_)
      · simp [go_sem, hc, e19, ep, hz, hy, hzl, zp, gUpon]
      have hs2 : Below (w.heap.size + 1) W ((W.setCell ⟨pp, 0, none⟩ (.int .u64 (dgl c 1 : Nat))).setCell ⟨pp, 1, none⟩ (.int .u64 (dgl c 0 : Nat))) := ((Below.refl (w.heap.size + 1) W).setCell (p := ⟨pp, 0, none⟩) qp _).setCell (p := ⟨pp, 1, none⟩) qp _
      have hne : ρ (.tmp 6) ≠ .pointer (some ⟨pp, 0, none⟩) := hap.2 7 (by decide) 6 (by decide) (by decide) pp ep
      refine ⟨hC.under hs2, hs2.size, fun t => ?_⟩
      refine (tbl_imp rfl (fun _ => val_imp) (tbl_imp rfl (fun _ => val_imp) (tbl_imp rfl (fun _ => val_imp) (tbl_imp rfl (fun _ => val_imp) (tbl_imp rfl (fun _ => val_imp) (tbl_imp rfl (fun _ => val_imp) (tbl_imp rfl (fun ht h => ?_) (tbl_imp rfl (fun ht h => ?_) tbl_nil_imp))))))))
      · subst ht
        show (bif (φ 8 || false) then SlotIs.wbox (w.heap.size + 1) (dgl b 1) (dgl b 0) else SlotIs.wbox (w.heap.size + 1) 0 0).R _ _
        rw [Bool.or_false]
        replace h : (bif φ 8 then SlotIs.wbox (w.heap.size + 1) (dgl b 1) (dgl b 0) else SlotIs.wbox (w.heap.size + 1) 0 0).R (ρ (.tmp 6)) W := h
        cases hφ2 : φ 8
        · rw [hφ2] at h; exact wbox_other h hne
        · rw [hφ2] at h; exact wbox_other h hne
      · subst ht
        show (bif (φ 9 || true) then SlotIs.wbox (w.heap.size + 1) (dgl c 1) (dgl c 0) else SlotIs.wbox (w.heap.size + 1) 0 0).R _ _
        rw [Bool.or_true]
        exact ⟨pp, ep, qp, wb_set lp, fun i => by simpa [go_sem] using zp i⟩
    exact jSt0
  · intro W hC
    refine gFi 14 rfl ?_
    rintro _ rfl
    refine gFi 15 rfl ?_
    rintro _ rfl
    refine gFi 16 rfl ?_
    rintro _ rfl
    refine gFi 17 rfl ?_
    rintro _ rfl
    refine gFi 18 rfl ?_
    rintro _ rfl
    refine gFi 19 rfl ?_
    rintro _ rfl
    refine gFi 6 rfl ?_
    rintro u6 b6
    refine gFi 7 rfl ?_
    rintro u7 b7
    refine gFiN rfl ?_
    refine gFiN rfl ?_
    refine gFi0 ?_
    simp only [List.drop_succ_cons, List.drop_zero, Act.put, List.setIfInBounds_toArray, List.set_cons_succ, List.set_cons_zero]
    obtain ⟨p6, rfl, _, l6, _⟩ := b6
    obtain ⟨p7, rfl, _, l7, _⟩ := b7
    have HS := hide hC
    have HP := hide l6
    have HQ := hide l7
    clear hC l6 l7 h1
    go_upto_region 5 with fail
    refine wp_gen (fun W => OwSt a w W ∧ WB W p6 (dgl b 1) (dgl b 0) ∧ WB W p7 (dgl c 1) (dgl c 0)) ⟨HS.out, HP.out, HQ.out⟩ ?_
    clear HS HP HQ
    rintro W2 ⟨g1, g2, g3⟩
    refine wp_region_grow 44 [(20, .val (.int .i64 f)), (21, .val (.agg #[.int .u64 (dgl (c) 1 : Nat), .int .u64 (dgl (c) 0 : Nat)])), (22, .val (.agg #[.int .u64 (dgl (a) 1 : Nat), .int .u64 (dgl (a) 0 : Nat)])), (23, .val (.agg #[.int .u64 (dgl (a) 1 : Nat), .int .u64 (dgl (a) 0 : Nat)])), (24, .val (.bool true)), (25, .val (.bool true)), (26, .val (.int .i64 f)), (27, .val (.agg #[.int .u64 (dgl (c) 1 : Nat), .int .u64 (dgl (c) 0 : Nat)])), (28, .val (.bool (!ng))), (29, .val (.int .i64 f)), (30, .val (.agg #[.int .u64 (dgl (a) 1 : Nat), .int .u64 (dgl (a) 0 : Nat)])), (31, .val (.bool ng)), (32, .val (.bool true)), (33, .val (.bool true)), (34, .val (.bool true)), (35, .val (.int .i64 f)), (36, .val (.agg #[.int .u64 (dgl (b) 1 : Nat), .int .u64 (dgl (b) 0 : Nat)])), (37, .val (.bool false)), (38, .val (.bool true)), (39, .val (.bool true)), (40, .val (.bool true)), (41, .val (.int .i64 f)), (42, .val (.agg #[.int .u64 (dgl (b) 1 : Nat), .int .u64 (dgl (b) 0 : Nat)])), (43, .val (.int .i64 (k : Nat))), (44, .val (.int .i64 (k : Nat))), (45, .val (.bool true)), (46, .val (.bool true)), (47, .val (.bool true)), (48, .val (.int .i64 f)), (49, .val (.agg #[.int .u64 (dgl (c) 1 : Nat), .int .u64 (dgl (c) 0 : Nat)])), (50, .val (.int .i64 (k : Nat))), (51, .val (.int .i64 (k : Nat))), (52, .val (.bool true)), (53, .val (.bool true)), (54, .val (.bool true)), (55, .val (.int .i64 f)), (56, .val (.agg #[.int .u64 (dgl (c) 1 : Nat), .int .u64 (dgl (c) 0 : Nat)])), (57, .val (.agg #[.int .u64 (dgl (b) 1 : Nat), .int .u64 (dgl (b) 0 : Nat)])), (58, .val (.agg #[.int .u64 (dgl (b) 1 : Nat), .int .u64 (dgl (b) 0 : Nat)])), (59, .val (.bool true)), (60, .val (.bool true)), (61, .val (.bool true)), (62, .val (.bool true)), (63, .val (.bool true))]
      (fun W => OwSt a w W ∧ WB W p6 (dgl b 1) (dgl b 0) ∧ WB W p7 (dgl c 1) (dgl c 0)) mixedOk (by kernel_rfl) (by kernel_rfl) (⟨g1.below (Below.refl _ _).drew, g2.below (Below.refl _ _).drew, g3.below (Below.refl _ _).drew⟩) (fun W W' h hb => ⟨h.1.below hb, h.2.1.below hb, h.2.2.below hb⟩) ?_ ?_
    · refine gSt (gStep_run rfl (gRun_move 0 20 (.inl rfl) rfl (by decide +kernel) (fun v w h => h))) ?_
      refine gSt (gStep_run rfl ?_) ?_
      · intro ρ W hC hc hf hL
        have e7 : ρ (.tmp 7) = .pointer (some ⟨p7, 0, none⟩) := hL 7 (by decide +kernel)
        have l0 := hC.2.2.h
        have l1 := hC.2.2.l
        simp [go_sem, hc, hf, e7, l0, l1]
        exact ⟨Below.refl _ _, rfl⟩
      refine gSt (gStep_run rfl ?_) ?_
      · intro ρ W hC hc hf hL
        have e20 : ρ (.tmp 20) = .int .i64 f := hL 20 (by decide +kernel)
        have e21 : ρ (.tmp 21) = .agg #[.int .u64 (dgl (c) 1 : Nat), .int .u64 (dgl (c) 0 : Nat)] := hL 21 (by decide +kernel)
        simp [go_sem, hc, hf, e20, e21]
        refine (HF2.out W hC.1.g).mono ?_
        rintro e w' ⟨rfl, hb⟩
        exact ⟨_, rfl, by first | exact hb | (subst hb; exact Below.refl _ _), rfl⟩
      refine gSt (gStep_run rfl ?_) ?_
      · intro ρ W hC hc hf hL
        have e3 : ρ (.tmp 3) = .pointer (some ⟨w.heap.size, 0, none⟩) := hL 3 (by decide +kernel)
        have l0 := hC.1.h
        have l1 := hC.1.l
        simp [go_sem, hc, hf, e3, l0, l1]
        exact ⟨Below.refl _ _, rfl⟩
      refine gSt (gStep_run rfl ?_) ?_
      · intro ρ W hC hc hf hL
        have e22 : ρ (.tmp 22) = .agg #[.int .u64 (dgl (a) 1 : Nat), .int .u64 (dgl (a) 0 : Nat)] := hL 22 (by decide +kernel)
        have e23 : ρ (.tmp 23) = .agg #[.int .u64 (dgl (a) 1 : Nat), .int .u64 (dgl (a) 0 : Nat)] := hL 23 (by decide +kernel)
        have l0 := word_same (dgl a 1) (dgl a 0)
        simp [go_sem, hc, hf, e22, e23, l0]
        exact ⟨Below.refl _ _, rfl⟩
      refine gSt (gStep_run rfl (gRun_move 24 25 (.inl rfl) rfl (by decide +kernel) (fun v w h => h))) ?_
      refine gSt (gStep_on 5 25 true rfl rfl (by decide +kernel) (fun v w h => h) (gRun_move 0 26 (.inl rfl) rfl (by decide +kernel) (fun v w h => h))) ?_
      refine gSt (gStep_on 5 25 true rfl rfl (by decide +kernel) (fun v w h => h) ?_) ?_
      · intro ρ W hC hc hf hL
        have e7 : ρ (.tmp 7) = .pointer (some ⟨p7, 0, none⟩) := hL 7 (by decide +kernel)
        have l0 := hC.2.2.h
        have l1 := hC.2.2.l
        simp [go_sem, hc, hf, e7, l0, l1]
        exact ⟨Below.refl _ _, rfl⟩
      refine gSt (gStep_on 5 25 true rfl rfl (by decide +kernel) (fun v w h => h) ?_) ?_
      · intro ρ W hC hc hf hL
        have e26 : ρ (.tmp 26) = .int .i64 f := hL 26 (by decide +kernel)
        have e27 : ρ (.tmp 27) = .agg #[.int .u64 (dgl (c) 1 : Nat), .int .u64 (dgl (c) 0 : Nat)] := hL 27 (by decide +kernel)
        simp [go_sem, hc, hf, e26, e27]
        refine (HN2.out W hC.1.g).mono ?_
        rintro e w' ⟨rfl, hb⟩
        exact ⟨_, rfl, by first | exact hb | (subst hb; exact Below.refl _ _), rfl⟩
      refine gSt (gStep_on 5 25 true rfl rfl (by decide +kernel) (fun v w h => h) (gRun_move 0 29 (.inl rfl) rfl (by decide +kernel) (fun v w h => h))) ?_
      refine gSt (gStep_on 5 25 true rfl rfl (by decide +kernel) (fun v w h => h) ?_) ?_
      · intro ρ W hC hc hf hL
        have e3 : ρ (.tmp 3) = .pointer (some ⟨w.heap.size, 0, none⟩) := hL 3 (by decide +kernel)
        have l0 := hC.1.h
        have l1 := hC.1.l
        simp [go_sem, hc, hf, e3, l0, l1]
        exact ⟨Below.refl _ _, rfl⟩
      refine gSt (gStep_on 5 25 true rfl rfl (by decide +kernel) (fun v w h => h) ?_) ?_
      · intro ρ W hC hc hf hL
        have e29 : ρ (.tmp 29) = .int .i64 f := hL 29 (by decide +kernel)
        have e30 : ρ (.tmp 30) = .agg #[.int .u64 (dgl (a) 1 : Nat), .int .u64 (dgl (a) 0 : Nat)] := hL 30 (by decide +kernel)
        simp [go_sem, hc, hf, e29, e30]
        refine (HN.out W hC.1.g).mono ?_
        rintro e w' ⟨rfl, hb⟩
        exact ⟨_, rfl, by first | exact hb | (subst hb; exact Below.refl _ _), rfl⟩
      refine gSt (gStep_on 5 25 true rfl rfl (by decide +kernel) (fun v w h => h) ?_) ?_
      · intro ρ W hC hc hf hL
        have e28 : ρ (.tmp 28) = .bool (!ng) := hL 28 (by decide +kernel)
        have e31 : ρ (.tmp 31) = .bool ng := hL 31 (by decide +kernel)
        simp [go_sem, hc, hf, e28, e31]
        exact ⟨Below.refl _ _, rfl⟩
      refine gSt (gStep_run rfl (gRun_pickT 25 32 33 _ rfl rfl (by decide +kernel) (by decide +kernel) (fun v w h => h) (fun v w h => h))) ?_
      refine gSt (gStep_run rfl (gRun_move 33 34 (.inl rfl) rfl (by decide +kernel) (fun v w h => h))) ?_
      refine gSt (gStep_on 14 34 true rfl rfl (by decide +kernel) (fun v w h => h) (gRun_move 0 35 (.inl rfl) rfl (by decide +kernel) (fun v w h => h))) ?_
      refine gSt (gStep_on 14 34 true rfl rfl (by decide +kernel) (fun v w h => h) ?_) ?_
      · intro ρ W hC hc hf hL
        have e6 : ρ (.tmp 6) = .pointer (some ⟨p6, 0, none⟩) := hL 6 (by decide +kernel)
        have l0 := hC.2.1.h
        have l1 := hC.2.1.l
        simp [go_sem, hc, hf, e6, l0, l1]
        exact ⟨Below.refl _ _, rfl⟩
      refine gSt (gStep_on 14 34 true rfl rfl (by decide +kernel) (fun v w h => h) ?_) ?_
      · intro ρ W hC hc hf hL
        have e35 : ρ (.tmp 35) = .int .i64 f := hL 35 (by decide +kernel)
        have e36 : ρ (.tmp 36) = .agg #[.int .u64 (dgl (b) 1 : Nat), .int .u64 (dgl (b) 0 : Nat)] := hL 36 (by decide +kernel)
        simp [go_sem, hc, hf, e35, e36]
        refine (HN1.out W hC.1.g).mono ?_
        rintro e w' ⟨rfl, hb⟩
        exact ⟨_, rfl, by first | exact hb | (subst hb; exact Below.refl _ _), rfl⟩
      refine gSt (gStep_on 14 34 true rfl rfl (by decide +kernel) (fun v w h => h) ?_) ?_
      · intro ρ W hC hc hf hL
        have e37 : ρ (.tmp 37) = .bool false := hL 37 (by decide +kernel)
        simp [go_sem, hc, hf, e37]
        exact ⟨Below.refl _ _, rfl⟩
      refine gSt (gStep_run rfl (gRun_pickT 34 38 39 _ rfl rfl (by decide +kernel) (by decide +kernel) (fun v w h => h) (fun v w h => h))) ?_
      refine gSt (gStep_run rfl (gRun_move 39 40 (.inl rfl) rfl (by decide +kernel) (fun v w h => h))) ?_
      refine gSt (gStep_on 20 40 true rfl rfl (by decide +kernel) (fun v w h => h) (gRun_move 0 41 (.inl rfl) rfl (by decide +kernel) (fun v w h => h))) ?_
      refine gSt (gStep_on 20 40 true rfl rfl (by decide +kernel) (fun v w h => h) ?_) ?_
      · intro ρ W hC hc hf hL
        have e6 : ρ (.tmp 6) = .pointer (some ⟨p6, 0, none⟩) := hL 6 (by decide +kernel)
        have l0 := hC.2.1.h
        have l1 := hC.2.1.l
        simp [go_sem, hc, hf, e6, l0, l1]
        exact ⟨Below.refl _ _, rfl⟩
      refine gSt (gStep_on 20 40 true rfl rfl (by decide +kernel) (fun v w h => h) ?_) ?_
      · intro ρ W hC hc hf hL
        have e41 : ρ (.tmp 41) = .int .i64 f := hL 41 (by decide +kernel)
        have e42 : ρ (.tmp 42) = .agg #[.int .u64 (dgl (b) 1 : Nat), .int .u64 (dgl (b) 0 : Nat)] := hL 42 (by decide +kernel)
        simp [go_sem, hc, hf, e41, e42]
        refine (HO1.out W hC.1.g).mono ?_
        rintro e w' ⟨rfl, hb⟩
        exact ⟨_, rfl, by first | exact hb | (subst hb; exact Below.refl _ _), rfl⟩
      refine gSt (gStep_on 20 40 true rfl rfl (by decide +kernel) (fun v w h => h) (gRun_move 5 44 (.inl rfl) rfl (by decide +kernel) (fun v w h => h))) ?_
      refine gSt (gStep_on 20 40 true rfl rfl (by decide +kernel) (fun v w h => h) ?_) ?_
      · intro ρ W hC hc hf hL
        have e43 : ρ (.tmp 43) = .int .i64 (k : Nat) := hL 43 (by decide +kernel)
        have e44 : ρ (.tmp 44) = .int .i64 (k : Nat) := hL 44 (by decide +kernel)
        simp [go_sem, hc, hf, e43, e44]
        exact ⟨Below.refl _ _, rfl⟩
      refine gSt (gStep_run rfl (gRun_pickT 40 45 46 _ rfl rfl (by decide +kernel) (by decide +kernel) (fun v w h => h) (fun v w h => h))) ?_
      refine gSt (gStep_run rfl (gRun_move 46 47 (.inl rfl) rfl (by decide +kernel) (fun v w h => h))) ?_
      refine gSt (gStep_on 27 47 true rfl rfl (by decide +kernel) (fun v w h => h) (gRun_move 0 48 (.inl rfl) rfl (by decide +kernel) (fun v w h => h))) ?_
      refine gSt (gStep_on 27 47 true rfl rfl (by decide +kernel) (fun v w h => h) ?_) ?_
      · intro ρ W hC hc hf hL
        have e7 : ρ (.tmp 7) = .pointer (some ⟨p7, 0, none⟩) := hL 7 (by decide +kernel)
        have l0 := hC.2.2.h
        have l1 := hC.2.2.l
        simp [go_sem, hc, hf, e7, l0, l1]
        exact ⟨Below.refl _ _, rfl⟩
      refine gSt (gStep_on 27 47 true rfl rfl (by decide +kernel) (fun v w h => h) ?_) ?_
      · intro ρ W hC hc hf hL
        have e48 : ρ (.tmp 48) = .int .i64 f := hL 48 (by decide +kernel)
        have e49 : ρ (.tmp 49) = .agg #[.int .u64 (dgl (c) 1 : Nat), .int .u64 (dgl (c) 0 : Nat)] := hL 49 (by decide +kernel)
        simp [go_sem, hc, hf, e48, e49]
        refine (HO2.out W hC.1.g).mono ?_
        rintro e w' ⟨rfl, hb⟩
        exact ⟨_, rfl, by first | exact hb | (subst hb; exact Below.refl _ _), rfl⟩
      refine gSt (gStep_on 27 47 true rfl rfl (by decide +kernel) (fun v w h => h) (gRun_move 5 51 (.inl rfl) rfl (by decide +kernel) (fun v w h => h))) ?_
      refine gSt (gStep_on 27 47 true rfl rfl (by decide +kernel) (fun v w h => h) ?_) ?_
      · intro ρ W hC hc hf hL
        have e50 : ρ (.tmp 50) = .int .i64 (k : Nat) := hL 50 (by decide +kernel)
        have e51 : ρ (.tmp 51) = .int .i64 (k : Nat) := hL 51 (by decide +kernel)
        simp [go_sem, hc, hf, e50, e51]
        exact ⟨Below.refl _ _, rfl⟩
      refine gSt (gStep_run rfl (gRun_pickT 47 52 53 _ rfl rfl (by decide +kernel) (by decide +kernel) (fun v w h => h) (fun v w h => h))) ?_
      refine gSt (gStep_run rfl (gRun_move 53 54 (.inl rfl) rfl (by decide +kernel) (fun v w h => h))) ?_
      refine gSt (gStep_on 34 54 true rfl rfl (by decide +kernel) (fun v w h => h) (gRun_move 0 55 (.inl rfl) rfl (by decide +kernel) (fun v w h => h))) ?_
      refine gSt (gStep_on 34 54 true rfl rfl (by decide +kernel) (fun v w h => h) ?_) ?_
      · intro ρ W hC hc hf hL
        have e7 : ρ (.tmp 7) = .pointer (some ⟨p7, 0, none⟩) := hL 7 (by decide +kernel)
        have l0 := hC.2.2.h
        have l1 := hC.2.2.l
        simp [go_sem, hc, hf, e7, l0, l1]
        exact ⟨Below.refl _ _, rfl⟩
      refine gSt (gStep_on 34 54 true rfl rfl (by decide +kernel) (fun v w h => h) ?_) ?_
      · intro ρ W hC hc hf hL
        have e55 : ρ (.tmp 55) = .int .i64 f := hL 55 (by decide +kernel)
        have e56 : ρ (.tmp 56) = .agg #[.int .u64 (dgl (c) 1 : Nat), .int .u64 (dgl (c) 0 : Nat)] := hL 56 (by decide +kernel)
        simp [go_sem, hc, hf, e55, e56]
        refine (HA2.out W hC.1.g).mono ?_
        rintro e w' ⟨rfl, hb⟩
        exact ⟨_, rfl, by first | exact hb | (subst hb; exact Below.refl _ _), rfl⟩
      refine gSt (gStep_on 34 54 true rfl rfl (by decide +kernel) (fun v w h => h) ?_) ?_
      · intro ρ W hC hc hf hL
        have e6 : ρ (.tmp 6) = .pointer (some ⟨p6, 0, none⟩) := hL 6 (by decide +kernel)
        have l0 := hC.2.1.h
        have l1 := hC.2.1.l
        simp [go_sem, hc, hf, e6, l0, l1]
        exact ⟨Below.refl _ _, rfl⟩
      refine gSt (gStep_on 34 54 true rfl rfl (by decide +kernel) (fun v w h => h) ?_) ?_
      · intro ρ W hC hc hf hL
        have e57 : ρ (.tmp 57) = .agg #[.int .u64 (dgl (b) 1 : Nat), .int .u64 (dgl (b) 0 : Nat)] := hL 57 (by decide +kernel)
        have e58 : ρ (.tmp 58) = .agg #[.int .u64 (dgl (b) 1 : Nat), .int .u64 (dgl (b) 0 : Nat)] := hL 58 (by decide +kernel)
        have l0 := word_same (dgl b 1) (dgl b 0)
        simp [go_sem, hc, hf, e57, e58, l0]
        exact ⟨Below.refl _ _, rfl⟩
      refine gSt (gStep_run rfl (gRun_pickT 54 59 60 _ rfl rfl (by decide +kernel) (by decide +kernel) (fun v w h => h) (fun v w h => h))) ?_
      refine gSt (gStep_run rfl (gRun_move 60 61 (.inl rfl) rfl (by decide +kernel) (fun v w h => h))) ?_
      refine gSt (gStep_on 41 61 true rfl rfl (by decide +kernel) (fun v w h => h) ?_) ?_
      · intro ρ W hC hc hf hL
        simp [go_sem, hc, hf]
        refine (awake6_any W hC.1.g).mono ?_
        rintro e w' ⟨rfl, hb⟩
        exact ⟨_, rfl, by first | exact hb | (subst hb; exact Below.refl _ _), rfl⟩
      refine gSt (gStep_run rfl (gRun_pickT 61 62 63 _ rfl rfl (by decide +kernel) (by decide +kernel) (fun v w h => h) (fun v w h => h))) ?_
      exact gSt0
    · intro W hC
      refine gFi 20 rfl ?_
      rintro _ rfl
      refine gFi 21 rfl ?_
      rintro _ rfl
      refine gFi 22 rfl ?_
      rintro _ rfl
      refine gFi 23 rfl ?_
      rintro _ rfl
      refine gFi 24 rfl ?_
      rintro _ rfl
      refine gFi 25 rfl ?_
      rintro _ rfl
      refine gFi 26 rfl ?_
      rintro _ rfl
      refine gFi 27 rfl ?_
      rintro _ rfl
      refine gFi 28 rfl ?_
      rintro _ rfl
      refine gFi 29 rfl ?_
      rintro _ rfl
      refine gFi 30 rfl ?_
      rintro _ rfl
      refine gFi 31 rfl ?_
      rintro _ rfl
      refine gFi 32 rfl ?_
      rintro _ rfl
      refine gFi 33 rfl ?_
      rintro _ rfl
      refine gFi 34 rfl ?_
      rintro _ rfl
      refine gFi 35 rfl ?_
      rintro _ rfl
      refine gFi 36 rfl ?_
      rintro _ rfl
      refine gFi 37 rfl ?_
      rintro _ rfl
      refine gFi 38 rfl ?_
      rintro _ rfl
      refine gFi 39 rfl ?_
      rintro _ rfl
      refine gFi 40 rfl ?_
      rintro _ rfl
      refine gFi 41 rfl ?_
      rintro _ rfl
      refine gFi 42 rfl ?_
      rintro _ rfl
      refine gFi 43 rfl ?_
      rintro _ rfl
      refine gFi 44 rfl ?_
      rintro _ rfl
      refine gFi 45 rfl ?_
      rintro _ rfl
      refine gFi 46 rfl ?_
      rintro _ rfl
      refine gFi 47 rfl ?_
      rintro _ rfl
      refine gFi 48 rfl ?_
      rintro _ rfl
      refine gFi 49 rfl ?_
      rintro _ rfl
      refine gFi 50 rfl ?_
      rintro _ rfl
      refine gFi 51 rfl ?_
      rintro _ rfl
      refine gFi 52 rfl ?_
      rintro _ rfl
      refine gFi 53 rfl ?_
      rintro _ rfl
      refine gFi 54 rfl ?_
      rintro _ rfl
      refine gFi 55 rfl ?_
      rintro _ rfl
      refine gFi 56 rfl ?_
      rintro _ rfl
      refine gFi 57 rfl ?_
      rintro _ rfl
      refine gFi 58 rfl ?_
      rintro _ rfl
      refine gFi 59 rfl ?_
      rintro _ rfl
      refine gFi 60 rfl ?_
      rintro _ rfl
      refine gFi 61 rfl ?_
      rintro _ rfl
      refine gFi 62 rfl ?_
      rintro _ rfl
      refine gFi 63 rfl ?_
      rintro _ rfl
      refine gFi0 ?_
      simp only [List.drop_succ_cons, List.drop_zero, Act.put, List.setIfInBounds_toArray, List.set_cons_succ, List.set_cons_zero]
      have HB := hide hC.1.bel
      clear hC g1 g2 g3
      go_wp2
      go_ret
      exact ⟨rfl, HB.out⟩

theorem classSigns_num (f : Int) (a : Nat) (ha : a < 2 ^ 128) (w : World) (hg : FmtG w) :
    Calls Tryd.prog 6 #[.int .i64 f, .agg #[.int .u64 (dgl (a) 1 : Nat), .int .u64 (dgl (a) 0 : Nat)]] w fun e w' => e = .returned (.bool true) ∧ Below w.heap.size w w' := by
  have HO := fun w hg => cof_u f a ha w hg
  by_cases h0 : clsU f a = 0
  · rw [h0] at HO
    exact classSigns_zero f a HO w hg
  · obtain ⟨h1, h2, h3, h4, h5, h6, h7, h8⟩ := signsU f a h0
    have HF2 := fun w hg => cflip_u f (flipU f a) h8 w hg
    have HN2 := fun w hg => cneg_u f (flipU f a) h8 w hg
    have HN1 := fun w hg => cneg_u f (absU f a) h7 w hg
    have HO1 := fun w hg => cof_u f (absU f a) h7 w hg
    have HO2 := fun w hg => cof_u f (flipU f a) h8 w hg
    have HA2 := fun w hg => cabs_u f (flipU f a) h8 w hg
    rw [h1] at HF2
    rw [h2] at HN2
    rw [h3] at HN1
    rw [h4] at HO1
    rw [h5] at HO2
    rw [h6] at HA2
    exact classSigns_more f a (absU f a) (flipU f a) (clsU f a) (negU f a) (by unfold Hid; omega) HO (fun w hg => cabs_u f a ha w hg) (fun w hg => cflip_u f a ha w hg) HF2 HN2 (fun w hg => cneg_u f a ha w hg) HN1 HO1 HO2 HA2 w hg
theorem classSigns_all (f : Int) (hi lo : Nat) (hh : hi < 18446744073709551616) (hl : lo < 18446744073709551616) (w : World) (hg : FmtG w) :
    Calls Tryd.prog 6 #[.int .i64 f, .agg #[.int .u64 (hi : Nat), .int .u64 (lo : Nat)]] w fun e w' => e = .returned (.bool true) ∧ Below w.heap.size w w' := by
  have h := classSigns_num f (lo + 18446744073709551616 * hi) (by omega) w hg
  rw [(word_num hi lo hh hl).1, (word_num hi lo hh hl).2] at h
  exact h

end Go.Proofs.YtidfegilddlglaaDoor

