/- Contracts and laws: ClassMakesWalk. -/
import Derived.Test.YtidfegilddlglaaDoorXClsV
import Derived.Test.YtidfegilddlglaaDoorXClsS
/- The walk of ClassMakes. -/
set_option linter.unusedVariables false
set_option linter.unusedSimpArgs false
set_option maxRecDepth 8000
namespace Go.Proofs.YtidfegilddlglaaDoor
open Go.RowKit Plain

structure PrSt (f z : Int) (neg : Bool) (b a : Nat) (w W : World) : Prop where
  g : FmtG W
  cf : W.cell? ⟨w.heap.size, 0, none⟩ = some (.int .i64 f)
  cn : W.cell? ⟨w.heap.size, 1, none⟩ = some (.bool neg)
  cz : W.cell? ⟨w.heap.size, 2, none⟩ = some (.int .i64 z)
  x0 : W.cell? ⟨w.heap.size, 3, none⟩ = some (.int .u64 (dgl b 0 : Nat))
  x1 : W.cell? ⟨w.heap.size, 4, none⟩ = some (.int .u64 (dgl b 1 : Nat))
  x2 : W.cell? ⟨w.heap.size, 5, none⟩ = some (.int .u64 (dgl b 2 : Nat))
  x3 : W.cell? ⟨w.heap.size, 6, none⟩ = some (.int .u64 (dgl b 3 : Nat))
  x4 : W.cell? ⟨w.heap.size, 7, none⟩ = some (.int .u64 (dgl b 4 : Nat))
  x5 : W.cell? ⟨w.heap.size, 8, none⟩ = some (.int .u64 (dgl b 5 : Nat))
  x6 : W.cell? ⟨w.heap.size, 9, none⟩ = some (.int .u64 (dgl b 6 : Nat))
  x7 : W.cell? ⟨w.heap.size, 10, none⟩ = some (.int .u64 (dgl b 7 : Nat))
  wa : WB W (w.heap.size + 1) (dgl a 1) (dgl a 0)
  bel : Below w.heap.size w W
theorem PrSt.under {f z : Int} {neg : Bool} {b a : Nat} {w W W' : World} (h : PrSt f z neg b a w W) {C : Nat} (hb : Below C W W') (hc : w.heap.size + 1 < C) : PrSt f z neg b a w W' := by
  have hc0 : w.heap.size < C := by omega
  exact ⟨⟨fun i hi => (hb.cell (p := ⟨0, i, none⟩) (show 0 < C by omega)).trans (h.g.c i hi), Nat.lt_of_lt_of_le h.g.lt hb.size⟩, (hb.cell (p := ⟨w.heap.size, 0, none⟩) hc0).trans h.cf, (hb.cell (p := ⟨w.heap.size, 1, none⟩) hc0).trans h.cn, (hb.cell (p := ⟨w.heap.size, 2, none⟩) hc0).trans h.cz, (hb.cell (p := ⟨w.heap.size, 3, none⟩) hc0).trans h.x0, (hb.cell (p := ⟨w.heap.size, 4, none⟩) hc0).trans h.x1, (hb.cell (p := ⟨w.heap.size, 5, none⟩) hc0).trans h.x2, (hb.cell (p := ⟨w.heap.size, 6, none⟩) hc0).trans h.x3, (hb.cell (p := ⟨w.heap.size, 7, none⟩) hc0).trans h.x4, (hb.cell (p := ⟨w.heap.size, 8, none⟩) hc0).trans h.x5, (hb.cell (p := ⟨w.heap.size, 9, none⟩) hc0).trans h.x6, (hb.cell (p := ⟨w.heap.size, 10, none⟩) hc0).trans h.x7,
    ⟨(hb.cell (p := ⟨w.heap.size + 1, 0, none⟩) hc).trans h.wa.h, (hb.cell (p := ⟨w.heap.size + 1, 1, none⟩) hc).trans h.wa.l, Nat.lt_of_lt_of_le h.wa.lt hb.size⟩, h.bel.trans (hb.mono (by omega))⟩
theorem PrSt.below {f z : Int} {neg : Bool} {b a : Nat} {w W W' : World} (h : PrSt f z neg b a w W) (hb : Below W.heap.size W W') : PrSt f z neg b a w W' := h.under hb h.wa.lt
theorem prSt_start (f z : Int) (neg : Bool) (b a : Nat) (w : World) (hg : FmtG w) : PrSt f z neg b a w ((w.alloc (.cells #[.int .i64 f, .bool neg, .int .i64 z, .int .u64 (dgl b 0 : Nat), .int .u64 (dgl b 1 : Nat), .int .u64 (dgl b 2 : Nat), .int .u64 (dgl b 3 : Nat), .int .u64 (dgl b 4 : Nat), .int .u64 (dgl b 5 : Nat), .int .u64 (dgl b 6 : Nat), .int .u64 (dgl b 7 : Nat)] 34)).alloc (.cells #[.int .u64 (dgl (a) 1 : Nat), .int .u64 (dgl (a) 0 : Nat)] 24)) :=
  ⟨(hg.below (below_allocs _ _)).below (below_allocs _ _), by simp [go_sem], by simp [go_sem], by simp [go_sem], by simp [go_sem], by simp [go_sem], by simp [go_sem], by simp [go_sem], by simp [go_sem], by simp [go_sem], by simp [go_sem], by simp [go_sem], ⟨by simp [go_sem], by simp [go_sem], by simp⟩, below_trans (below_allocs _ _) (below_allocs _ _)⟩
theorem wb_newN (w : World) (x y : Nat) (e : TypeId) : WB (w.alloc (.cells #[.int .u64 (x : Nat), .int .u64 (y : Nat)] e)) w.heap.size x y :=
  ⟨by simp [go_sem], by simp [go_sem], by simp⟩
/-- What the law's second half needs. -/
structure Mk3 (a : Nat) (w W : World) : Prop where
  g : FmtG W
  wa : WB W (w.heap.size + 1) (dgl a 1) (dgl a 0)
  bel : Below w.heap.size w W
theorem Mk3.below {a : Nat} {w W W' : World} (h : Mk3 a w W) (hb : Below W.heap.size W W') : Mk3 a w W' :=
  ⟨h.g.below hb, h.wa.below hb, below_trans h.bel hb⟩
theorem Mk3.under {a : Nat} {w W W' : World} (h : Mk3 a w W) (hb : Below (w.heap.size + 2) W W') : Mk3 a w W' :=
  ⟨⟨fun i hi => (hb.cell (p := ⟨0, i, none⟩) (Nat.zero_lt_succ _)).trans (h.g.c i hi), Nat.lt_of_lt_of_le h.g.lt hb.size⟩, ⟨(hb.cell (p := ⟨w.heap.size + 1, 0, none⟩) (Nat.lt_succ_self _)).trans h.wa.h, (hb.cell (p := ⟨w.heap.size + 1, 1, none⟩) (Nat.lt_succ_self _)).trans h.wa.l, Nat.lt_of_lt_of_le h.wa.lt hb.size⟩, h.bel.trans (hb.mono (by omega))⟩

set_option maxHeartbeats 4000000 in
theorem classMakes_A0 (f z em e1 e2 ln pr p1 : Int) (neg na : Bool) (a b c k fa ra : Nat)
    (HM : Hid (∀ w, FmtG w → Calls Tryd.prog 26 #[.int .i64 f, .bool neg, .int .i64 z, .agg #[.int .u64 (dgl (b) 0 : Nat), .int .u64 (dgl (b) 1 : Nat), .int .u64 (dgl (b) 2 : Nat), .int .u64 (dgl (b) 3 : Nat), .int .u64 (dgl (b) 4 : Nat), .int .u64 (dgl (b) 5 : Nat), .int .u64 (dgl (b) 6 : Nat), .int .u64 (dgl (b) 7 : Nat)]] w fun e w' => e = .returned (.tuple #[.agg #[.int .u64 0, .int .u64 0], .bool false]) ∧ Below w.heap.size w w'))
    (HIS : Hid (∀ w, Calls Tryd.prog 27 #[.int .i64 f] w fun e w' => e = .returned (.bool false) ∧ w' = w))
    (HCL : Hid (∀ w, Calls Tryd.prog 12 #[.int .i64 f, .agg #[.int .u64 (dgl (a) 1 : Nat), .int .u64 (dgl (a) 0 : Nat)]] w fun e w' => e = .returned (.int .i64 0) ∧ Below w.heap.size w w')) (w : World) (hg : FmtG w) :
    Calls Tryd.prog 4 #[.agg #[.int .i64 f, .bool neg, .int .i64 z, .int .u64 (dgl b 0 : Nat), .int .u64 (dgl b 1 : Nat), .int .u64 (dgl b 2 : Nat), .int .u64 (dgl b 3 : Nat), .int .u64 (dgl b 4 : Nat), .int .u64 (dgl b 5 : Nat), .int .u64 (dgl b 6 : Nat), .int .u64 (dgl b 7 : Nat)], .agg #[.int .u64 (dgl (a) 1 : Nat), .int .u64 (dgl (a) 0 : Nat)]] w fun e w' => e = .returned (.bool true) ∧ Below w.heap.size w w' := by
  have HST := hide (prSt_start f z neg b a w hg)
  clear hg
  go_enter Tryd.func4, Tryd.ntmps4
  go_upto_region 1 with fail
  refine wp_gen (fun W => PrSt f z neg b a w W) HST.out ?_
  clear HST
  rintro W1 h1
  refine wp_region_storeK 13 [12] [13, 14, 15, 16, 17, 18, 19, 20, 8, 5, 6, 7] (fun bs => [(13, .val (.pointer (some ⟨w.heap.size, 0, none⟩))), (14, .val (.int .i64 f)), (15, .val (.pointer (some ⟨w.heap.size, 1, none⟩))), (16, .val (.bool neg)), (17, .val (.pointer (some ⟨w.heap.size, 2, none⟩))), (18, .val (.int .i64 z)), (19, .val (.pointer (some ⟨w.heap.size, 3, none⟩))), (20, .val (.agg #[.int .u64 (dgl (b) 0 : Nat), .int .u64 (dgl (b) 1 : Nat), .int .u64 (dgl (b) 2 : Nat), .int .u64 (dgl (b) 3 : Nat), .int .u64 (dgl (b) 4 : Nat), .int .u64 (dgl (b) 5 : Nat), .int .u64 (dgl (b) 6 : Nat), .int .u64 (dgl (b) 7 : Nat)])), (8, bif bs.headD false then SlotIs.box (w.heap.size + 2) (dgl b) else SlotIs.box (w.heap.size + 2) (fun _ => 0)), (5, .val (.int .i64 f)), (6, .val (.bool neg)), (7, .val (.int .i64 z))])
    (fun _ W => PrSt f z neg b a w W) (fun bs => rfl) mixedOk (by kernel_rfl) (by kernel_rfl) (by kernel_rfl) (h1.below (Below.refl _ _).drew) (fun bs W W' h hb => h.below hb) ?_ ?_
  · refine kSt rfl (fun φ hφ => gStep_run rfl ?_) ?_
    · intro ρ W hC hc hf hL
      have e2 : ρ (.tmp 2) = .pointer (some ⟨w.heap.size, 0, none⟩) := hL 2 (by decide +kernel)
      simp [go_sem, hc, hf, e2]
      exact ⟨Below.refl _ _, rfl⟩
    refine kSt rfl (fun φ hφ => gStep_run rfl ?_) ?_
    · intro ρ W hC hc hf hL
      have e13 : ρ (.tmp 13) = .pointer (some ⟨w.heap.size, 0, none⟩) := hL 13 (by decide +kernel)
      have l0 := hC.cf
      simp [go_sem, hc, hf, e13, l0]
      exact ⟨Below.refl _ _, rfl⟩
    refine kSt rfl (fun φ hφ => gStep_run rfl ?_) ?_
    · intro ρ W hC hc hf hL
      have e2 : ρ (.tmp 2) = .pointer (some ⟨w.heap.size, 0, none⟩) := hL 2 (by decide +kernel)
      simp [go_sem, hc, hf, e2]
      exact ⟨Below.refl _ _, rfl⟩
    refine kSt rfl (fun φ hφ => gStep_run rfl ?_) ?_
    · intro ρ W hC hc hf hL
      have e15 : ρ (.tmp 15) = .pointer (some ⟨w.heap.size, 1, none⟩) := hL 15 (by decide +kernel)
      have l0 := hC.cn
      simp [go_sem, hc, hf, e15, l0]
      exact ⟨Below.refl _ _, rfl⟩
    refine kSt rfl (fun φ hφ => gStep_run rfl ?_) ?_
    · intro ρ W hC hc hf hL
      have e2 : ρ (.tmp 2) = .pointer (some ⟨w.heap.size, 0, none⟩) := hL 2 (by decide +kernel)
      simp [go_sem, hc, hf, e2]
      exact ⟨Below.refl _ _, rfl⟩
    refine kSt rfl (fun φ hφ => gStep_run rfl ?_) ?_
    · intro ρ W hC hc hf hL
      have e17 : ρ (.tmp 17) = .pointer (some ⟨w.heap.size, 2, none⟩) := hL 17 (by decide +kernel)
      have l0 := hC.cz
      simp [go_sem, hc, hf, e17, l0]
      exact ⟨Below.refl _ _, rfl⟩
    refine kSt rfl (fun φ hφ => gStep_run rfl ?_) ?_
    · intro ρ W hC hc hf hL
      have e2 : ρ (.tmp 2) = .pointer (some ⟨w.heap.size, 0, none⟩) := hL 2 (by decide +kernel)
      simp [go_sem, hc, hf, e2]
      exact ⟨Below.refl _ _, rfl⟩
    refine kSt rfl (fun φ hφ => gStep_run rfl ?_) ?_
    · intro ρ W hC hc hf hL
      have e19 : ρ (.tmp 19) = .pointer (some ⟨w.heap.size, 3, none⟩) := hL 19 (by decide +kernel)
      have l0 := hC.x0
      have l1 := hC.x1
      have l2 := hC.x2
      have l3 := hC.x3
      have l4 := hC.x4
      have l5 := hC.x5
      have l6 := hC.x6
      have l7 := hC.x7
      simp [go_sem, hc, hf, e19, l0, l1, l2, l3, l4, l5, l6, l7]
      exact ⟨Below.refl _ _, rfl⟩
    refine kSt rfl (fun φ hφ => gStep_run rfl ?_) ?_
    · intro ρ W hC hc hf hL
      have hφ0 : φ 12 = false := hφ 12 (by simp) (by kernel_rfl)
      simp [go_sem, hc, hf]
      refine ⟨below_allocs _ _, ?_⟩
      show (bif φ 12 then SlotIs.box (w.heap.size + 2) (dgl b) else SlotIs.box (w.heap.size + 2) (fun _ => 0)).R _ _
      rw [hφ0]
      exact ⟨_, rfl, hC.wa.lt, liesF_new _ (fun _ => 0) _, fun i => by simp [go_sem]⟩
    refine kSt rfl (fun φ hφ => gStep_run rfl (gRun_move 14 5 (.inr rfl) rfl (by decide +kernel) (fun v w h => h))) ?_
    refine kSt rfl (fun φ hφ => gStep_run rfl (gRun_move 16 6 (.inr rfl) rfl (by decide +kernel) (fun v w h => h))) ?_
    refine kSt rfl (fun φ hφ => gStep_run rfl (gRun_move 18 7 (.inr rfl) rfl (by decide +kernel) (fun v w h => h))) ?_
    refine kStS rfl ⟨rfl, rfl, ?_⟩ ?_
    · intro φ ρ W hφ hC hc hL
      have b8 := hL 8 (by decide +kernel)
      have e20 : ρ (.tmp 20) = .agg #[.int .u64 (dgl (b) 0 : Nat), .int .u64 (dgl (b) 1 : Nat), .int .u64 (dgl (b) 2 : Nat), .int .u64 (dgl (b) 3 : Nat), .int .u64 (dgl (b) 4 : Nat), .int .u64 (dgl (b) 5 : Nat), .int .u64 (dgl (b) 6 : Nat), .int .u64 (dgl (b) 7 : Nat)] := hL 20 (by decide +kernel)
      have b8 : (bif φ 12 then SlotIs.box (w.heap.size + 2) (dgl b) else SlotIs.box (w.heap.size + 2) (fun _ => 0)).R (ρ (.tmp 8)) W := hL 8 (by decide +kernel)
      rw [hφ] at b8
      obtain ⟨p8, e8, q8, l8, z8⟩ := b8
      have hz := l8.1
      have hzl := l8.2
      refine gUpon_of ((((((((W.setCell ⟨p8, 0, none⟩ (.int .u64 (dgl b 0 : Nat))).setCell ⟨p8, 1, none⟩ (.int .u64 (dgl b 1 : Nat))).setCell ⟨p8, 2, none⟩ (.int .u64 (dgl b 2 : Nat))).setCell ⟨p8, 3, none⟩ (.int .u64 (dgl b 3 : Nat))).setCell ⟨p8, 4, none⟩ (.int .u64 (dgl b 4 : Nat))).setCell ⟨p8, 5, none⟩ (.int .u64 (dgl b 5 : Nat))).setCell ⟨p8, 6, none⟩ (.int .u64 (dgl b 6 : Nat))).setCell ⟨p8, 7, none⟩ (.int .u64 (dgl b 7 : Nat))) ?_ (fun _ => ?_)
      · simp [go_sem, hc, e20, e8, hz, hzl, z8, gUpon]
      have hs8 := below_set8 (Below.refl (w.heap.size + 2) W) p8 q8 (.int .u64 (dgl b 0 : Nat)) (.int .u64 (dgl b 1 : Nat)) (.int .u64 (dgl b 2 : Nat)) (.int .u64 (dgl b 3 : Nat)) (.int .u64 (dgl b 4 : Nat)) (.int .u64 (dgl b 5 : Nat)) (.int .u64 (dgl b 6 : Nat)) (.int .u64 (dgl b 7 : Nat))
      refine ⟨hC.under hs8 (by omega), fun t => ?_⟩
      refine (tbl_imp rfl (fun _ => val_imp) (tbl_imp rfl (fun _ => val_imp) (tbl_imp rfl (fun _ => val_imp) (tbl_imp rfl (fun _ => val_imp) (tbl_imp rfl (fun _ => val_imp) (tbl_imp rfl (fun _ => val_imp) (tbl_imp rfl (fun _ => val_imp) (tbl_imp rfl (fun _ => val_imp) (tbl_imp rfl (fun ht h => ?_) (tbl_imp rfl (fun _ => val_imp) (tbl_imp rfl (fun _ => val_imp) (tbl_imp rfl (fun _ => val_imp) tbl_nil_imp))))))))))))
      subst ht
      show (bif (φ 12 || true) then SlotIs.box (w.heap.size + 2) (dgl b) else SlotIs.box (w.heap.size + 2) (fun _ => 0)).R _ _
      rw [Bool.or_true]
      exact ⟨p8, e8, q8, set8_same W p8 (dgl b) (fun _ => 0) l8, fun i => by simpa [go_sem] using z8 i⟩
    exact kSt0
  · intro W hC
    refine gFi 13 rfl ?_
    rintro _ rfl
    refine gFi 14 rfl ?_
    rintro _ rfl
    refine gFi 15 rfl ?_
    rintro _ rfl
    refine gFi 16 rfl ?_
    rintro _ rfl
    refine gFi 17 rfl ?_
    rintro _ rfl
    refine gFi 18 rfl ?_
    rintro _ rfl
    refine gFi 19 rfl ?_
    rintro _ rfl
    refine gFi 20 rfl ?_
    rintro _ rfl
    refine gFi 8 rfl ?_
    rintro u8 b8
    refine gFi 5 rfl ?_
    rintro _ rfl
    refine gFi 6 rfl ?_
    rintro _ rfl
    refine gFi 7 rfl ?_
    rintro _ rfl
    refine gFiN rfl ?_
    refine gFi0 ?_
    simp only [List.drop_succ_cons, List.drop_zero, Act.put, List.setIfInBounds_toArray, List.set_cons_succ, List.set_cons_zero]
    obtain ⟨p8, rfl, _, l8, _⟩ := b8
    have HS : Hid (Mk3 a w W) := hide ⟨hC.g, hC.wa, hC.bel⟩
    have HL := hide l8
    clear hC l8 h1
    have hl := HL.out.1
    go_wp2_with fail
    refine (HM.out _ HS.out.g).mono ?_
    rintro e w2 ⟨rfl, hb2⟩
    replace HS := hide (HS.out.below hb2)
    replace HL := hide (HL.out.below hb2)
    clear hb2 hl
    go_upto_region 3 with fail
    refine wp_gen (fun W => Mk3 a w W ∧ LiesF W p8 (dgl b) ∧ WB W w2.heap.size (0) (0)) ⟨HS.out.below (below_allocs _ _), HL.out.below (below_allocs _ _), wb_new _ _⟩ ?_
    clear HS HL
    generalize w2.heap.size = p9
    rintro W3 ⟨g1, g2, g3⟩
    have HS := hide g1
    have HL := hide g2
    have HQ := hide g3
    clear g1 g2 g3
    go_wp2_with fail
    refine (HIS.out _).mono ?_
    rintro e wl ⟨rfl, hw⟩
    subst wl
    have q0 := HQ.out.h
    have q1 := HQ.out.l
    have hs : ∀ w, (Op.equalIn 10000 24 (.agg #[.int .u64 0, .int .u64 0]) (.agg #[.int .u64 0, .int .u64 0])).run Tryd.prog w = .ok true w := fun w => by simpa using word_same 0 0 w
    go_upto_region 8 with fail
    clear q0 q1 hs HQ HL
    have l0 := HS.out.wa.h
    have l1 := HS.out.wa.l
    go_wp2_with fail
    refine (HCL.out _).mono ?_
    rintro e w7 ⟨rfl, hb7⟩
    replace HS := hide (HS.out.below hb7)
    clear hb7 l0 l1
    go_wp2_with fail
    refine (awake6_any _ HS.out.g).mono ?_
    rintro e w8 ⟨rfl, hb8⟩
    have HB := hide (below_trans HS.out.bel hb8)
    clear hb8 HS
    go_wp2
    go_ret
    exact ⟨rfl, HB.out⟩

set_option maxHeartbeats 4000000 in
theorem classMakes_B0 (f z em e1 e2 ln pr p1 : Int) (neg na : Bool) (a b c k fa ra : Nat)
    (HM : Hid (∀ w, FmtG w → Calls Tryd.prog 26 #[.int .i64 f, .bool neg, .int .i64 z, .agg #[.int .u64 (dgl (b) 0 : Nat), .int .u64 (dgl (b) 1 : Nat), .int .u64 (dgl (b) 2 : Nat), .int .u64 (dgl (b) 3 : Nat), .int .u64 (dgl (b) 4 : Nat), .int .u64 (dgl (b) 5 : Nat), .int .u64 (dgl (b) 6 : Nat), .int .u64 (dgl (b) 7 : Nat)]] w fun e w' => e = .returned (.tuple #[.agg #[.int .u64 0, .int .u64 0], .bool false]) ∧ Below w.heap.size w w'))
    (HIS : Hid (∀ w, Calls Tryd.prog 27 #[.int .i64 f] w fun e w' => e = .returned (.bool true) ∧ w' = w))
    (HZ : Hid (z < 0))
    (HCL : Hid (∀ w, Calls Tryd.prog 12 #[.int .i64 f, .agg #[.int .u64 (dgl (a) 1 : Nat), .int .u64 (dgl (a) 0 : Nat)]] w fun e w' => e = .returned (.int .i64 0) ∧ Below w.heap.size w w')) (w : World) (hg : FmtG w) :
    Calls Tryd.prog 4 #[.agg #[.int .i64 f, .bool neg, .int .i64 z, .int .u64 (dgl b 0 : Nat), .int .u64 (dgl b 1 : Nat), .int .u64 (dgl b 2 : Nat), .int .u64 (dgl b 3 : Nat), .int .u64 (dgl b 4 : Nat), .int .u64 (dgl b 5 : Nat), .int .u64 (dgl b 6 : Nat), .int .u64 (dgl b 7 : Nat)], .agg #[.int .u64 (dgl (a) 1 : Nat), .int .u64 (dgl (a) 0 : Nat)]] w fun e w' => e = .returned (.bool true) ∧ Below w.heap.size w w' := by
  have HST := hide (prSt_start f z neg b a w hg)
  clear hg
  go_enter Tryd.func4, Tryd.ntmps4
  go_upto_region 1 with fail
  refine wp_gen (fun W => PrSt f z neg b a w W) HST.out ?_
  clear HST
  rintro W1 h1
  refine wp_region_storeK 13 [12] [13, 14, 15, 16, 17, 18, 19, 20, 8, 5, 6, 7] (fun bs => [(13, .val (.pointer (some ⟨w.heap.size, 0, none⟩))), (14, .val (.int .i64 f)), (15, .val (.pointer (some ⟨w.heap.size, 1, none⟩))), (16, .val (.bool neg)), (17, .val (.pointer (some ⟨w.heap.size, 2, none⟩))), (18, .val (.int .i64 z)), (19, .val (.pointer (some ⟨w.heap.size, 3, none⟩))), (20, .val (.agg #[.int .u64 (dgl (b) 0 : Nat), .int .u64 (dgl (b) 1 : Nat), .int .u64 (dgl (b) 2 : Nat), .int .u64 (dgl (b) 3 : Nat), .int .u64 (dgl (b) 4 : Nat), .int .u64 (dgl (b) 5 : Nat), .int .u64 (dgl (b) 6 : Nat), .int .u64 (dgl (b) 7 : Nat)])), (8, bif bs.headD false then SlotIs.box (w.heap.size + 2) (dgl b) else SlotIs.box (w.heap.size + 2) (fun _ => 0)), (5, .val (.int .i64 f)), (6, .val (.bool neg)), (7, .val (.int .i64 z))])
    (fun _ W => PrSt f z neg b a w W) (fun bs => rfl) mixedOk (by kernel_rfl) (by kernel_rfl) (by kernel_rfl) (h1.below (Below.refl _ _).drew) (fun bs W W' h hb => h.below hb) ?_ ?_
  · refine kSt rfl (fun φ hφ => gStep_run rfl ?_) ?_
    · intro ρ W hC hc hf hL
      have e2 : ρ (.tmp 2) = .pointer (some ⟨w.heap.size, 0, none⟩) := hL 2 (by decide +kernel)
      simp [go_sem, hc, hf, e2]
      exact ⟨Below.refl _ _, rfl⟩
    refine kSt rfl (fun φ hφ => gStep_run rfl ?_) ?_
    · intro ρ W hC hc hf hL
      have e13 : ρ (.tmp 13) = .pointer (some ⟨w.heap.size, 0, none⟩) := hL 13 (by decide +kernel)
      have l0 := hC.cf
      simp [go_sem, hc, hf, e13, l0]
      exact ⟨Below.refl _ _, rfl⟩
    refine kSt rfl (fun φ hφ => gStep_run rfl ?_) ?_
    · intro ρ W hC hc hf hL
      have e2 : ρ (.tmp 2) = .pointer (some ⟨w.heap.size, 0, none⟩) := hL 2 (by decide +kernel)
      simp [go_sem, hc, hf, e2]
      exact ⟨Below.refl _ _, rfl⟩
    refine kSt rfl (fun φ hφ => gStep_run rfl ?_) ?_
    · intro ρ W hC hc hf hL
      have e15 : ρ (.tmp 15) = .pointer (some ⟨w.heap.size, 1, none⟩) := hL 15 (by decide +kernel)
      have l0 := hC.cn
      simp [go_sem, hc, hf, e15, l0]
      exact ⟨Below.refl _ _, rfl⟩
    refine kSt rfl (fun φ hφ => gStep_run rfl ?_) ?_
    · intro ρ W hC hc hf hL
      have e2 : ρ (.tmp 2) = .pointer (some ⟨w.heap.size, 0, none⟩) := hL 2 (by decide +kernel)
      simp [go_sem, hc, hf, e2]
      exact ⟨Below.refl _ _, rfl⟩
    refine kSt rfl (fun φ hφ => gStep_run rfl ?_) ?_
    · intro ρ W hC hc hf hL
      have e17 : ρ (.tmp 17) = .pointer (some ⟨w.heap.size, 2, none⟩) := hL 17 (by decide +kernel)
      have l0 := hC.cz
      simp [go_sem, hc, hf, e17, l0]
      exact ⟨Below.refl _ _, rfl⟩
    refine kSt rfl (fun φ hφ => gStep_run rfl ?_) ?_
    · intro ρ W hC hc hf hL
      have e2 : ρ (.tmp 2) = .pointer (some ⟨w.heap.size, 0, none⟩) := hL 2 (by decide +kernel)
      simp [go_sem, hc, hf, e2]
      exact ⟨Below.refl _ _, rfl⟩
    refine kSt rfl (fun φ hφ => gStep_run rfl ?_) ?_
    · intro ρ W hC hc hf hL
      have e19 : ρ (.tmp 19) = .pointer (some ⟨w.heap.size, 3, none⟩) := hL 19 (by decide +kernel)
      have l0 := hC.x0
      have l1 := hC.x1
      have l2 := hC.x2
      have l3 := hC.x3
      have l4 := hC.x4
      have l5 := hC.x5
      have l6 := hC.x6
      have l7 := hC.x7
      simp [go_sem, hc, hf, e19, l0, l1, l2, l3, l4, l5, l6, l7]
      exact ⟨Below.refl _ _, rfl⟩
    refine kSt rfl (fun φ hφ => gStep_run rfl ?_) ?_
    · intro ρ W hC hc hf hL
      have hφ0 : φ 12 = false := hφ 12 (by simp) (by kernel_rfl)
      simp [go_sem, hc, hf]
      refine ⟨below_allocs _ _, ?_⟩
      show (bif φ 12 then SlotIs.box (w.heap.size + 2) (dgl b) else SlotIs.box (w.heap.size + 2) (fun _ => 0)).R _ _
      rw [hφ0]
      exact ⟨_, rfl, hC.wa.lt, liesF_new _ (fun _ => 0) _, fun i => by simp [go_sem]⟩
    refine kSt rfl (fun φ hφ => gStep_run rfl (gRun_move 14 5 (.inr rfl) rfl (by decide +kernel) (fun v w h => h))) ?_
    refine kSt rfl (fun φ hφ => gStep_run rfl (gRun_move 16 6 (.inr rfl) rfl (by decide +kernel) (fun v w h => h))) ?_
    refine kSt rfl (fun φ hφ => gStep_run rfl (gRun_move 18 7 (.inr rfl) rfl (by decide +kernel) (fun v w h => h))) ?_
    refine kStS rfl ⟨rfl, rfl, ?_⟩ ?_
    · intro φ ρ W hφ hC hc hL
      have b8 := hL 8 (by decide +kernel)
      have e20 : ρ (.tmp 20) = .agg #[.int .u64 (dgl (b) 0 : Nat), .int .u64 (dgl (b) 1 : Nat), .int .u64 (dgl (b) 2 : Nat), .int .u64 (dgl (b) 3 : Nat), .int .u64 (dgl (b) 4 : Nat), .int .u64 (dgl (b) 5 : Nat), .int .u64 (dgl (b) 6 : Nat), .int .u64 (dgl (b) 7 : Nat)] := hL 20 (by decide +kernel)
      have b8 : (bif φ 12 then SlotIs.box (w.heap.size + 2) (dgl b) else SlotIs.box (w.heap.size + 2) (fun _ => 0)).R (ρ (.tmp 8)) W := hL 8 (by decide +kernel)
      rw [hφ] at b8
      obtain ⟨p8, e8, q8, l8, z8⟩ := b8
      have hz := l8.1
      have hzl := l8.2
      refine gUpon_of ((((((((W.setCell ⟨p8, 0, none⟩ (.int .u64 (dgl b 0 : Nat))).setCell ⟨p8, 1, none⟩ (.int .u64 (dgl b 1 : Nat))).setCell ⟨p8, 2, none⟩ (.int .u64 (dgl b 2 : Nat))).setCell ⟨p8, 3, none⟩ (.int .u64 (dgl b 3 : Nat))).setCell ⟨p8, 4, none⟩ (.int .u64 (dgl b 4 : Nat))).setCell ⟨p8, 5, none⟩ (.int .u64 (dgl b 5 : Nat))).setCell ⟨p8, 6, none⟩ (.int .u64 (dgl b 6 : Nat))).setCell ⟨p8, 7, none⟩ (.int .u64 (dgl b 7 : Nat))) ?_ (fun _ => ?_)
      · simp [go_sem, hc, e20, e8, hz, hzl, z8, gUpon]
      have hs8 := below_set8 (Below.refl (w.heap.size + 2) W) p8 q8 (.int .u64 (dgl b 0 : Nat)) (.int .u64 (dgl b 1 : Nat)) (.int .u64 (dgl b 2 : Nat)) (.int .u64 (dgl b 3 : Nat)) (.int .u64 (dgl b 4 : Nat)) (.int .u64 (dgl b 5 : Nat)) (.int .u64 (dgl b 6 : Nat)) (.int .u64 (dgl b 7 : Nat))
      refine ⟨hC.under hs8 (by omega), fun t => ?_⟩
      refine (tbl_imp rfl (fun _ => val_imp) (tbl_imp rfl (fun _ => val_imp) (tbl_imp rfl (fun _ => val_imp) (tbl_imp rfl (fun _ => val_imp) (tbl_imp rfl (fun _ => val_imp) (tbl_imp rfl (fun _ => val_imp) (tbl_imp rfl (fun _ => val_imp) (tbl_imp rfl (fun _ => val_imp) (tbl_imp rfl (fun ht h => ?_) (tbl_imp rfl (fun _ => val_imp) (tbl_imp rfl (fun _ => val_imp) (tbl_imp rfl (fun _ => val_imp) tbl_nil_imp))))))))))))
      subst ht
      show (bif (φ 12 || true) then SlotIs.box (w.heap.size + 2) (dgl b) else SlotIs.box (w.heap.size + 2) (fun _ => 0)).R _ _
      rw [Bool.or_true]
      exact ⟨p8, e8, q8, set8_same W p8 (dgl b) (fun _ => 0) l8, fun i => by simpa [go_sem] using z8 i⟩
    exact kSt0
  · intro W hC
    refine gFi 13 rfl ?_
    rintro _ rfl
    refine gFi 14 rfl ?_
    rintro _ rfl
    refine gFi 15 rfl ?_
    rintro _ rfl
    refine gFi 16 rfl ?_
    rintro _ rfl
    refine gFi 17 rfl ?_
    rintro _ rfl
    refine gFi 18 rfl ?_
    rintro _ rfl
    refine gFi 19 rfl ?_
    rintro _ rfl
    refine gFi 20 rfl ?_
    rintro _ rfl
    refine gFi 8 rfl ?_
    rintro u8 b8
    refine gFi 5 rfl ?_
    rintro _ rfl
    refine gFi 6 rfl ?_
    rintro _ rfl
    refine gFi 7 rfl ?_
    rintro _ rfl
    refine gFiN rfl ?_
    refine gFi0 ?_
    simp only [List.drop_succ_cons, List.drop_zero, Act.put, List.setIfInBounds_toArray, List.set_cons_succ, List.set_cons_zero]
    obtain ⟨p8, rfl, _, l8, _⟩ := b8
    have HS : Hid (Mk3 a w W) := hide ⟨hC.g, hC.wa, hC.bel⟩
    have HL := hide l8
    clear hC l8 h1
    have hl := HL.out.1
    go_wp2_with fail
    refine (HM.out _ HS.out.g).mono ?_
    rintro e w2 ⟨rfl, hb2⟩
    replace HS := hide (HS.out.below hb2)
    replace HL := hide (HL.out.below hb2)
    clear hb2 hl
    go_upto_region 3 with fail
    refine wp_gen (fun W => Mk3 a w W ∧ LiesF W p8 (dgl b) ∧ WB W w2.heap.size (0) (0)) ⟨HS.out.below (below_allocs _ _), HL.out.below (below_allocs _ _), wb_new _ _⟩ ?_
    clear HS HL
    generalize w2.heap.size = p9
    rintro W3 ⟨g1, g2, g3⟩
    have HS := hide g1
    have HL := hide g2
    have HQ := hide g3
    clear g1 g2 g3
    go_wp2_with fail
    refine (HIS.out _).mono ?_
    rintro e wl ⟨rfl, hw⟩
    subst wl
    have hz := HZ.out
    have q0 := HQ.out.h
    have q1 := HQ.out.l
    have hs : ∀ w, (Op.equalIn 10000 24 (.agg #[.int .u64 0, .int .u64 0]) (.agg #[.int .u64 0, .int .u64 0])).run Tryd.prog w = .ok true w := fun w => by simpa using word_same 0 0 w
    go_upto_region 8 with fail
    clear q0 q1 hs HQ HL
    have l0 := HS.out.wa.h
    have l1 := HS.out.wa.l
    go_wp2_with fail
    refine (HCL.out _).mono ?_
    rintro e w7 ⟨rfl, hb7⟩
    replace HS := hide (HS.out.below hb7)
    clear hb7 l0 l1
    go_wp2_with fail
    refine (awake6_any _ HS.out.g).mono ?_
    rintro e w8 ⟨rfl, hb8⟩
    have HB := hide (below_trans HS.out.bel hb8)
    clear hb8 HS
    go_wp2
    go_ret
    exact ⟨rfl, HB.out⟩

set_option maxHeartbeats 4000000 in
theorem classMakes_B1 (f z em e1 e2 ln pr p1 : Int) (neg na : Bool) (a b c k fa ra : Nat)
    (HM : Hid (∀ w, FmtG w → Calls Tryd.prog 26 #[.int .i64 f, .bool neg, .int .i64 z, .agg #[.int .u64 (dgl (b) 0 : Nat), .int .u64 (dgl (b) 1 : Nat), .int .u64 (dgl (b) 2 : Nat), .int .u64 (dgl (b) 3 : Nat), .int .u64 (dgl (b) 4 : Nat), .int .u64 (dgl (b) 5 : Nat), .int .u64 (dgl (b) 6 : Nat), .int .u64 (dgl (b) 7 : Nat)]] w fun e w' => e = .returned (.tuple #[.agg #[.int .u64 0, .int .u64 0], .bool false]) ∧ Below w.heap.size w w'))
    (HIS : Hid (∀ w, Calls Tryd.prog 27 #[.int .i64 f] w fun e w' => e = .returned (.bool true) ∧ w' = w))
    (HZ : Hid (z < 0))
    (HCL : Hid (∀ w, Calls Tryd.prog 12 #[.int .i64 f, .agg #[.int .u64 (dgl (a) 1 : Nat), .int .u64 (dgl (a) 0 : Nat)]] w fun e w' => e = .returned (.int .i64 (k : Nat)) ∧ Below w.heap.size w w'))
    (HK : Hid (((k : Nat) : Int) ≠ 0))
    (HNA : Hid (∀ w, FmtG w → Calls Tryd.prog 16 #[.int .i64 f, .agg #[.int .u64 (dgl (a) 1 : Nat), .int .u64 (dgl (a) 0 : Nat)]] w fun e w' => e = .returned (.bool na) ∧ Below w.heap.size w w'))
    (HFA : Hid (∀ w, FmtG w → Calls Tryd.prog 18 #[.int .i64 f, .agg #[.int .u64 (dgl (a) 1 : Nat), .int .u64 (dgl (a) 0 : Nat)]] w fun e w' => e = .returned (.int .i64 (fa : Nat)) ∧ Below w.heap.size w w'))
    (HRA : Hid (∀ w, FmtG w → Calls Tryd.prog 19 #[.int .i64 f, .agg #[.int .u64 (dgl (a) 1 : Nat), .int .u64 (dgl (a) 0 : Nat)]] w fun e w' => e = .returned (.agg #[.int .u64 (dgl (ra) 0 : Nat), .int .u64 (dgl (ra) 1 : Nat), .int .u64 (dgl (ra) 2 : Nat), .int .u64 (dgl (ra) 3 : Nat), .int .u64 (dgl (ra) 4 : Nat), .int .u64 (dgl (ra) 5 : Nat), .int .u64 (dgl (ra) 6 : Nat), .int .u64 (dgl (ra) 7 : Nat)]) ∧ Below w.heap.size w w'))
    (HOW : Hid (∀ w, FmtG w → Calls Tryd.prog 26 #[.int .i64 f, .bool na, .int .i64 (fa : Nat), .agg #[.int .u64 (dgl (ra) 0 : Nat), .int .u64 (dgl (ra) 1 : Nat), .int .u64 (dgl (ra) 2 : Nat), .int .u64 (dgl (ra) 3 : Nat), .int .u64 (dgl (ra) 4 : Nat), .int .u64 (dgl (ra) 5 : Nat), .int .u64 (dgl (ra) 6 : Nat), .int .u64 (dgl (ra) 7 : Nat)]] w fun e w' => e = .returned (.tuple #[.agg #[.int .u64 (dgl (a) 1 : Nat), .int .u64 (dgl (a) 0 : Nat)], .bool true]) ∧ Below w.heap.size w w')) (w : World) (hg : FmtG w) :
    Calls Tryd.prog 4 #[.agg #[.int .i64 f, .bool neg, .int .i64 z, .int .u64 (dgl b 0 : Nat), .int .u64 (dgl b 1 : Nat), .int .u64 (dgl b 2 : Nat), .int .u64 (dgl b 3 : Nat), .int .u64 (dgl b 4 : Nat), .int .u64 (dgl b 5 : Nat), .int .u64 (dgl b 6 : Nat), .int .u64 (dgl b 7 : Nat)], .agg #[.int .u64 (dgl (a) 1 : Nat), .int .u64 (dgl (a) 0 : Nat)]] w fun e w' => e = .returned (.bool true) ∧ Below w.heap.size w w' := by
  have HST := hide (prSt_start f z neg b a w hg)
  clear hg
  go_enter Tryd.func4, Tryd.ntmps4
  go_upto_region 1 with fail
  refine wp_gen (fun W => PrSt f z neg b a w W) HST.out ?_
  clear HST
  rintro W1 h1
  refine wp_region_storeK 13 [12] [13, 14, 15, 16, 17, 18, 19, 20, 8, 5, 6, 7] (fun bs => [(13, .val (.pointer (some ⟨w.heap.size, 0, none⟩))), (14, .val (.int .i64 f)), (15, .val (.pointer (some ⟨w.heap.size, 1, none⟩))), (16, .val (.bool neg)), (17, .val (.pointer (some ⟨w.heap.size, 2, none⟩))), (18, .val (.int .i64 z)), (19, .val (.pointer (some ⟨w.heap.size, 3, none⟩))), (20, .val (.agg #[.int .u64 (dgl (b) 0 : Nat), .int .u64 (dgl (b) 1 : Nat), .int .u64 (dgl (b) 2 : Nat), .int .u64 (dgl (b) 3 : Nat), .int .u64 (dgl (b) 4 : Nat), .int .u64 (dgl (b) 5 : Nat), .int .u64 (dgl (b) 6 : Nat), .int .u64 (dgl (b) 7 : Nat)])), (8, bif bs.headD false then SlotIs.box (w.heap.size + 2) (dgl b) else SlotIs.box (w.heap.size + 2) (fun _ => 0)), (5, .val (.int .i64 f)), (6, .val (.bool neg)), (7, .val (.int .i64 z))])
    (fun _ W => PrSt f z neg b a w W) (fun bs => rfl) mixedOk (by kernel_rfl) (by kernel_rfl) (by kernel_rfl) (h1.below (Below.refl _ _).drew) (fun bs W W' h hb => h.below hb) ?_ ?_
  · refine kSt rfl (fun φ hφ => gStep_run rfl ?_) ?_
    · intro ρ W hC hc hf hL
      have e2 : ρ (.tmp 2) = .pointer (some ⟨w.heap.size, 0, none⟩) := hL 2 (by decide +kernel)
      simp [go_sem, hc, hf, e2]
      exact ⟨Below.refl _ _, rfl⟩
    refine kSt rfl (fun φ hφ => gStep_run rfl ?_) ?_
    · intro ρ W hC hc hf hL
      have e13 : ρ (.tmp 13) = .pointer (some ⟨w.heap.size, 0, none⟩) := hL 13 (by decide +kernel)
      have l0 := hC.cf
      simp [go_sem, hc, hf, e13, l0]
      exact ⟨Below.refl _ _, rfl⟩
    refine kSt rfl (fun φ hφ => gStep_run rfl ?_) ?_
    · intro ρ W hC hc hf hL
      have e2 : ρ (.tmp 2) = .pointer (some ⟨w.heap.size, 0, none⟩) := hL 2 (by decide +kernel)
      simp [go_sem, hc, hf, e2]
      exact ⟨Below.refl _ _, rfl⟩
    refine kSt rfl (fun φ hφ => gStep_run rfl ?_) ?_
    · intro ρ W hC hc hf hL
      have e15 : ρ (.tmp 15) = .pointer (some ⟨w.heap.size, 1, none⟩) := hL 15 (by decide +kernel)
      have l0 := hC.cn
      simp [go_sem, hc, hf, e15, l0]
      exact ⟨Below.refl _ _, rfl⟩
    refine kSt rfl (fun φ hφ => gStep_run rfl ?_) ?_
    · intro ρ W hC hc hf hL
      have e2 : ρ (.tmp 2) = .pointer (some ⟨w.heap.size, 0, none⟩) := hL 2 (by decide +kernel)
      simp [go_sem, hc, hf, e2]
      exact ⟨Below.refl _ _, rfl⟩
    refine kSt rfl (fun φ hφ => gStep_run rfl ?_) ?_
    · intro ρ W hC hc hf hL
      have e17 : ρ (.tmp 17) = .pointer (some ⟨w.heap.size, 2, none⟩) := hL 17 (by decide +kernel)
      have l0 := hC.cz
      simp [go_sem, hc, hf, e17, l0]
      exact ⟨Below.refl _ _, rfl⟩
    refine kSt rfl (fun φ hφ => gStep_run rfl ?_) ?_
    · intro ρ W hC hc hf hL
      have e2 : ρ (.tmp 2) = .pointer (some ⟨w.heap.size, 0, none⟩) := hL 2 (by decide +kernel)
      simp [go_sem, hc, hf, e2]
      exact ⟨Below.refl _ _, rfl⟩
    refine kSt rfl (fun φ hφ => gStep_run rfl ?_) ?_
    · intro ρ W hC hc hf hL
      have e19 : ρ (.tmp 19) = .pointer (some ⟨w.heap.size, 3, none⟩) := hL 19 (by decide +kernel)
      have l0 := hC.x0
      have l1 := hC.x1
      have l2 := hC.x2
      have l3 := hC.x3
      have l4 := hC.x4
      have l5 := hC.x5
      have l6 := hC.x6
      have l7 := hC.x7
      simp [go_sem, hc, hf, e19, l0, l1, l2, l3, l4, l5, l6, l7]
      exact ⟨Below.refl _ _, rfl⟩
    refine kSt rfl (fun φ hφ => gStep_run rfl ?_) ?_
    · intro ρ W hC hc hf hL
      have hφ0 : φ 12 = false := hφ 12 (by simp) (by kernel_rfl)
      simp [go_sem, hc, hf]
      refine ⟨below_allocs _ _, ?_⟩
      show (bif φ 12 then SlotIs.box (w.heap.size + 2) (dgl b) else SlotIs.box (w.heap.size + 2) (fun _ => 0)).R _ _
      rw [hφ0]
      exact ⟨_, rfl, hC.wa.lt, liesF_new _ (fun _ => 0) _, fun i => by simp [go_sem]⟩
    refine kSt rfl (fun φ hφ => gStep_run rfl (gRun_move 14 5 (.inr rfl) rfl (by decide +kernel) (fun v w h => h))) ?_
    refine kSt rfl (fun φ hφ => gStep_run rfl (gRun_move 16 6 (.inr rfl) rfl (by decide +kernel) (fun v w h => h))) ?_
    refine kSt rfl (fun φ hφ => gStep_run rfl (gRun_move 18 7 (.inr rfl) rfl (by decide +kernel) (fun v w h => h))) ?_
    refine kStS rfl ⟨rfl, rfl, ?_⟩ ?_
    · intro φ ρ W hφ hC hc hL
      have b8 := hL 8 (by decide +kernel)
      have e20 : ρ (.tmp 20) = .agg #[.int .u64 (dgl (b) 0 : Nat), .int .u64 (dgl (b) 1 : Nat), .int .u64 (dgl (b) 2 : Nat), .int .u64 (dgl (b) 3 : Nat), .int .u64 (dgl (b) 4 : Nat), .int .u64 (dgl (b) 5 : Nat), .int .u64 (dgl (b) 6 : Nat), .int .u64 (dgl (b) 7 : Nat)] := hL 20 (by decide +kernel)
      have b8 : (bif φ 12 then SlotIs.box (w.heap.size + 2) (dgl b) else SlotIs.box (w.heap.size + 2) (fun _ => 0)).R (ρ (.tmp 8)) W := hL 8 (by decide +kernel)
      rw [hφ] at b8
      obtain ⟨p8, e8, q8, l8, z8⟩ := b8
      have hz := l8.1
      have hzl := l8.2
      refine gUpon_of ((((((((W.setCell ⟨p8, 0, none⟩ (.int .u64 (dgl b 0 : Nat))).setCell ⟨p8, 1, none⟩ (.int .u64 (dgl b 1 : Nat))).setCell ⟨p8, 2, none⟩ (.int .u64 (dgl b 2 : Nat))).setCell ⟨p8, 3, none⟩ (.int .u64 (dgl b 3 : Nat))).setCell ⟨p8, 4, none⟩ (.int .u64 (dgl b 4 : Nat))).setCell ⟨p8, 5, none⟩ (.int .u64 (dgl b 5 : Nat))).setCell ⟨p8, 6, none⟩ (.int .u64 (dgl b 6 : Nat))).setCell ⟨p8, 7, none⟩ (.int .u64 (dgl b 7 : Nat))) ?_ (fun _ => ?_)
      · simp [go_sem, hc, e20, e8, hz, hzl, z8, gUpon]
      have hs8 := below_set8 (Below.refl (w.heap.size + 2) W) p8 q8 (.int .u64 (dgl b 0 : Nat)) (.int .u64 (dgl b 1 : Nat)) (.int .u64 (dgl b 2 : Nat)) (.int .u64 (dgl b 3 : Nat)) (.int .u64 (dgl b 4 : Nat)) (.int .u64 (dgl b 5 : Nat)) (.int .u64 (dgl b 6 : Nat)) (.int .u64 (dgl b 7 : Nat))
      refine ⟨hC.under hs8 (by omega), fun t => ?_⟩
      refine (tbl_imp rfl (fun _ => val_imp) (tbl_imp rfl (fun _ => val_imp) (tbl_imp rfl (fun _ => val_imp) (tbl_imp rfl (fun _ => val_imp) (tbl_imp rfl (fun _ => val_imp) (tbl_imp rfl (fun _ => val_imp) (tbl_imp rfl (fun _ => val_imp) (tbl_imp rfl (fun _ => val_imp) (tbl_imp rfl (fun ht h => ?_) (tbl_imp rfl (fun _ => val_imp) (tbl_imp rfl (fun _ => val_imp) (tbl_imp rfl (fun _ => val_imp) tbl_nil_imp))))))))))))
      subst ht
      show (bif (φ 12 || true) then SlotIs.box (w.heap.size + 2) (dgl b) else SlotIs.box (w.heap.size + 2) (fun _ => 0)).R _ _
      rw [Bool.or_true]
      exact ⟨p8, e8, q8, set8_same W p8 (dgl b) (fun _ => 0) l8, fun i => by simpa [go_sem] using z8 i⟩
    exact kSt0
  · intro W hC
    refine gFi 13 rfl ?_
    rintro _ rfl
    refine gFi 14 rfl ?_
    rintro _ rfl
    refine gFi 15 rfl ?_
    rintro _ rfl
    refine gFi 16 rfl ?_
    rintro _ rfl
    refine gFi 17 rfl ?_
    rintro _ rfl
    refine gFi 18 rfl ?_
    rintro _ rfl
    refine gFi 19 rfl ?_
    rintro _ rfl
    refine gFi 20 rfl ?_
    rintro _ rfl
    refine gFi 8 rfl ?_
    rintro u8 b8
    refine gFi 5 rfl ?_
    rintro _ rfl
    refine gFi 6 rfl ?_
    rintro _ rfl
    refine gFi 7 rfl ?_
    rintro _ rfl
    refine gFiN rfl ?_
    refine gFi0 ?_
    simp only [List.drop_succ_cons, List.drop_zero, Act.put, List.setIfInBounds_toArray, List.set_cons_succ, List.set_cons_zero]
    obtain ⟨p8, rfl, _, l8, _⟩ := b8
    have HS : Hid (Mk3 a w W) := hide ⟨hC.g, hC.wa, hC.bel⟩
    have HL := hide l8
    clear hC l8 h1
    have hl := HL.out.1
    go_wp2_with fail
    refine (HM.out _ HS.out.g).mono ?_
    rintro e w2 ⟨rfl, hb2⟩
    replace HS := hide (HS.out.below hb2)
    replace HL := hide (HL.out.below hb2)
    clear hb2 hl
    go_upto_region 3 with fail
    refine wp_gen (fun W => Mk3 a w W ∧ LiesF W p8 (dgl b) ∧ WB W w2.heap.size (0) (0)) ⟨HS.out.below (below_allocs _ _), HL.out.below (below_allocs _ _), wb_new _ _⟩ ?_
    clear HS HL
    generalize w2.heap.size = p9
    rintro W3 ⟨g1, g2, g3⟩
    have HS := hide g1
    have HL := hide g2
    have HQ := hide g3
    clear g1 g2 g3
    go_wp2_with fail
    refine (HIS.out _).mono ?_
    rintro e wl ⟨rfl, hw⟩
    subst wl
    have hz := HZ.out
    have q0 := HQ.out.h
    have q1 := HQ.out.l
    have hs : ∀ w, (Op.equalIn 10000 24 (.agg #[.int .u64 0, .int .u64 0]) (.agg #[.int .u64 0, .int .u64 0])).run Tryd.prog w = .ok true w := fun w => by simpa using word_same 0 0 w
    go_upto_region 8 with fail
    clear q0 q1 hs HQ HL
    have l0 := HS.out.wa.h
    have l1 := HS.out.wa.l
    go_wp2_with fail
    refine (HCL.out _).mono ?_
    rintro e w7 ⟨rfl, hb7⟩
    replace HS := hide (HS.out.below hb7)
    clear hb7 l0 l1
    have hk := HK.out
    go_upto_region 10 with fail
    refine wp_gen (fun W => Mk3 a w W) HS.out ?_
    clear HS hk
    rintro W8 g1
    refine wp_region_storeK 17 [15] [94, 95, 96, 97, 98, 99, 100, 101, 102, 103, 104, 93, 105, 106, 11, 12] (fun bs => [(94, .val (.int .i64 f)), (95, .val (.int .i64 f)), (96, .val (.agg #[.int .u64 (dgl (a) 1 : Nat), .int .u64 (dgl (a) 0 : Nat)])), (97, .val (.bool na)), (98, .val (.int .i64 f)), (99, .val (.agg #[.int .u64 (dgl (a) 1 : Nat), .int .u64 (dgl (a) 0 : Nat)])), (100, .val (.int .i64 (fa : Nat))), (101, .val (.int .i64 f)), (102, .val (.agg #[.int .u64 (dgl (a) 1 : Nat), .int .u64 (dgl (a) 0 : Nat)])), (103, .val (.agg #[.int .u64 (dgl (ra) 0 : Nat), .int .u64 (dgl (ra) 1 : Nat), .int .u64 (dgl (ra) 2 : Nat), .int .u64 (dgl (ra) 3 : Nat), .int .u64 (dgl (ra) 4 : Nat), .int .u64 (dgl (ra) 5 : Nat), .int .u64 (dgl (ra) 6 : Nat), .int .u64 (dgl (ra) 7 : Nat)])), (104, .val (.tuple #[.agg #[.int .u64 (dgl (a) 1 : Nat), .int .u64 (dgl (a) 0 : Nat)], .bool true])), (93, .val (.tuple #[.agg #[.int .u64 (dgl (a) 1 : Nat), .int .u64 (dgl (a) 0 : Nat)], .bool true])), (105, .val (.agg #[.int .u64 (dgl (a) 1 : Nat), .int .u64 (dgl (a) 0 : Nat)])), (106, .val (.bool true)), (11, bif bs.headD false then SlotIs.wbox (w.heap.size + 2) (dgl a 1) (dgl a 0) else SlotIs.wbox (w.heap.size + 2) 0 0), (12, .val (.bool true))])
      (fun _ W => Mk3 a w W) (fun bs => rfl) mixedOk (by kernel_rfl) (by kernel_rfl) (by kernel_rfl) (g1.below (Below.refl _ _).drew) (fun bs W W' h hb => h.below hb) ?_ ?_
    · refine kSt rfl (fun φ hφ => gStep_run rfl (gRun_move 5 94 (.inl rfl) rfl (by decide +kernel) (fun v w h => h))) ?_
      refine kSt rfl (fun φ hφ => gStep_run rfl (gRun_move 5 95 (.inl rfl) rfl (by decide +kernel) (fun v w h => h))) ?_
      refine kSt rfl (fun φ hφ => gStep_run rfl ?_) ?_
      · intro ρ W hC hc hf hL
        have e3 : ρ (.tmp 3) = .pointer (some ⟨w.heap.size + 1, 0, none⟩) := hL 3 (by decide +kernel)
        have l0 := hC.wa.h
        have l1 := hC.wa.l
        simp [go_sem, hc, hf, e3, l0, l1]
        exact ⟨Below.refl _ _, rfl⟩
      refine kSt rfl (fun φ hφ => gStep_run rfl ?_) ?_
      · intro ρ W hC hc hf hL
        have e95 : ρ (.tmp 95) = .int .i64 f := hL 95 (by decide +kernel)
        have e96 : ρ (.tmp 96) = .agg #[.int .u64 (dgl (a) 1 : Nat), .int .u64 (dgl (a) 0 : Nat)] := hL 96 (by decide +kernel)
        simp [go_sem, hc, hf, e95, e96]
        refine (HNA.out W hC.g).mono ?_
        rintro e w' ⟨rfl, hb⟩
        exact ⟨_, rfl, by first | exact hb | (subst hb; exact Below.refl _ _), rfl⟩
      refine kSt rfl (fun φ hφ => gStep_run rfl (gRun_move 5 98 (.inl rfl) rfl (by decide +kernel) (fun v w h => h))) ?_
      refine kSt rfl (fun φ hφ => gStep_run rfl ?_) ?_
      · intro ρ W hC hc hf hL
        have e3 : ρ (.tmp 3) = .pointer (some ⟨w.heap.size + 1, 0, none⟩) := hL 3 (by decide +kernel)
        have l0 := hC.wa.h
        have l1 := hC.wa.l
        simp [go_sem, hc, hf, e3, l0, l1]
        exact ⟨Below.refl _ _, rfl⟩
      refine kSt rfl (fun φ hφ => gStep_run rfl ?_) ?_
      · intro ρ W hC hc hf hL
        have e98 : ρ (.tmp 98) = .int .i64 f := hL 98 (by decide +kernel)
        have e99 : ρ (.tmp 99) = .agg #[.int .u64 (dgl (a) 1 : Nat), .int .u64 (dgl (a) 0 : Nat)] := hL 99 (by decide +kernel)
        simp [go_sem, hc, hf, e98, e99]
        refine (HFA.out W hC.g).mono ?_
        rintro e w' ⟨rfl, hb⟩
        exact ⟨_, rfl, by first | exact hb | (subst hb; exact Below.refl _ _), rfl⟩
      refine kSt rfl (fun φ hφ => gStep_run rfl (gRun_move 5 101 (.inl rfl) rfl (by decide +kernel) (fun v w h => h))) ?_
      refine kSt rfl (fun φ hφ => gStep_run rfl ?_) ?_
      · intro ρ W hC hc hf hL
        have e3 : ρ (.tmp 3) = .pointer (some ⟨w.heap.size + 1, 0, none⟩) := hL 3 (by decide +kernel)
        have l0 := hC.wa.h
        have l1 := hC.wa.l
        simp [go_sem, hc, hf, e3, l0, l1]
        exact ⟨Below.refl _ _, rfl⟩
      refine kSt rfl (fun φ hφ => gStep_run rfl ?_) ?_
      · intro ρ W hC hc hf hL
        have e101 : ρ (.tmp 101) = .int .i64 f := hL 101 (by decide +kernel)
        have e102 : ρ (.tmp 102) = .agg #[.int .u64 (dgl (a) 1 : Nat), .int .u64 (dgl (a) 0 : Nat)] := hL 102 (by decide +kernel)
        simp [go_sem, hc, hf, e101, e102]
        refine (HRA.out W hC.g).mono ?_
        rintro e w' ⟨rfl, hb⟩
        exact ⟨_, rfl, by first | exact hb | (subst hb; exact Below.refl _ _), rfl⟩
      refine kSt rfl (fun φ hφ => gStep_run rfl ?_) ?_
      · intro ρ W hC hc hf hL
        have e94 : ρ (.tmp 94) = .int .i64 f := hL 94 (by decide +kernel)
        have e97 : ρ (.tmp 97) = .bool na := hL 97 (by decide +kernel)
        have e100 : ρ (.tmp 100) = .int .i64 (fa : Nat) := hL 100 (by decide +kernel)
        have e103 : ρ (.tmp 103) = .agg #[.int .u64 (dgl (ra) 0 : Nat), .int .u64 (dgl (ra) 1 : Nat), .int .u64 (dgl (ra) 2 : Nat), .int .u64 (dgl (ra) 3 : Nat), .int .u64 (dgl (ra) 4 : Nat), .int .u64 (dgl (ra) 5 : Nat), .int .u64 (dgl (ra) 6 : Nat), .int .u64 (dgl (ra) 7 : Nat)] := hL 103 (by decide +kernel)
        simp [go_sem, hc, hf, e94, e97, e100, e103]
        refine (HOW.out W hC.g).mono ?_
        rintro e w' ⟨rfl, hb⟩
        exact ⟨_, rfl, by first | exact hb | (subst hb; exact Below.refl _ _), rfl⟩
      refine kSt rfl (fun φ hφ => gStep_run rfl (gRun_move 104 93 (.inl rfl) rfl (by decide +kernel) (fun v w h => h))) ?_
      refine kSt rfl (fun φ hφ => gStep_run rfl ?_) ?_
      · intro ρ W hC hc hf hL
        have e93 : ρ (.tmp 93) = .tuple #[.agg #[.int .u64 (dgl (a) 1 : Nat), .int .u64 (dgl (a) 0 : Nat)], .bool true] := hL 93 (by decide +kernel)
        simp [go_sem, hc, hf, e93]
        exact ⟨Below.refl _ _, rfl⟩
      refine kSt rfl (fun φ hφ => gStep_run rfl ?_) ?_
      · intro ρ W hC hc hf hL
        have e93 : ρ (.tmp 93) = .tuple #[.agg #[.int .u64 (dgl (a) 1 : Nat), .int .u64 (dgl (a) 0 : Nat)], .bool true] := hL 93 (by decide +kernel)
        simp [go_sem, hc, hf, e93]
        exact ⟨Below.refl _ _, rfl⟩
      refine kSt rfl (fun φ hφ => gStep_run rfl ?_) ?_
      · intro ρ W hC hc hf hL
        have hφ0 : φ 15 = false := hφ 15 (by simp) (by kernel_rfl)
        simp [go_sem, hc, hf]
        refine ⟨below_allocs _ _, ?_⟩
        show (bif φ 15 then SlotIs.wbox (w.heap.size + 2) (dgl a 1) (dgl a 0) else SlotIs.wbox (w.heap.size + 2) 0 0).R _ _
        rw [hφ0]
        exact ⟨_, rfl, hC.wa.lt, wb_new _ _, fun i => by simp [go_sem]⟩
      refine kStS rfl ⟨rfl, rfl, ?_⟩ ?_
      · intro φ ρ W hφ hC hc hL
        have b11 := hL 11 (by decide +kernel)
        have e105 : ρ (.tmp 105) = .agg #[.int .u64 (dgl (a) 1 : Nat), .int .u64 (dgl (a) 0 : Nat)] := hL 105 (by decide +kernel)
        have b11 : (bif φ 15 then SlotIs.wbox (w.heap.size + 2) (dgl a 1) (dgl a 0) else SlotIs.wbox (w.heap.size + 2) 0 0).R (ρ (.tmp 11)) W := hL 11 (by decide +kernel)
        rw [hφ] at b11
        obtain ⟨pp, ep, qp, lp, zp⟩ := b11
        have hz := lp.h
        have hy := lp.l
        have hzl := lp.lt
        refine gUpon_of ((W.setCell ⟨pp, 0, none⟩ (.int .u64 (dgl a 1 : Nat))).setCell ⟨pp, 1, none⟩ (.int .u64 (dgl a 0 : Nat))) ?_ (fun _ => ?_)
        · simp [go_sem, hc, e105, ep, hz, hy, hzl, zp, gUpon]
        have hs2 : Below (w.heap.size + 2) W ((W.setCell ⟨pp, 0, none⟩ (.int .u64 (dgl a 1 : Nat))).setCell ⟨pp, 1, none⟩ (.int .u64 (dgl a 0 : Nat))) := ((Below.refl (w.heap.size + 2) W).setCell (p := ⟨pp, 0, none⟩) qp _).setCell (p := ⟨pp, 1, none⟩) qp _
        refine ⟨hC.under hs2, fun t => ?_⟩
        refine (tbl_imp rfl (fun _ => val_imp) (tbl_imp rfl (fun _ => val_imp) (tbl_imp rfl (fun _ => val_imp) (tbl_imp rfl (fun _ => val_imp) (tbl_imp rfl (fun _ => val_imp) (tbl_imp rfl (fun _ => val_imp) (tbl_imp rfl (fun _ => val_imp) (tbl_imp rfl (fun _ => val_imp) (tbl_imp rfl (fun _ => val_imp) (tbl_imp rfl (fun _ => val_imp) (tbl_imp rfl (fun _ => val_imp) (tbl_imp rfl (fun _ => val_imp) (tbl_imp rfl (fun _ => val_imp) (tbl_imp rfl (fun _ => val_imp) (tbl_imp rfl (fun ht h => ?_) (tbl_imp rfl (fun _ => val_imp) tbl_nil_imp))))))))))))))))
        subst ht
        show (bif (φ 15 || true) then SlotIs.wbox (w.heap.size + 2) (dgl a 1) (dgl a 0) else SlotIs.wbox (w.heap.size + 2) 0 0).R _ _
        rw [Bool.or_true]
        exact ⟨pp, ep, qp, wb_set lp, fun i => by simpa [go_sem] using zp i⟩
      refine kSt rfl (fun φ hφ => gStep_run rfl (gRun_move 106 12 (.inr rfl) rfl (by decide +kernel) (fun v w h => h))) ?_
      exact kSt0
    · intro W hC
      refine gFi 94 rfl ?_
      rintro _ rfl
      refine gFi 95 rfl ?_
      rintro _ rfl
      refine gFi 96 rfl ?_
      rintro _ rfl
      refine gFi 97 rfl ?_
      rintro _ rfl
      refine gFi 98 rfl ?_
      rintro _ rfl
      refine gFi 99 rfl ?_
      rintro _ rfl
      refine gFi 100 rfl ?_
      rintro _ rfl
      refine gFi 101 rfl ?_
      rintro _ rfl
      refine gFi 102 rfl ?_
      rintro _ rfl
      refine gFi 103 rfl ?_
      rintro _ rfl
      refine gFi 104 rfl ?_
      rintro _ rfl
      refine gFi 93 rfl ?_
      rintro _ rfl
      refine gFi 105 rfl ?_
      rintro _ rfl
      refine gFi 106 rfl ?_
      rintro _ rfl
      refine gFi 11 rfl ?_
      rintro u11 b11
      refine gFiN rfl ?_
      refine gFi 12 rfl ?_
      rintro _ rfl
      refine gFi0 ?_
      simp only [List.drop_succ_cons, List.drop_zero, Act.put, List.setIfInBounds_toArray, List.set_cons_succ, List.set_cons_zero]
      obtain ⟨p11, rfl, _, l11, _⟩ := b11
      have HS := hide hC
      have HQ := hide l11
      clear hC l11 g1
      have l0 := HS.out.wa.h
      have l1 := HS.out.wa.l
      have m0 := HQ.out.h
      have m1 := HQ.out.l
      have hs := fun w => word_same (dgl a 1) (dgl a 0) w
      go_wp2_with fail
      refine (awake6_any _ HS.out.g).mono ?_
      rintro e w8 ⟨rfl, hb8⟩
      have HB := hide (below_trans HS.out.bel hb8)
      clear hb8 HS l0 l1 m0 m1 hs HQ
      go_wp2
      go_ret
      exact ⟨rfl, HB.out⟩

set_option maxHeartbeats 4000000 in
theorem classMakes_C0 (f z em e1 e2 ln pr p1 : Int) (neg na : Bool) (a b c k fa ra : Nat)
    (HM : Hid (∀ w, FmtG w → Calls Tryd.prog 26 #[.int .i64 f, .bool neg, .int .i64 z, .agg #[.int .u64 (dgl (b) 0 : Nat), .int .u64 (dgl (b) 1 : Nat), .int .u64 (dgl (b) 2 : Nat), .int .u64 (dgl (b) 3 : Nat), .int .u64 (dgl (b) 4 : Nat), .int .u64 (dgl (b) 5 : Nat), .int .u64 (dgl (b) 6 : Nat), .int .u64 (dgl (b) 7 : Nat)]] w fun e w' => e = .returned (.tuple #[.agg #[.int .u64 0, .int .u64 0], .bool false]) ∧ Below w.heap.size w w'))
    (HIS : Hid (∀ w, Calls Tryd.prog 27 #[.int .i64 f] w fun e w' => e = .returned (.bool true) ∧ w' = w))
    (HZ : Hid (¬ z < 0))
    (HEM : Hid (∀ w, Calls Tryd.prog 28 #[.int .i64 f] w fun e w' => e = .returned (.int .i64 em) ∧ w' = w))
    (HE1 : Hid (IntKind.i64.wrap (2 * em) = e1))
    (HE2 : Hid (IntKind.i64.wrap (e1 + 1) = e2))
    (HZ2 : Hid (e2 < z))
    (HCL : Hid (∀ w, Calls Tryd.prog 12 #[.int .i64 f, .agg #[.int .u64 (dgl (a) 1 : Nat), .int .u64 (dgl (a) 0 : Nat)]] w fun e w' => e = .returned (.int .i64 0) ∧ Below w.heap.size w w')) (w : World) (hg : FmtG w) :
    Calls Tryd.prog 4 #[.agg #[.int .i64 f, .bool neg, .int .i64 z, .int .u64 (dgl b 0 : Nat), .int .u64 (dgl b 1 : Nat), .int .u64 (dgl b 2 : Nat), .int .u64 (dgl b 3 : Nat), .int .u64 (dgl b 4 : Nat), .int .u64 (dgl b 5 : Nat), .int .u64 (dgl b 6 : Nat), .int .u64 (dgl b 7 : Nat)], .agg #[.int .u64 (dgl (a) 1 : Nat), .int .u64 (dgl (a) 0 : Nat)]] w fun e w' => e = .returned (.bool true) ∧ Below w.heap.size w w' := by
  have HST := hide (prSt_start f z neg b a w hg)
  clear hg
  go_enter Tryd.func4, Tryd.ntmps4
  go_upto_region 1 with fail
  refine wp_gen (fun W => PrSt f z neg b a w W) HST.out ?_
  clear HST
  rintro W1 h1
  refine wp_region_storeK 13 [12] [13, 14, 15, 16, 17, 18, 19, 20, 8, 5, 6, 7] (fun bs => [(13, .val (.pointer (some ⟨w.heap.size, 0, none⟩))), (14, .val (.int .i64 f)), (15, .val (.pointer (some ⟨w.heap.size, 1, none⟩))), (16, .val (.bool neg)), (17, .val (.pointer (some ⟨w.heap.size, 2, none⟩))), (18, .val (.int .i64 z)), (19, .val (.pointer (some ⟨w.heap.size, 3, none⟩))), (20, .val (.agg #[.int .u64 (dgl (b) 0 : Nat), .int .u64 (dgl (b) 1 : Nat), .int .u64 (dgl (b) 2 : Nat), .int .u64 (dgl (b) 3 : Nat), .int .u64 (dgl (b) 4 : Nat), .int .u64 (dgl (b) 5 : Nat), .int .u64 (dgl (b) 6 : Nat), .int .u64 (dgl (b) 7 : Nat)])), (8, bif bs.headD false then SlotIs.box (w.heap.size + 2) (dgl b) else SlotIs.box (w.heap.size + 2) (fun _ => 0)), (5, .val (.int .i64 f)), (6, .val (.bool neg)), (7, .val (.int .i64 z))])
    (fun _ W => PrSt f z neg b a w W) (fun bs => rfl) mixedOk (by kernel_rfl) (by kernel_rfl) (by kernel_rfl) (h1.below (Below.refl _ _).drew) (fun bs W W' h hb => h.below hb) ?_ ?_
  · refine kSt rfl (fun φ hφ => gStep_run rfl ?_) ?_
    · intro ρ W hC hc hf hL
      have e2 : ρ (.tmp 2) = .pointer (some ⟨w.heap.size, 0, none⟩) := hL 2 (by decide +kernel)
      simp [go_sem, hc, hf, e2]
      exact ⟨Below.refl _ _, rfl⟩
    refine kSt rfl (fun φ hφ => gStep_run rfl ?_) ?_
    · intro ρ W hC hc hf hL
      have e13 : ρ (.tmp 13) = .pointer (some ⟨w.heap.size, 0, none⟩) := hL 13 (by decide +kernel)
      have l0 := hC.cf
      simp [go_sem, hc, hf, e13, l0]
      exact ⟨Below.refl _ _, rfl⟩
    refine kSt rfl (fun φ hφ => gStep_run rfl ?_) ?_
    · intro ρ W hC hc hf hL
      have e2 : ρ (.tmp 2) = .pointer (some ⟨w.heap.size, 0, none⟩) := hL 2 (by decide +kernel)
      simp [go_sem, hc, hf, e2]
      exact ⟨Below.refl _ _, rfl⟩
    refine kSt rfl (fun φ hφ => gStep_run rfl ?_) ?_
    · intro ρ W hC hc hf hL
      have e15 : ρ (.tmp 15) = .pointer (some ⟨w.heap.size, 1, none⟩) := hL 15 (by decide +kernel)
      have l0 := hC.cn
      simp [go_sem, hc, hf, e15, l0]
      exact ⟨Below.refl _ _, rfl⟩
    refine kSt rfl (fun φ hφ => gStep_run rfl ?_) ?_
    · intro ρ W hC hc hf hL
      have e2 : ρ (.tmp 2) = .pointer (some ⟨w.heap.size, 0, none⟩) := hL 2 (by decide +kernel)
      simp [go_sem, hc, hf, e2]
      exact ⟨Below.refl _ _, rfl⟩
    refine kSt rfl (fun φ hφ => gStep_run rfl ?_) ?_
    · intro ρ W hC hc hf hL
      have e17 : ρ (.tmp 17) = .pointer (some ⟨w.heap.size, 2, none⟩) := hL 17 (by decide +kernel)
      have l0 := hC.cz
      simp [go_sem, hc, hf, e17, l0]
      exact ⟨Below.refl _ _, rfl⟩
    refine kSt rfl (fun φ hφ => gStep_run rfl ?_) ?_
    · intro ρ W hC hc hf hL
      have e2 : ρ (.tmp 2) = .pointer (some ⟨w.heap.size, 0, none⟩) := hL 2 (by decide +kernel)
      simp [go_sem, hc, hf, e2]
      exact ⟨Below.refl _ _, rfl⟩
    refine kSt rfl (fun φ hφ => gStep_run rfl ?_) ?_
    · intro ρ W hC hc hf hL
      have e19 : ρ (.tmp 19) = .pointer (some ⟨w.heap.size, 3, none⟩) := hL 19 (by decide +kernel)
      have l0 := hC.x0
      have l1 := hC.x1
      have l2 := hC.x2
      have l3 := hC.x3
      have l4 := hC.x4
      have l5 := hC.x5
      have l6 := hC.x6
      have l7 := hC.x7
      simp [go_sem, hc, hf, e19, l0, l1, l2, l3, l4, l5, l6, l7]
      exact ⟨Below.refl _ _, rfl⟩
    refine kSt rfl (fun φ hφ => gStep_run rfl ?_) ?_
    · intro ρ W hC hc hf hL
      have hφ0 : φ 12 = false := hφ 12 (by simp) (by kernel_rfl)
      simp [go_sem, hc, hf]
      refine ⟨below_allocs _ _, ?_⟩
      show (bif φ 12 then SlotIs.box (w.heap.size + 2) (dgl b) else SlotIs.box (w.heap.size + 2) (fun _ => 0)).R _ _
      rw [hφ0]
      exact ⟨_, rfl, hC.wa.lt, liesF_new _ (fun _ => 0) _, fun i => by simp [go_sem]⟩
    refine kSt rfl (fun φ hφ => gStep_run rfl (gRun_move 14 5 (.inr rfl) rfl (by decide +kernel) (fun v w h => h))) ?_
    refine kSt rfl (fun φ hφ => gStep_run rfl (gRun_move 16 6 (.inr rfl) rfl (by decide +kernel) (fun v w h => h))) ?_
    refine kSt rfl (fun φ hφ => gStep_run rfl (gRun_move 18 7 (.inr rfl) rfl (by decide +kernel) (fun v w h => h))) ?_
    refine kStS rfl ⟨rfl, rfl, ?_⟩ ?_
    · intro φ ρ W hφ hC hc hL
      have b8 := hL 8 (by decide +kernel)
      have e20 : ρ (.tmp 20) = .agg #[.int .u64 (dgl (b) 0 : Nat), .int .u64 (dgl (b) 1 : Nat), .int .u64 (dgl (b) 2 : Nat), .int .u64 (dgl (b) 3 : Nat), .int .u64 (dgl (b) 4 : Nat), .int .u64 (dgl (b) 5 : Nat), .int .u64 (dgl (b) 6 : Nat), .int .u64 (dgl (b) 7 : Nat)] := hL 20 (by decide +kernel)
      have b8 : (bif φ 12 then SlotIs.box (w.heap.size + 2) (dgl b) else SlotIs.box (w.heap.size + 2) (fun _ => 0)).R (ρ (.tmp 8)) W := hL 8 (by decide +kernel)
      rw [hφ] at b8
      obtain ⟨p8, e8, q8, l8, z8⟩ := b8
      have hz := l8.1
      have hzl := l8.2
      refine gUpon_of ((((((((W.setCell ⟨p8, 0, none⟩ (.int .u64 (dgl b 0 : Nat))).setCell ⟨p8, 1, none⟩ (.int .u64 (dgl b 1 : Nat))).setCell ⟨p8, 2, none⟩ (.int .u64 (dgl b 2 : Nat))).setCell ⟨p8, 3, none⟩ (.int .u64 (dgl b 3 : Nat))).setCell ⟨p8, 4, none⟩ (.int .u64 (dgl b 4 : Nat))).setCell ⟨p8, 5, none⟩ (.int .u64 (dgl b 5 : Nat))).setCell ⟨p8, 6, none⟩ (.int .u64 (dgl b 6 : Nat))).setCell ⟨p8, 7, none⟩ (.int .u64 (dgl b 7 : Nat))) ?_ (fun _ => ?_)
      · simp [go_sem, hc, e20, e8, hz, hzl, z8, gUpon]
      have hs8 := below_set8 (Below.refl (w.heap.size + 2) W) p8 q8 (.int .u64 (dgl b 0 : Nat)) (.int .u64 (dgl b 1 : Nat)) (.int .u64 (dgl b 2 : Nat)) (.int .u64 (dgl b 3 : Nat)) (.int .u64 (dgl b 4 : Nat)) (.int .u64 (dgl b 5 : Nat)) (.int .u64 (dgl b 6 : Nat)) (.int .u64 (dgl b 7 : Nat))
      refine ⟨hC.under hs8 (by omega), fun t => ?_⟩
      refine (tbl_imp rfl (fun _ => val_imp) (tbl_imp rfl (fun _ => val_imp) (tbl_imp rfl (fun _ => val_imp) (tbl_imp rfl (fun _ => val_imp) (tbl_imp rfl (fun _ => val_imp) (tbl_imp rfl (fun _ => val_imp) (tbl_imp rfl (fun _ => val_imp) (tbl_imp rfl (fun _ => val_imp) (tbl_imp rfl (fun ht h => ?_) (tbl_imp rfl (fun _ => val_imp) (tbl_imp rfl (fun _ => val_imp) (tbl_imp rfl (fun _ => val_imp) tbl_nil_imp))))))))))))
      subst ht
      show (bif (φ 12 || true) then SlotIs.box (w.heap.size + 2) (dgl b) else SlotIs.box (w.heap.size + 2) (fun _ => 0)).R _ _
      rw [Bool.or_true]
      exact ⟨p8, e8, q8, set8_same W p8 (dgl b) (fun _ => 0) l8, fun i => by simpa [go_sem] using z8 i⟩
    exact kSt0
  · intro W hC
    refine gFi 13 rfl ?_
    rintro _ rfl
    refine gFi 14 rfl ?_
    rintro _ rfl
    refine gFi 15 rfl ?_
    rintro _ rfl
    refine gFi 16 rfl ?_
    rintro _ rfl
    refine gFi 17 rfl ?_
    rintro _ rfl
    refine gFi 18 rfl ?_
    rintro _ rfl
    refine gFi 19 rfl ?_
    rintro _ rfl
    refine gFi 20 rfl ?_
    rintro _ rfl
    refine gFi 8 rfl ?_
    rintro u8 b8
    refine gFi 5 rfl ?_
    rintro _ rfl
    refine gFi 6 rfl ?_
    rintro _ rfl
    refine gFi 7 rfl ?_
    rintro _ rfl
    refine gFiN rfl ?_
    refine gFi0 ?_
    simp only [List.drop_succ_cons, List.drop_zero, Act.put, List.setIfInBounds_toArray, List.set_cons_succ, List.set_cons_zero]
    obtain ⟨p8, rfl, _, l8, _⟩ := b8
    have HS : Hid (Mk3 a w W) := hide ⟨hC.g, hC.wa, hC.bel⟩
    have HL := hide l8
    clear hC l8 h1
    have hl := HL.out.1
    go_wp2_with fail
    refine (HM.out _ HS.out.g).mono ?_
    rintro e w2 ⟨rfl, hb2⟩
    replace HS := hide (HS.out.below hb2)
    replace HL := hide (HL.out.below hb2)
    clear hb2 hl
    go_upto_region 3 with fail
    refine wp_gen (fun W => Mk3 a w W ∧ LiesF W p8 (dgl b) ∧ WB W w2.heap.size (0) (0)) ⟨HS.out.below (below_allocs _ _), HL.out.below (below_allocs _ _), wb_new _ _⟩ ?_
    clear HS HL
    generalize w2.heap.size = p9
    rintro W3 ⟨g1, g2, g3⟩
    have HS := hide g1
    have HL := hide g2
    have HQ := hide g3
    clear g1 g2 g3
    go_wp2_with fail
    refine (HIS.out _).mono ?_
    rintro e wl ⟨rfl, hw⟩
    subst wl
    have hz := HZ.out
    go_wp2_with fail
    refine (HEM.out _).mono ?_
    rintro e wl ⟨rfl, hw⟩
    subst wl
    have he1 := HE1.out
    have he2 := HE2.out
    have hz2 := HZ2.out
    have q0 := HQ.out.h
    have q1 := HQ.out.l
    have hs : ∀ w, (Op.equalIn 10000 24 (.agg #[.int .u64 0, .int .u64 0]) (.agg #[.int .u64 0, .int .u64 0])).run Tryd.prog w = .ok true w := fun w => by simpa using word_same 0 0 w
    go_upto_region 8 with fail
    clear q0 q1 hs HQ HL
    have l0 := HS.out.wa.h
    have l1 := HS.out.wa.l
    go_wp2_with fail
    refine (HCL.out _).mono ?_
    rintro e w7 ⟨rfl, hb7⟩
    replace HS := hide (HS.out.below hb7)
    clear hb7 l0 l1
    go_wp2_with fail
    refine (awake6_any _ HS.out.g).mono ?_
    rintro e w8 ⟨rfl, hb8⟩
    have HB := hide (below_trans HS.out.bel hb8)
    clear hb8 HS
    go_wp2
    go_ret
    exact ⟨rfl, HB.out⟩

set_option maxHeartbeats 4000000 in
theorem classMakes_C1 (f z em e1 e2 ln pr p1 : Int) (neg na : Bool) (a b c k fa ra : Nat)
    (HM : Hid (∀ w, FmtG w → Calls Tryd.prog 26 #[.int .i64 f, .bool neg, .int .i64 z, .agg #[.int .u64 (dgl (b) 0 : Nat), .int .u64 (dgl (b) 1 : Nat), .int .u64 (dgl (b) 2 : Nat), .int .u64 (dgl (b) 3 : Nat), .int .u64 (dgl (b) 4 : Nat), .int .u64 (dgl (b) 5 : Nat), .int .u64 (dgl (b) 6 : Nat), .int .u64 (dgl (b) 7 : Nat)]] w fun e w' => e = .returned (.tuple #[.agg #[.int .u64 0, .int .u64 0], .bool false]) ∧ Below w.heap.size w w'))
    (HIS : Hid (∀ w, Calls Tryd.prog 27 #[.int .i64 f] w fun e w' => e = .returned (.bool true) ∧ w' = w))
    (HZ : Hid (¬ z < 0))
    (HEM : Hid (∀ w, Calls Tryd.prog 28 #[.int .i64 f] w fun e w' => e = .returned (.int .i64 em) ∧ w' = w))
    (HE1 : Hid (IntKind.i64.wrap (2 * em) = e1))
    (HE2 : Hid (IntKind.i64.wrap (e1 + 1) = e2))
    (HZ2 : Hid (e2 < z))
    (HCL : Hid (∀ w, Calls Tryd.prog 12 #[.int .i64 f, .agg #[.int .u64 (dgl (a) 1 : Nat), .int .u64 (dgl (a) 0 : Nat)]] w fun e w' => e = .returned (.int .i64 (k : Nat)) ∧ Below w.heap.size w w'))
    (HK : Hid (((k : Nat) : Int) ≠ 0))
    (HNA : Hid (∀ w, FmtG w → Calls Tryd.prog 16 #[.int .i64 f, .agg #[.int .u64 (dgl (a) 1 : Nat), .int .u64 (dgl (a) 0 : Nat)]] w fun e w' => e = .returned (.bool na) ∧ Below w.heap.size w w'))
    (HFA : Hid (∀ w, FmtG w → Calls Tryd.prog 18 #[.int .i64 f, .agg #[.int .u64 (dgl (a) 1 : Nat), .int .u64 (dgl (a) 0 : Nat)]] w fun e w' => e = .returned (.int .i64 (fa : Nat)) ∧ Below w.heap.size w w'))
    (HRA : Hid (∀ w, FmtG w → Calls Tryd.prog 19 #[.int .i64 f, .agg #[.int .u64 (dgl (a) 1 : Nat), .int .u64 (dgl (a) 0 : Nat)]] w fun e w' => e = .returned (.agg #[.int .u64 (dgl (ra) 0 : Nat), .int .u64 (dgl (ra) 1 : Nat), .int .u64 (dgl (ra) 2 : Nat), .int .u64 (dgl (ra) 3 : Nat), .int .u64 (dgl (ra) 4 : Nat), .int .u64 (dgl (ra) 5 : Nat), .int .u64 (dgl (ra) 6 : Nat), .int .u64 (dgl (ra) 7 : Nat)]) ∧ Below w.heap.size w w'))
    (HOW : Hid (∀ w, FmtG w → Calls Tryd.prog 26 #[.int .i64 f, .bool na, .int .i64 (fa : Nat), .agg #[.int .u64 (dgl (ra) 0 : Nat), .int .u64 (dgl (ra) 1 : Nat), .int .u64 (dgl (ra) 2 : Nat), .int .u64 (dgl (ra) 3 : Nat), .int .u64 (dgl (ra) 4 : Nat), .int .u64 (dgl (ra) 5 : Nat), .int .u64 (dgl (ra) 6 : Nat), .int .u64 (dgl (ra) 7 : Nat)]] w fun e w' => e = .returned (.tuple #[.agg #[.int .u64 (dgl (a) 1 : Nat), .int .u64 (dgl (a) 0 : Nat)], .bool true]) ∧ Below w.heap.size w w')) (w : World) (hg : FmtG w) :
    Calls Tryd.prog 4 #[.agg #[.int .i64 f, .bool neg, .int .i64 z, .int .u64 (dgl b 0 : Nat), .int .u64 (dgl b 1 : Nat), .int .u64 (dgl b 2 : Nat), .int .u64 (dgl b 3 : Nat), .int .u64 (dgl b 4 : Nat), .int .u64 (dgl b 5 : Nat), .int .u64 (dgl b 6 : Nat), .int .u64 (dgl b 7 : Nat)], .agg #[.int .u64 (dgl (a) 1 : Nat), .int .u64 (dgl (a) 0 : Nat)]] w fun e w' => e = .returned (.bool true) ∧ Below w.heap.size w w' := by
  have HST := hide (prSt_start f z neg b a w hg)
  clear hg
  go_enter Tryd.func4, Tryd.ntmps4
  go_upto_region 1 with fail
  refine wp_gen (fun W => PrSt f z neg b a w W) HST.out ?_
  clear HST
  rintro W1 h1
  refine wp_region_storeK 13 [12] [13, 14, 15, 16, 17, 18, 19, 20, 8, 5, 6, 7] (fun bs => [(13, .val (.pointer (some ⟨w.heap.size, 0, none⟩))), (14, .val (.int .i64 f)), (15, .val (.pointer (some ⟨w.heap.size, 1, none⟩))), (16, .val (.bool neg)), (17, .val (.pointer (some ⟨w.heap.size, 2, none⟩))), (18, .val (.int .i64 z)), (19, .val (.pointer (some ⟨w.heap.size, 3, none⟩))), (20, .val (.agg #[.int .u64 (dgl (b) 0 : Nat), .int .u64 (dgl (b) 1 : Nat), .int .u64 (dgl (b) 2 : Nat), .int .u64 (dgl (b) 3 : Nat), .int .u64 (dgl (b) 4 : Nat), .int .u64 (dgl (b) 5 : Nat), .int .u64 (dgl (b) 6 : Nat), .int .u64 (dgl (b) 7 : Nat)])), (8, bif bs.headD false then SlotIs.box (w.heap.size + 2) (dgl b) else SlotIs.box (w.heap.size + 2) (fun _ => 0)), (5, .val (.int .i64 f)), (6, .val (.bool neg)), (7, .val (.int .i64 z))])
    (fun _ W => PrSt f z neg b a w W) (fun bs => rfl) mixedOk (by kernel_rfl) (by kernel_rfl) (by kernel_rfl) (h1.below (Below.refl _ _).drew) (fun bs W W' h hb => h.below hb) ?_ ?_
  · refine kSt rfl (fun φ hφ => gStep_run rfl ?_) ?_
    · intro ρ W hC hc hf hL
      have e2 : ρ (.tmp 2) = .pointer (some ⟨w.heap.size, 0, none⟩) := hL 2 (by decide +kernel)
      simp [go_sem, hc, hf, e2]
      exact ⟨Below.refl _ _, rfl⟩
    refine kSt rfl (fun φ hφ => gStep_run rfl ?_) ?_
    · intro ρ W hC hc hf hL
      have e13 : ρ (.tmp 13) = .pointer (some ⟨w.heap.size, 0, none⟩) := hL 13 (by decide +kernel)
      have l0 := hC.cf
      simp [go_sem, hc, hf, e13, l0]
      exact ⟨Below.refl _ _, rfl⟩
    refine kSt rfl (fun φ hφ => gStep_run rfl ?_) ?_
    · intro ρ W hC hc hf hL
      have e2 : ρ (.tmp 2) = .pointer (some ⟨w.heap.size, 0, none⟩) := hL 2 (by decide +kernel)
      simp [go_sem, hc, hf, e2]
      exact ⟨Below.refl _ _, rfl⟩
    refine kSt rfl (fun φ hφ => gStep_run rfl ?_) ?_
    · intro ρ W hC hc hf hL
      have e15 : ρ (.tmp 15) = .pointer (some ⟨w.heap.size, 1, none⟩) := hL 15 (by decide +kernel)
      have l0 := hC.cn
      simp [go_sem, hc, hf, e15, l0]
      exact ⟨Below.refl _ _, rfl⟩
    refine kSt rfl (fun φ hφ => gStep_run rfl ?_) ?_
    · intro ρ W hC hc hf hL
      have e2 : ρ (.tmp 2) = .pointer (some ⟨w.heap.size, 0, none⟩) := hL 2 (by decide +kernel)
      simp [go_sem, hc, hf, e2]
      exact ⟨Below.refl _ _, rfl⟩
    refine kSt rfl (fun φ hφ => gStep_run rfl ?_) ?_
    · intro ρ W hC hc hf hL
      have e17 : ρ (.tmp 17) = .pointer (some ⟨w.heap.size, 2, none⟩) := hL 17 (by decide +kernel)
      have l0 := hC.cz
      simp [go_sem, hc, hf, e17, l0]
      exact ⟨Below.refl _ _, rfl⟩
    refine kSt rfl (fun φ hφ => gStep_run rfl ?_) ?_
    · intro ρ W hC hc hf hL
      have e2 : ρ (.tmp 2) = .pointer (some ⟨w.heap.size, 0, none⟩) := hL 2 (by decide +kernel)
      simp [go_sem, hc, hf, e2]
      exact ⟨Below.refl _ _, rfl⟩
    refine kSt rfl (fun φ hφ => gStep_run rfl ?_) ?_
    · intro ρ W hC hc hf hL
      have e19 : ρ (.tmp 19) = .pointer (some ⟨w.heap.size, 3, none⟩) := hL 19 (by decide +kernel)
      have l0 := hC.x0
      have l1 := hC.x1
      have l2 := hC.x2
      have l3 := hC.x3
      have l4 := hC.x4
      have l5 := hC.x5
      have l6 := hC.x6
      have l7 := hC.x7
      simp [go_sem, hc, hf, e19, l0, l1, l2, l3, l4, l5, l6, l7]
      exact ⟨Below.refl _ _, rfl⟩
    refine kSt rfl (fun φ hφ => gStep_run rfl ?_) ?_
    · intro ρ W hC hc hf hL
      have hφ0 : φ 12 = false := hφ 12 (by simp) (by kernel_rfl)
      simp [go_sem, hc, hf]
      refine ⟨below_allocs _ _, ?_⟩
      show (bif φ 12 then SlotIs.box (w.heap.size + 2) (dgl b) else SlotIs.box (w.heap.size + 2) (fun _ => 0)).R _ _
      rw [hφ0]
      exact ⟨_, rfl, hC.wa.lt, liesF_new _ (fun _ => 0) _, fun i => by simp [go_sem]⟩
    refine kSt rfl (fun φ hφ => gStep_run rfl (gRun_move 14 5 (.inr rfl) rfl (by decide +kernel) (fun v w h => h))) ?_
    refine kSt rfl (fun φ hφ => gStep_run rfl (gRun_move 16 6 (.inr rfl) rfl (by decide +kernel) (fun v w h => h))) ?_
    refine kSt rfl (fun φ hφ => gStep_run rfl (gRun_move 18 7 (.inr rfl) rfl (by decide +kernel) (fun v w h => h))) ?_
    refine kStS rfl ⟨rfl, rfl, ?_⟩ ?_
    · intro φ ρ W hφ hC hc hL
      have b8 := hL 8 (by decide +kernel)
      have e20 : ρ (.tmp 20) = .agg #[.int .u64 (dgl (b) 0 : Nat), .int .u64 (dgl (b) 1 : Nat), .int .u64 (dgl (b) 2 : Nat), .int .u64 (dgl (b) 3 : Nat), .int .u64 (dgl (b) 4 : Nat), .int .u64 (dgl (b) 5 : Nat), .int .u64 (dgl (b) 6 : Nat), .int .u64 (dgl (b) 7 : Nat)] := hL 20 (by decide +kernel)
      have b8 : (bif φ 12 then SlotIs.box (w.heap.size + 2) (dgl b) else SlotIs.box (w.heap.size + 2) (fun _ => 0)).R (ρ (.tmp 8)) W := hL 8 (by decide +kernel)
      rw [hφ] at b8
      obtain ⟨p8, e8, q8, l8, z8⟩ := b8
      have hz := l8.1
      have hzl := l8.2
      refine gUpon_of ((((((((W.setCell ⟨p8, 0, none⟩ (.int .u64 (dgl b 0 : Nat))).setCell ⟨p8, 1, none⟩ (.int .u64 (dgl b 1 : Nat))).setCell ⟨p8, 2, none⟩ (.int .u64 (dgl b 2 : Nat))).setCell ⟨p8, 3, none⟩ (.int .u64 (dgl b 3 : Nat))).setCell ⟨p8, 4, none⟩ (.int .u64 (dgl b 4 : Nat))).setCell ⟨p8, 5, none⟩ (.int .u64 (dgl b 5 : Nat))).setCell ⟨p8, 6, none⟩ (.int .u64 (dgl b 6 : Nat))).setCell ⟨p8, 7, none⟩ (.int .u64 (dgl b 7 : Nat))) ?_ (fun _ => ?_)
      · simp [go_sem, hc, e20, e8, hz, hzl, z8, gUpon]
      have hs8 := below_set8 (Below.refl (w.heap.size + 2) W) p8 q8 (.int .u64 (dgl b 0 : Nat)) (.int .u64 (dgl b 1 : Nat)) (.int .u64 (dgl b 2 : Nat)) (.int .u64 (dgl b 3 : Nat)) (.int .u64 (dgl b 4 : Nat)) (.int .u64 (dgl b 5 : Nat)) (.int .u64 (dgl b 6 : Nat)) (.int .u64 (dgl b 7 : Nat))
      refine ⟨hC.under hs8 (by omega), fun t => ?_⟩
      refine (tbl_imp rfl (fun _ => val_imp) (tbl_imp rfl (fun _ => val_imp) (tbl_imp rfl (fun _ => val_imp) (tbl_imp rfl (fun _ => val_imp) (tbl_imp rfl (fun _ => val_imp) (tbl_imp rfl (fun _ => val_imp) (tbl_imp rfl (fun _ => val_imp) (tbl_imp rfl (fun _ => val_imp) (tbl_imp rfl (fun ht h => ?_) (tbl_imp rfl (fun _ => val_imp) (tbl_imp rfl (fun _ => val_imp) (tbl_imp rfl (fun _ => val_imp) tbl_nil_imp))))))))))))
      subst ht
      show (bif (φ 12 || true) then SlotIs.box (w.heap.size + 2) (dgl b) else SlotIs.box (w.heap.size + 2) (fun _ => 0)).R _ _
      rw [Bool.or_true]
      exact ⟨p8, e8, q8, set8_same W p8 (dgl b) (fun _ => 0) l8, fun i => by simpa [go_sem] using z8 i⟩
    exact kSt0
  · intro W hC
    refine gFi 13 rfl ?_
    rintro _ rfl
    refine gFi 14 rfl ?_
    rintro _ rfl
    refine gFi 15 rfl ?_
    rintro _ rfl
    refine gFi 16 rfl ?_
    rintro _ rfl
    refine gFi 17 rfl ?_
    rintro _ rfl
    refine gFi 18 rfl ?_
    rintro _ rfl
    refine gFi 19 rfl ?_
    rintro _ rfl
    refine gFi 20 rfl ?_
    rintro _ rfl
    refine gFi 8 rfl ?_
    rintro u8 b8
    refine gFi 5 rfl ?_
    rintro _ rfl
    refine gFi 6 rfl ?_
    rintro _ rfl
    refine gFi 7 rfl ?_
    rintro _ rfl
    refine gFiN rfl ?_
    refine gFi0 ?_
    simp only [List.drop_succ_cons, List.drop_zero, Act.put, List.setIfInBounds_toArray, List.set_cons_succ, List.set_cons_zero]
    obtain ⟨p8, rfl, _, l8, _⟩ := b8
    have HS : Hid (Mk3 a w W) := hide ⟨hC.g, hC.wa, hC.bel⟩
    have HL := hide l8
    clear hC l8 h1
    have hl := HL.out.1
    go_wp2_with fail
    refine (HM.out _ HS.out.g).mono ?_
    rintro e w2 ⟨rfl, hb2⟩
    replace HS := hide (HS.out.below hb2)
    replace HL := hide (HL.out.below hb2)
    clear hb2 hl
    go_upto_region 3 with fail
    refine wp_gen (fun W => Mk3 a w W ∧ LiesF W p8 (dgl b) ∧ WB W w2.heap.size (0) (0)) ⟨HS.out.below (below_allocs _ _), HL.out.below (below_allocs _ _), wb_new _ _⟩ ?_
    clear HS HL
    generalize w2.heap.size = p9
    rintro W3 ⟨g1, g2, g3⟩
    have HS := hide g1
    have HL := hide g2
    have HQ := hide g3
    clear g1 g2 g3
    go_wp2_with fail
    refine (HIS.out _).mono ?_
    rintro e wl ⟨rfl, hw⟩
    subst wl
    have hz := HZ.out
    go_wp2_with fail
    refine (HEM.out _).mono ?_
    rintro e wl ⟨rfl, hw⟩
    subst wl
    have he1 := HE1.out
    have he2 := HE2.out
    have hz2 := HZ2.out
    have q0 := HQ.out.h
    have q1 := HQ.out.l
    have hs : ∀ w, (Op.equalIn 10000 24 (.agg #[.int .u64 0, .int .u64 0]) (.agg #[.int .u64 0, .int .u64 0])).run Tryd.prog w = .ok true w := fun w => by simpa using word_same 0 0 w
    go_upto_region 8 with fail
    clear q0 q1 hs HQ HL
    have l0 := HS.out.wa.h
    have l1 := HS.out.wa.l
    go_wp2_with fail
    refine (HCL.out _).mono ?_
    rintro e w7 ⟨rfl, hb7⟩
    replace HS := hide (HS.out.below hb7)
    clear hb7 l0 l1
    have hk := HK.out
    go_upto_region 10 with fail
    refine wp_gen (fun W => Mk3 a w W) HS.out ?_
    clear HS hk
    rintro W8 g1
    refine wp_region_storeK 17 [15] [94, 95, 96, 97, 98, 99, 100, 101, 102, 103, 104, 93, 105, 106, 11, 12] (fun bs => [(94, .val (.int .i64 f)), (95, .val (.int .i64 f)), (96, .val (.agg #[.int .u64 (dgl (a) 1 : Nat), .int .u64 (dgl (a) 0 : Nat)])), (97, .val (.bool na)), (98, .val (.int .i64 f)), (99, .val (.agg #[.int .u64 (dgl (a) 1 : Nat), .int .u64 (dgl (a) 0 : Nat)])), (100, .val (.int .i64 (fa : Nat))), (101, .val (.int .i64 f)), (102, .val (.agg #[.int .u64 (dgl (a) 1 : Nat), .int .u64 (dgl (a) 0 : Nat)])), (103, .val (.agg #[.int .u64 (dgl (ra) 0 : Nat), .int .u64 (dgl (ra) 1 : Nat), .int .u64 (dgl (ra) 2 : Nat), .int .u64 (dgl (ra) 3 : Nat), .int .u64 (dgl (ra) 4 : Nat), .int .u64 (dgl (ra) 5 : Nat), .int .u64 (dgl (ra) 6 : Nat), .int .u64 (dgl (ra) 7 : Nat)])), (104, .val (.tuple #[.agg #[.int .u64 (dgl (a) 1 : Nat), .int .u64 (dgl (a) 0 : Nat)], .bool true])), (93, .val (.tuple #[.agg #[.int .u64 (dgl (a) 1 : Nat), .int .u64 (dgl (a) 0 : Nat)], .bool true])), (105, .val (.agg #[.int .u64 (dgl (a) 1 : Nat), .int .u64 (dgl (a) 0 : Nat)])), (106, .val (.bool true)), (11, bif bs.headD false then SlotIs.wbox (w.heap.size + 2) (dgl a 1) (dgl a 0) else SlotIs.wbox (w.heap.size + 2) 0 0), (12, .val (.bool true))])
      (fun _ W => Mk3 a w W) (fun bs => rfl) mixedOk (by kernel_rfl) (by kernel_rfl) (by kernel_rfl) (g1.below (Below.refl _ _).drew) (fun bs W W' h hb => h.below hb) ?_ ?_
    · refine kSt rfl (fun φ hφ => gStep_run rfl (gRun_move 5 94 (.inl rfl) rfl (by decide +kernel) (fun v w h => h))) ?_
      refine kSt rfl (fun φ hφ => gStep_run rfl (gRun_move 5 95 (.inl rfl) rfl (by decide +kernel) (fun v w h => h))) ?_
      refine kSt rfl (fun φ hφ => gStep_run rfl ?_) ?_
      · intro ρ W hC hc hf hL
        have e3 : ρ (.tmp 3) = .pointer (some ⟨w.heap.size + 1, 0, none⟩) := hL 3 (by decide +kernel)
        have l0 := hC.wa.h
        have l1 := hC.wa.l
        simp [go_sem, hc, hf, e3, l0, l1]
        exact ⟨Below.refl _ _, rfl⟩
      refine kSt rfl (fun φ hφ => gStep_run rfl ?_) ?_
      · intro ρ W hC hc hf hL
        have e95 : ρ (.tmp 95) = .int .i64 f := hL 95 (by decide +kernel)
        have e96 : ρ (.tmp 96) = .agg #[.int .u64 (dgl (a) 1 : Nat), .int .u64 (dgl (a) 0 : Nat)] := hL 96 (by decide +kernel)
        simp [go_sem, hc, hf, e95, e96]
        refine (HNA.out W hC.g).mono ?_
        rintro e w' ⟨rfl, hb⟩
        exact ⟨_, rfl, by first | exact hb | (subst hb; exact Below.refl _ _), rfl⟩
      refine kSt rfl (fun φ hφ => gStep_run rfl (gRun_move 5 98 (.inl rfl) rfl (by decide +kernel) (fun v w h => h))) ?_
      refine kSt rfl (fun φ hφ => gStep_run rfl ?_) ?_
      · intro ρ W hC hc hf hL
        have e3 : ρ (.tmp 3) = .pointer (some ⟨w.heap.size + 1, 0, none⟩) := hL 3 (by decide +kernel)
        have l0 := hC.wa.h
        have l1 := hC.wa.l
        simp [go_sem, hc, hf, e3, l0, l1]
        exact ⟨Below.refl _ _, rfl⟩
      refine kSt rfl (fun φ hφ => gStep_run rfl ?_) ?_
      · intro ρ W hC hc hf hL
        have e98 : ρ (.tmp 98) = .int .i64 f := hL 98 (by decide +kernel)
        have e99 : ρ (.tmp 99) = .agg #[.int .u64 (dgl (a) 1 : Nat), .int .u64 (dgl (a) 0 : Nat)] := hL 99 (by decide +kernel)
        simp [go_sem, hc, hf, e98, e99]
        refine (HFA.out W hC.g).mono ?_
        rintro e w' ⟨rfl, hb⟩
        exact ⟨_, rfl, by first | exact hb | (subst hb; exact Below.refl _ _), rfl⟩
      refine kSt rfl (fun φ hφ => gStep_run rfl (gRun_move 5 101 (.inl rfl) rfl (by decide +kernel) (fun v w h => h))) ?_
      refine kSt rfl (fun φ hφ => gStep_run rfl ?_) ?_
      · intro ρ W hC hc hf hL
        have e3 : ρ (.tmp 3) = .pointer (some ⟨w.heap.size + 1, 0, none⟩) := hL 3 (by decide +kernel)
        have l0 := hC.wa.h
        have l1 := hC.wa.l
        simp [go_sem, hc, hf, e3, l0, l1]
        exact ⟨Below.refl _ _, rfl⟩
      refine kSt rfl (fun φ hφ => gStep_run rfl ?_) ?_
      · intro ρ W hC hc hf hL
        have e101 : ρ (.tmp 101) = .int .i64 f := hL 101 (by decide +kernel)
        have e102 : ρ (.tmp 102) = .agg #[.int .u64 (dgl (a) 1 : Nat), .int .u64 (dgl (a) 0 : Nat)] := hL 102 (by decide +kernel)
        simp [go_sem, hc, hf, e101, e102]
        refine (HRA.out W hC.g).mono ?_
        rintro e w' ⟨rfl, hb⟩
        exact ⟨_, rfl, by first | exact hb | (subst hb; exact Below.refl _ _), rfl⟩
      refine kSt rfl (fun φ hφ => gStep_run rfl ?_) ?_
      · intro ρ W hC hc hf hL
        have e94 : ρ (.tmp 94) = .int .i64 f := hL 94 (by decide +kernel)
        have e97 : ρ (.tmp 97) = .bool na := hL 97 (by decide +kernel)
        have e100 : ρ (.tmp 100) = .int .i64 (fa : Nat) := hL 100 (by decide +kernel)
        have e103 : ρ (.tmp 103) = .agg #[.int .u64 (dgl (ra) 0 : Nat), .int .u64 (dgl (ra) 1 : Nat), .int .u64 (dgl (ra) 2 : Nat), .int .u64 (dgl (ra) 3 : Nat), .int .u64 (dgl (ra) 4 : Nat), .int .u64 (dgl (ra) 5 : Nat), .int .u64 (dgl (ra) 6 : Nat), .int .u64 (dgl (ra) 7 : Nat)] := hL 103 (by decide +kernel)
        simp [go_sem, hc, hf, e94, e97, e100, e103]
        refine (HOW.out W hC.g).mono ?_
        rintro e w' ⟨rfl, hb⟩
        exact ⟨_, rfl, by first | exact hb | (subst hb; exact Below.refl _ _), rfl⟩
      refine kSt rfl (fun φ hφ => gStep_run rfl (gRun_move 104 93 (.inl rfl) rfl (by decide +kernel) (fun v w h => h))) ?_
      refine kSt rfl (fun φ hφ => gStep_run rfl ?_) ?_
      · intro ρ W hC hc hf hL
        have e93 : ρ (.tmp 93) = .tuple #[.agg #[.int .u64 (dgl (a) 1 : Nat), .int .u64 (dgl (a) 0 : Nat)], .bool true] := hL 93 (by decide +kernel)
        simp [go_sem, hc, hf, e93]
        exact ⟨Below.refl _ _, rfl⟩
      refine kSt rfl (fun φ hφ => gStep_run rfl ?_) ?_
      · intro ρ W hC hc hf hL
        have e93 : ρ (.tmp 93) = .tuple #[.agg #[.int .u64 (dgl (a) 1 : Nat), .int .u64 (dgl (a) 0 : Nat)], .bool true] := hL 93 (by decide +kernel)
        simp [go_sem, hc, hf, e93]
        exact ⟨Below.refl _ _, rfl⟩
      refine kSt rfl (fun φ hφ => gStep_run rfl ?_) ?_
      · intro ρ W hC hc hf hL
        have hφ0 : φ 15 = false := hφ 15 (by simp) (by kernel_rfl)
        simp [go_sem, hc, hf]
        refine ⟨below_allocs _ _, ?_⟩
        show (bif φ 15 then SlotIs.wbox (w.heap.size + 2) (dgl a 1) (dgl a 0) else SlotIs.wbox (w.heap.size + 2) 0 0).R _ _
        rw [hφ0]
        exact ⟨_, rfl, hC.wa.lt, wb_new _ _, fun i => by simp [go_sem]⟩
      refine kStS rfl ⟨rfl, rfl, ?_⟩ ?_
      · intro φ ρ W hφ hC hc hL
        have b11 := hL 11 (by decide +kernel)
        have e105 : ρ (.tmp 105) = .agg #[.int .u64 (dgl (a) 1 : Nat), .int .u64 (dgl (a) 0 : Nat)] := hL 105 (by decide +kernel)
        have b11 : (bif φ 15 then SlotIs.wbox (w.heap.size + 2) (dgl a 1) (dgl a 0) else SlotIs.wbox (w.heap.size + 2) 0 0).R (ρ (.tmp 11)) W := hL 11 (by decide +kernel)
        rw [hφ] at b11
        obtain ⟨pp, ep, qp, lp, zp⟩ := b11
        have hz := lp.h
        have hy := lp.l
        have hzl := lp.lt
        refine gUpon_of ((W.setCell ⟨pp, 0, none⟩ (.int .u64 (dgl a 1 : Nat))).setCell ⟨pp, 1, none⟩ (.int .u64 (dgl a 0 : Nat))) ?_ (fun _ => ?_)
        · simp [go_sem, hc, e105, ep, hz, hy, hzl, zp, gUpon]
        have hs2 : Below (w.heap.size + 2) W ((W.setCell ⟨pp, 0, none⟩ (.int .u64 (dgl a 1 : Nat))).setCell ⟨pp, 1, none⟩ (.int .u64 (dgl a 0 : Nat))) := ((Below.refl (w.heap.size + 2) W).setCell (p := ⟨pp, 0, none⟩) qp _).setCell (p := ⟨pp, 1, none⟩) qp _
        refine ⟨hC.under hs2, fun t => ?_⟩
        refine (tbl_imp rfl (fun _ => val_imp) (tbl_imp rfl (fun _ => val_imp) (tbl_imp rfl (fun _ => val_imp) (tbl_imp rfl (fun _ => val_imp) (tbl_imp rfl (fun _ => val_imp) (tbl_imp rfl (fun _ => val_imp) (tbl_imp rfl (fun _ => val_imp) (tbl_imp rfl (fun _ => val_imp) (tbl_imp rfl (fun _ => val_imp) (tbl_imp rfl (fun _ => val_imp) (tbl_imp rfl (fun _ => val_imp) (tbl_imp rfl (fun _ => val_imp) (tbl_imp rfl (fun _ => val_imp) (tbl_imp rfl (fun _ => val_imp) (tbl_imp rfl (fun ht h => ?_) (tbl_imp rfl (fun _ => val_imp) tbl_nil_imp))))))))))))))))
        subst ht
        show (bif (φ 15 || true) then SlotIs.wbox (w.heap.size + 2) (dgl a 1) (dgl a 0) else SlotIs.wbox (w.heap.size + 2) 0 0).R _ _
        rw [Bool.or_true]
        exact ⟨pp, ep, qp, wb_set lp, fun i => by simpa [go_sem] using zp i⟩
      refine kSt rfl (fun φ hφ => gStep_run rfl (gRun_move 106 12 (.inr rfl) rfl (by decide +kernel) (fun v w h => h))) ?_
      exact kSt0
    · intro W hC
      refine gFi 94 rfl ?_
      rintro _ rfl
      refine gFi 95 rfl ?_
      rintro _ rfl
      refine gFi 96 rfl ?_
      rintro _ rfl
      refine gFi 97 rfl ?_
      rintro _ rfl
      refine gFi 98 rfl ?_
      rintro _ rfl
      refine gFi 99 rfl ?_
      rintro _ rfl
      refine gFi 100 rfl ?_
      rintro _ rfl
      refine gFi 101 rfl ?_
      rintro _ rfl
      refine gFi 102 rfl ?_
      rintro _ rfl
      refine gFi 103 rfl ?_
      rintro _ rfl
      refine gFi 104 rfl ?_
      rintro _ rfl
      refine gFi 93 rfl ?_
      rintro _ rfl
      refine gFi 105 rfl ?_
      rintro _ rfl
      refine gFi 106 rfl ?_
      rintro _ rfl
      refine gFi 11 rfl ?_
      rintro u11 b11
      refine gFiN rfl ?_
      refine gFi 12 rfl ?_
      rintro _ rfl
      refine gFi0 ?_
      simp only [List.drop_succ_cons, List.drop_zero, Act.put, List.setIfInBounds_toArray, List.set_cons_succ, List.set_cons_zero]
      obtain ⟨p11, rfl, _, l11, _⟩ := b11
      have HS := hide hC
      have HQ := hide l11
      clear hC l11 g1
      have l0 := HS.out.wa.h
      have l1 := HS.out.wa.l
      have m0 := HQ.out.h
      have m1 := HQ.out.l
      have hs := fun w => word_same (dgl a 1) (dgl a 0) w
      go_wp2_with fail
      refine (awake6_any _ HS.out.g).mono ?_
      rintro e w8 ⟨rfl, hb8⟩
      have HB := hide (below_trans HS.out.bel hb8)
      clear hb8 HS l0 l1 m0 m1 hs HQ
      go_wp2
      go_ret
      exact ⟨rfl, HB.out⟩

set_option maxHeartbeats 4000000 in
theorem classMakes_D0 (f z em e1 e2 ln pr p1 : Int) (neg na : Bool) (a b c k fa ra : Nat)
    (HM : Hid (∀ w, FmtG w → Calls Tryd.prog 26 #[.int .i64 f, .bool neg, .int .i64 z, .agg #[.int .u64 (dgl (b) 0 : Nat), .int .u64 (dgl (b) 1 : Nat), .int .u64 (dgl (b) 2 : Nat), .int .u64 (dgl (b) 3 : Nat), .int .u64 (dgl (b) 4 : Nat), .int .u64 (dgl (b) 5 : Nat), .int .u64 (dgl (b) 6 : Nat), .int .u64 (dgl (b) 7 : Nat)]] w fun e w' => e = .returned (.tuple #[.agg #[.int .u64 0, .int .u64 0], .bool false]) ∧ Below w.heap.size w w'))
    (HIS : Hid (∀ w, Calls Tryd.prog 27 #[.int .i64 f] w fun e w' => e = .returned (.bool true) ∧ w' = w))
    (HZ : Hid (¬ z < 0))
    (HEM : Hid (∀ w, Calls Tryd.prog 28 #[.int .i64 f] w fun e w' => e = .returned (.int .i64 em) ∧ w' = w))
    (HE1 : Hid (IntKind.i64.wrap (2 * em) = e1))
    (HE2 : Hid (IntKind.i64.wrap (e1 + 1) = e2))
    (HZ2 : Hid (¬ e2 < z))
    (HBG : Hid (∀ w, Calls Tryd.prog 30 #[.agg #[.int .u64 (dgl (b) 0 : Nat), .int .u64 (dgl (b) 1 : Nat), .int .u64 (dgl (b) 2 : Nat), .int .u64 (dgl (b) 3 : Nat), .int .u64 (dgl (b) 4 : Nat), .int .u64 (dgl (b) 5 : Nat), .int .u64 (dgl (b) 6 : Nat), .int .u64 (dgl (b) 7 : Nat)]] w fun e w' => ∃ v, e = .returned v ∧ BigV w' v b 40 ∧ Below w.heap.size w w'))
    (HLN : Hid (∀ v w, BigV w v b 40 → Calls Tryd.prog 29 #[v] w fun e w' => e = .returned (.int .i64 ln) ∧ w' = w))
    (HPR : Hid (∀ w, Calls Tryd.prog 31 #[.int .i64 f] w fun e w' => e = .returned (.int .i64 pr) ∧ w' = w))
    (HP1 : Hid (IntKind.i64.wrap (pr - 1) = p1))
    (HL2 : Hid (p1 < ln))
    (HCL : Hid (∀ w, Calls Tryd.prog 12 #[.int .i64 f, .agg #[.int .u64 (dgl (a) 1 : Nat), .int .u64 (dgl (a) 0 : Nat)]] w fun e w' => e = .returned (.int .i64 0) ∧ Below w.heap.size w w')) (w : World) (hg : FmtG w) :
    Calls Tryd.prog 4 #[.agg #[.int .i64 f, .bool neg, .int .i64 z, .int .u64 (dgl b 0 : Nat), .int .u64 (dgl b 1 : Nat), .int .u64 (dgl b 2 : Nat), .int .u64 (dgl b 3 : Nat), .int .u64 (dgl b 4 : Nat), .int .u64 (dgl b 5 : Nat), .int .u64 (dgl b 6 : Nat), .int .u64 (dgl b 7 : Nat)], .agg #[.int .u64 (dgl (a) 1 : Nat), .int .u64 (dgl (a) 0 : Nat)]] w fun e w' => e = .returned (.bool true) ∧ Below w.heap.size w w' := by
  have HST := hide (prSt_start f z neg b a w hg)
  clear hg
  go_enter Tryd.func4, Tryd.ntmps4
  go_upto_region 1 with fail
  refine wp_gen (fun W => PrSt f z neg b a w W) HST.out ?_
  clear HST
  rintro W1 h1
  refine wp_region_storeK 13 [12] [13, 14, 15, 16, 17, 18, 19, 20, 8, 5, 6, 7] (fun bs => [(13, .val (.pointer (some ⟨w.heap.size, 0, none⟩))), (14, .val (.int .i64 f)), (15, .val (.pointer (some ⟨w.heap.size, 1, none⟩))), (16, .val (.bool neg)), (17, .val (.pointer (some ⟨w.heap.size, 2, none⟩))), (18, .val (.int .i64 z)), (19, .val (.pointer (some ⟨w.heap.size, 3, none⟩))), (20, .val (.agg #[.int .u64 (dgl (b) 0 : Nat), .int .u64 (dgl (b) 1 : Nat), .int .u64 (dgl (b) 2 : Nat), .int .u64 (dgl (b) 3 : Nat), .int .u64 (dgl (b) 4 : Nat), .int .u64 (dgl (b) 5 : Nat), .int .u64 (dgl (b) 6 : Nat), .int .u64 (dgl (b) 7 : Nat)])), (8, bif bs.headD false then SlotIs.box (w.heap.size + 2) (dgl b) else SlotIs.box (w.heap.size + 2) (fun _ => 0)), (5, .val (.int .i64 f)), (6, .val (.bool neg)), (7, .val (.int .i64 z))])
    (fun _ W => PrSt f z neg b a w W) (fun bs => rfl) mixedOk (by kernel_rfl) (by kernel_rfl) (by kernel_rfl) (h1.below (Below.refl _ _).drew) (fun bs W W' h hb => h.below hb) ?_ ?_
  · refine kSt rfl (fun φ hφ => gStep_run rfl ?_) ?_
    · intro ρ W hC hc hf hL
      have e2 : ρ (.tmp 2) = .pointer (some ⟨w.heap.size, 0, none⟩) := hL 2 (by decide +kernel)
      simp [go_sem, hc, hf, e2]
      exact ⟨Below.refl _ _, rfl⟩
    refine kSt rfl (fun φ hφ => gStep_run rfl ?_) ?_
    · intro ρ W hC hc hf hL
      have e13 : ρ (.tmp 13) = .pointer (some ⟨w.heap.size, 0, none⟩) := hL 13 (by decide +kernel)
      have l0 := hC.cf
      simp [go_sem, hc, hf, e13, l0]
      exact ⟨Below.refl _ _, rfl⟩
    refine kSt rfl (fun φ hφ => gStep_run rfl ?_) ?_
    · intro ρ W hC hc hf hL
      have e2 : ρ (.tmp 2) = .pointer (some ⟨w.heap.size, 0, none⟩) := hL 2 (by decide +kernel)
      simp [go_sem, hc, hf, e2]
      exact ⟨Below.refl _ _, rfl⟩
    refine kSt rfl (fun φ hφ => gStep_run rfl ?_) ?_
    · intro ρ W hC hc hf hL
      have e15 : ρ (.tmp 15) = .pointer (some ⟨w.heap.size, 1, none⟩) := hL 15 (by decide +kernel)
      have l0 := hC.cn
      simp [go_sem, hc, hf, e15, l0]
      exact ⟨Below.refl _ _, rfl⟩
    refine kSt rfl (fun φ hφ => gStep_run rfl ?_) ?_
    · intro ρ W hC hc hf hL
      have e2 : ρ (.tmp 2) = .pointer (some ⟨w.heap.size, 0, none⟩) := hL 2 (by decide +kernel)
      simp [go_sem, hc, hf, e2]
      exact ⟨Below.refl _ _, rfl⟩
    refine kSt rfl (fun φ hφ => gStep_run rfl ?_) ?_
    · intro ρ W hC hc hf hL
      have e17 : ρ (.tmp 17) = .pointer (some ⟨w.heap.size, 2, none⟩) := hL 17 (by decide +kernel)
      have l0 := hC.cz
      simp [go_sem, hc, hf, e17, l0]
      exact ⟨Below.refl _ _, rfl⟩
    refine kSt rfl (fun φ hφ => gStep_run rfl ?_) ?_
    · intro ρ W hC hc hf hL
      have e2 : ρ (.tmp 2) = .pointer (some ⟨w.heap.size, 0, none⟩) := hL 2 (by decide +kernel)
      simp [go_sem, hc, hf, e2]
      exact ⟨Below.refl _ _, rfl⟩
    refine kSt rfl (fun φ hφ => gStep_run rfl ?_) ?_
    · intro ρ W hC hc hf hL
      have e19 : ρ (.tmp 19) = .pointer (some ⟨w.heap.size, 3, none⟩) := hL 19 (by decide +kernel)
      have l0 := hC.x0
      have l1 := hC.x1
      have l2 := hC.x2
      have l3 := hC.x3
      have l4 := hC.x4
      have l5 := hC.x5
      have l6 := hC.x6
      have l7 := hC.x7
      simp [go_sem, hc, hf, e19, l0, l1, l2, l3, l4, l5, l6, l7]
      exact ⟨Below.refl _ _, rfl⟩
    refine kSt rfl (fun φ hφ => gStep_run rfl ?_) ?_
    · intro ρ W hC hc hf hL
      have hφ0 : φ 12 = false := hφ 12 (by simp) (by kernel_rfl)
      simp [go_sem, hc, hf]
      refine ⟨below_allocs _ _, ?_⟩
      show (bif φ 12 then SlotIs.box (w.heap.size + 2) (dgl b) else SlotIs.box (w.heap.size + 2) (fun _ => 0)).R _ _
      rw [hφ0]
      exact ⟨_, rfl, hC.wa.lt, liesF_new _ (fun _ => 0) _, fun i => by simp [go_sem]⟩
    refine kSt rfl (fun φ hφ => gStep_run rfl (gRun_move 14 5 (.inr rfl) rfl (by decide +kernel) (fun v w h => h))) ?_
    refine kSt rfl (fun φ hφ => gStep_run rfl (gRun_move 16 6 (.inr rfl) rfl (by decide +kernel) (fun v w h => h))) ?_
    refine kSt rfl (fun φ hφ => gStep_run rfl (gRun_move 18 7 (.inr rfl) rfl (by decide +kernel) (fun v w h => h))) ?_
    refine kStS rfl ⟨rfl, rfl, ?_⟩ ?_
    · intro φ ρ W hφ hC hc hL
      have b8 := hL 8 (by decide +kernel)
      have e20 : ρ (.tmp 20) = .agg #[.int .u64 (dgl (b) 0 : Nat), .int .u64 (dgl (b) 1 : Nat), .int .u64 (dgl (b) 2 : Nat), .int .u64 (dgl (b) 3 : Nat), .int .u64 (dgl (b) 4 : Nat), .int .u64 (dgl (b) 5 : Nat), .int .u64 (dgl (b) 6 : Nat), .int .u64 (dgl (b) 7 : Nat)] := hL 20 (by decide +kernel)
      have b8 : (bif φ 12 then SlotIs.box (w.heap.size + 2) (dgl b) else SlotIs.box (w.heap.size + 2) (fun _ => 0)).R (ρ (.tmp 8)) W := hL 8 (by decide +kernel)
      rw [hφ] at b8
      obtain ⟨p8, e8, q8, l8, z8⟩ := b8
      have hz := l8.1
      have hzl := l8.2
      refine gUpon_of ((((((((W.setCell ⟨p8, 0, none⟩ (.int .u64 (dgl b 0 : Nat))).setCell ⟨p8, 1, none⟩ (.int .u64 (dgl b 1 : Nat))).setCell ⟨p8, 2, none⟩ (.int .u64 (dgl b 2 : Nat))).setCell ⟨p8, 3, none⟩ (.int .u64 (dgl b 3 : Nat))).setCell ⟨p8, 4, none⟩ (.int .u64 (dgl b 4 : Nat))).setCell ⟨p8, 5, none⟩ (.int .u64 (dgl b 5 : Nat))).setCell ⟨p8, 6, none⟩ (.int .u64 (dgl b 6 : Nat))).setCell ⟨p8, 7, none⟩ (.int .u64 (dgl b 7 : Nat))) ?_ (fun _ => ?_)
      · simp [go_sem, hc, e20, e8, hz, hzl, z8, gUpon]
      have hs8 := below_set8 (Below.refl (w.heap.size + 2) W) p8 q8 (.int .u64 (dgl b 0 : Nat)) (.int .u64 (dgl b 1 : Nat)) (.int .u64 (dgl b 2 : Nat)) (.int .u64 (dgl b 3 : Nat)) (.int .u64 (dgl b 4 : Nat)) (.int .u64 (dgl b 5 : Nat)) (.int .u64 (dgl b 6 : Nat)) (.int .u64 (dgl b 7 : Nat))
      refine ⟨hC.under hs8 (by omega), fun t => ?_⟩
      refine (tbl_imp rfl (fun _ => val_imp) (tbl_imp rfl (fun _ => val_imp) (tbl_imp rfl (fun _ => val_imp) (tbl_imp rfl (fun _ => val_imp) (tbl_imp rfl (fun _ => val_imp) (tbl_imp rfl (fun _ => val_imp) (tbl_imp rfl (fun _ => val_imp) (tbl_imp rfl (fun _ => val_imp) (tbl_imp rfl (fun ht h => ?_) (tbl_imp rfl (fun _ => val_imp) (tbl_imp rfl (fun _ => val_imp) (tbl_imp rfl (fun _ => val_imp) tbl_nil_imp))))))))))))
      subst ht
      show (bif (φ 12 || true) then SlotIs.box (w.heap.size + 2) (dgl b) else SlotIs.box (w.heap.size + 2) (fun _ => 0)).R _ _
      rw [Bool.or_true]
      exact ⟨p8, e8, q8, set8_same W p8 (dgl b) (fun _ => 0) l8, fun i => by simpa [go_sem] using z8 i⟩
    exact kSt0
  · intro W hC
    refine gFi 13 rfl ?_
    rintro _ rfl
    refine gFi 14 rfl ?_
    rintro _ rfl
    refine gFi 15 rfl ?_
    rintro _ rfl
    refine gFi 16 rfl ?_
    rintro _ rfl
    refine gFi 17 rfl ?_
    rintro _ rfl
    refine gFi 18 rfl ?_
    rintro _ rfl
    refine gFi 19 rfl ?_
    rintro _ rfl
    refine gFi 20 rfl ?_
    rintro _ rfl
    refine gFi 8 rfl ?_
    rintro u8 b8
    refine gFi 5 rfl ?_
    rintro _ rfl
    refine gFi 6 rfl ?_
    rintro _ rfl
    refine gFi 7 rfl ?_
    rintro _ rfl
    refine gFiN rfl ?_
    refine gFi0 ?_
    simp only [List.drop_succ_cons, List.drop_zero, Act.put, List.setIfInBounds_toArray, List.set_cons_succ, List.set_cons_zero]
    obtain ⟨p8, rfl, _, l8, _⟩ := b8
    have HS : Hid (Mk3 a w W) := hide ⟨hC.g, hC.wa, hC.bel⟩
    have HL := hide l8
    clear hC l8 h1
    have hl := HL.out.1
    go_wp2_with fail
    refine (HM.out _ HS.out.g).mono ?_
    rintro e w2 ⟨rfl, hb2⟩
    replace HS := hide (HS.out.below hb2)
    replace HL := hide (HL.out.below hb2)
    clear hb2 hl
    go_upto_region 3 with fail
    refine wp_gen (fun W => Mk3 a w W ∧ LiesF W p8 (dgl b) ∧ WB W w2.heap.size (0) (0)) ⟨HS.out.below (below_allocs _ _), HL.out.below (below_allocs _ _), wb_new _ _⟩ ?_
    clear HS HL
    generalize w2.heap.size = p9
    rintro W3 ⟨g1, g2, g3⟩
    have HS := hide g1
    have HL := hide g2
    have HQ := hide g3
    clear g1 g2 g3
    go_wp2_with fail
    refine (HIS.out _).mono ?_
    rintro e wl ⟨rfl, hw⟩
    subst wl
    have hz := HZ.out
    go_wp2_with fail
    refine (HEM.out _).mono ?_
    rintro e wl ⟨rfl, hw⟩
    subst wl
    have he1 := HE1.out
    have he2 := HE2.out
    have hz2 := HZ2.out
    have hl := HL.out.1
    go_wp2_with fail
    refine (HBG.out _).mono ?_
    rintro e w4 ⟨v4, rfl, hv4, hb4⟩
    replace HS := hide (HS.out.below hb4)
    replace HL := hide (HL.out.below hb4)
    replace HQ := hide (HQ.out.below hb4)
    have HV := hide hv4
    clear hb4 hv4 hl
    go_wp2_with fail
    refine (HLN.out _ _ HV.out).mono ?_
    rintro e wl ⟨rfl, hw⟩
    subst wl
    clear HV
    go_wp2_with fail
    refine (HPR.out _).mono ?_
    rintro e wl ⟨rfl, hw⟩
    subst wl
    have hp1 := HP1.out
    have hl2 := HL2.out
    have q0 := HQ.out.h
    have q1 := HQ.out.l
    have hs : ∀ w, (Op.equalIn 10000 24 (.agg #[.int .u64 0, .int .u64 0]) (.agg #[.int .u64 0, .int .u64 0])).run Tryd.prog w = .ok true w := fun w => by simpa using word_same 0 0 w
    go_upto_region 8 with fail
    clear q0 q1 hs HQ HL
    have l0 := HS.out.wa.h
    have l1 := HS.out.wa.l
    go_wp2_with fail
    refine (HCL.out _).mono ?_
    rintro e w7 ⟨rfl, hb7⟩
    replace HS := hide (HS.out.below hb7)
    clear hb7 l0 l1
    go_wp2_with fail
    refine (awake6_any _ HS.out.g).mono ?_
    rintro e w8 ⟨rfl, hb8⟩
    have HB := hide (below_trans HS.out.bel hb8)
    clear hb8 HS
    go_wp2
    go_ret
    exact ⟨rfl, HB.out⟩

set_option maxHeartbeats 4000000 in
theorem classMakes_D1 (f z em e1 e2 ln pr p1 : Int) (neg na : Bool) (a b c k fa ra : Nat)
    (HM : Hid (∀ w, FmtG w → Calls Tryd.prog 26 #[.int .i64 f, .bool neg, .int .i64 z, .agg #[.int .u64 (dgl (b) 0 : Nat), .int .u64 (dgl (b) 1 : Nat), .int .u64 (dgl (b) 2 : Nat), .int .u64 (dgl (b) 3 : Nat), .int .u64 (dgl (b) 4 : Nat), .int .u64 (dgl (b) 5 : Nat), .int .u64 (dgl (b) 6 : Nat), .int .u64 (dgl (b) 7 : Nat)]] w fun e w' => e = .returned (.tuple #[.agg #[.int .u64 0, .int .u64 0], .bool false]) ∧ Below w.heap.size w w'))
    (HIS : Hid (∀ w, Calls Tryd.prog 27 #[.int .i64 f] w fun e w' => e = .returned (.bool true) ∧ w' = w))
    (HZ : Hid (¬ z < 0))
    (HEM : Hid (∀ w, Calls Tryd.prog 28 #[.int .i64 f] w fun e w' => e = .returned (.int .i64 em) ∧ w' = w))
    (HE1 : Hid (IntKind.i64.wrap (2 * em) = e1))
    (HE2 : Hid (IntKind.i64.wrap (e1 + 1) = e2))
    (HZ2 : Hid (¬ e2 < z))
    (HBG : Hid (∀ w, Calls Tryd.prog 30 #[.agg #[.int .u64 (dgl (b) 0 : Nat), .int .u64 (dgl (b) 1 : Nat), .int .u64 (dgl (b) 2 : Nat), .int .u64 (dgl (b) 3 : Nat), .int .u64 (dgl (b) 4 : Nat), .int .u64 (dgl (b) 5 : Nat), .int .u64 (dgl (b) 6 : Nat), .int .u64 (dgl (b) 7 : Nat)]] w fun e w' => ∃ v, e = .returned v ∧ BigV w' v b 40 ∧ Below w.heap.size w w'))
    (HLN : Hid (∀ v w, BigV w v b 40 → Calls Tryd.prog 29 #[v] w fun e w' => e = .returned (.int .i64 ln) ∧ w' = w))
    (HPR : Hid (∀ w, Calls Tryd.prog 31 #[.int .i64 f] w fun e w' => e = .returned (.int .i64 pr) ∧ w' = w))
    (HP1 : Hid (IntKind.i64.wrap (pr - 1) = p1))
    (HL2 : Hid (p1 < ln))
    (HCL : Hid (∀ w, Calls Tryd.prog 12 #[.int .i64 f, .agg #[.int .u64 (dgl (a) 1 : Nat), .int .u64 (dgl (a) 0 : Nat)]] w fun e w' => e = .returned (.int .i64 (k : Nat)) ∧ Below w.heap.size w w'))
    (HK : Hid (((k : Nat) : Int) ≠ 0))
    (HNA : Hid (∀ w, FmtG w → Calls Tryd.prog 16 #[.int .i64 f, .agg #[.int .u64 (dgl (a) 1 : Nat), .int .u64 (dgl (a) 0 : Nat)]] w fun e w' => e = .returned (.bool na) ∧ Below w.heap.size w w'))
    (HFA : Hid (∀ w, FmtG w → Calls Tryd.prog 18 #[.int .i64 f, .agg #[.int .u64 (dgl (a) 1 : Nat), .int .u64 (dgl (a) 0 : Nat)]] w fun e w' => e = .returned (.int .i64 (fa : Nat)) ∧ Below w.heap.size w w'))
    (HRA : Hid (∀ w, FmtG w → Calls Tryd.prog 19 #[.int .i64 f, .agg #[.int .u64 (dgl (a) 1 : Nat), .int .u64 (dgl (a) 0 : Nat)]] w fun e w' => e = .returned (.agg #[.int .u64 (dgl (ra) 0 : Nat), .int .u64 (dgl (ra) 1 : Nat), .int .u64 (dgl (ra) 2 : Nat), .int .u64 (dgl (ra) 3 : Nat), .int .u64 (dgl (ra) 4 : Nat), .int .u64 (dgl (ra) 5 : Nat), .int .u64 (dgl (ra) 6 : Nat), .int .u64 (dgl (ra) 7 : Nat)]) ∧ Below w.heap.size w w'))
    (HOW : Hid (∀ w, FmtG w → Calls Tryd.prog 26 #[.int .i64 f, .bool na, .int .i64 (fa : Nat), .agg #[.int .u64 (dgl (ra) 0 : Nat), .int .u64 (dgl (ra) 1 : Nat), .int .u64 (dgl (ra) 2 : Nat), .int .u64 (dgl (ra) 3 : Nat), .int .u64 (dgl (ra) 4 : Nat), .int .u64 (dgl (ra) 5 : Nat), .int .u64 (dgl (ra) 6 : Nat), .int .u64 (dgl (ra) 7 : Nat)]] w fun e w' => e = .returned (.tuple #[.agg #[.int .u64 (dgl (a) 1 : Nat), .int .u64 (dgl (a) 0 : Nat)], .bool true]) ∧ Below w.heap.size w w')) (w : World) (hg : FmtG w) :
    Calls Tryd.prog 4 #[.agg #[.int .i64 f, .bool neg, .int .i64 z, .int .u64 (dgl b 0 : Nat), .int .u64 (dgl b 1 : Nat), .int .u64 (dgl b 2 : Nat), .int .u64 (dgl b 3 : Nat), .int .u64 (dgl b 4 : Nat), .int .u64 (dgl b 5 : Nat), .int .u64 (dgl b 6 : Nat), .int .u64 (dgl b 7 : Nat)], .agg #[.int .u64 (dgl (a) 1 : Nat), .int .u64 (dgl (a) 0 : Nat)]] w fun e w' => e = .returned (.bool true) ∧ Below w.heap.size w w' := by
  have HST := hide (prSt_start f z neg b a w hg)
  clear hg
  go_enter Tryd.func4, Tryd.ntmps4
  go_upto_region 1 with fail
  refine wp_gen (fun W => PrSt f z neg b a w W) HST.out ?_
  clear HST
  rintro W1 h1
  refine wp_region_storeK 13 [12] [13, 14, 15, 16, 17, 18, 19, 20, 8, 5, 6, 7] (fun bs => [(13, .val (.pointer (some ⟨w.heap.size, 0, none⟩))), (14, .val (.int .i64 f)), (15, .val (.pointer (some ⟨w.heap.size, 1, none⟩))), (16, .val (.bool neg)), (17, .val (.pointer (some ⟨w.heap.size, 2, none⟩))), (18, .val (.int .i64 z)), (19, .val (.pointer (some ⟨w.heap.size, 3, none⟩))), (20, .val (.agg #[.int .u64 (dgl (b) 0 : Nat), .int .u64 (dgl (b) 1 : Nat), .int .u64 (dgl (b) 2 : Nat), .int .u64 (dgl (b) 3 : Nat), .int .u64 (dgl (b) 4 : Nat), .int .u64 (dgl (b) 5 : Nat), .int .u64 (dgl (b) 6 : Nat), .int .u64 (dgl (b) 7 : Nat)])), (8, bif bs.headD false then SlotIs.box (w.heap.size + 2) (dgl b) else SlotIs.box (w.heap.size + 2) (fun _ => 0)), (5, .val (.int .i64 f)), (6, .val (.bool neg)), (7, .val (.int .i64 z))])
    (fun _ W => PrSt f z neg b a w W) (fun bs => rfl) mixedOk (by kernel_rfl) (by kernel_rfl) (by kernel_rfl) (h1.below (Below.refl _ _).drew) (fun bs W W' h hb => h.below hb) ?_ ?_
  · refine kSt rfl (fun φ hφ => gStep_run rfl ?_) ?_
    · intro ρ W hC hc hf hL
      have e2 : ρ (.tmp 2) = .pointer (some ⟨w.heap.size, 0, none⟩) := hL 2 (by decide +kernel)
      simp [go_sem, hc, hf, e2]
      exact ⟨Below.refl _ _, rfl⟩
    refine kSt rfl (fun φ hφ => gStep_run rfl ?_) ?_
    · intro ρ W hC hc hf hL
      have e13 : ρ (.tmp 13) = .pointer (some ⟨w.heap.size, 0, none⟩) := hL 13 (by decide +kernel)
      have l0 := hC.cf
      simp [go_sem, hc, hf, e13, l0]
      exact ⟨Below.refl _ _, rfl⟩
    refine kSt rfl (fun φ hφ => gStep_run rfl ?_) ?_
    · intro ρ W hC hc hf hL
      have e2 : ρ (.tmp 2) = .pointer (some ⟨w.heap.size, 0, none⟩) := hL 2 (by decide +kernel)
      simp [go_sem, hc, hf, e2]
      exact ⟨Below.refl _ _, rfl⟩
    refine kSt rfl (fun φ hφ => gStep_run rfl ?_) ?_
    · intro ρ W hC hc hf hL
      have e15 : ρ (.tmp 15) = .pointer (some ⟨w.heap.size, 1, none⟩) := hL 15 (by decide +kernel)
      have l0 := hC.cn
      simp [go_sem, hc, hf, e15, l0]
      exact ⟨Below.refl _ _, rfl⟩
    refine kSt rfl (fun φ hφ => gStep_run rfl ?_) ?_
    · intro ρ W hC hc hf hL
      have e2 : ρ (.tmp 2) = .pointer (some ⟨w.heap.size, 0, none⟩) := hL 2 (by decide +kernel)
      simp [go_sem, hc, hf, e2]
      exact ⟨Below.refl _ _, rfl⟩
    refine kSt rfl (fun φ hφ => gStep_run rfl ?_) ?_
    · intro ρ W hC hc hf hL
      have e17 : ρ (.tmp 17) = .pointer (some ⟨w.heap.size, 2, none⟩) := hL 17 (by decide +kernel)
      have l0 := hC.cz
      simp [go_sem, hc, hf, e17, l0]
      exact ⟨Below.refl _ _, rfl⟩
    refine kSt rfl (fun φ hφ => gStep_run rfl ?_) ?_
    · intro ρ W hC hc hf hL
      have e2 : ρ (.tmp 2) = .pointer (some ⟨w.heap.size, 0, none⟩) := hL 2 (by decide +kernel)
      simp [go_sem, hc, hf, e2]
      exact ⟨Below.refl _ _, rfl⟩
    refine kSt rfl (fun φ hφ => gStep_run rfl ?_) ?_
    · intro ρ W hC hc hf hL
      have e19 : ρ (.tmp 19) = .pointer (some ⟨w.heap.size, 3, none⟩) := hL 19 (by decide +kernel)
      have l0 := hC.x0
      have l1 := hC.x1
      have l2 := hC.x2
      have l3 := hC.x3
      have l4 := hC.x4
      have l5 := hC.x5
      have l6 := hC.x6
      have l7 := hC.x7
      simp [go_sem, hc, hf, e19, l0, l1, l2, l3, l4, l5, l6, l7]
      exact ⟨Below.refl _ _, rfl⟩
    refine kSt rfl (fun φ hφ => gStep_run rfl ?_) ?_
    · intro ρ W hC hc hf hL
      have hφ0 : φ 12 = false := hφ 12 (by simp) (by kernel_rfl)
      simp [go_sem, hc, hf]
      refine ⟨below_allocs _ _, ?_⟩
      show (bif φ 12 then SlotIs.box (w.heap.size + 2) (dgl b) else SlotIs.box (w.heap.size + 2) (fun _ => 0)).R _ _
      rw [hφ0]
      exact ⟨_, rfl, hC.wa.lt, liesF_new _ (fun _ => 0) _, fun i => by simp [go_sem]⟩
    refine kSt rfl (fun φ hφ => gStep_run rfl (gRun_move 14 5 (.inr rfl) rfl (by decide +kernel) (fun v w h => h))) ?_
    refine kSt rfl (fun φ hφ => gStep_run rfl (gRun_move 16 6 (.inr rfl) rfl (by decide +kernel) (fun v w h => h))) ?_
    refine kSt rfl (fun φ hφ => gStep_run rfl (gRun_move 18 7 (.inr rfl) rfl (by decide +kernel) (fun v w h => h))) ?_
    refine kStS rfl ⟨rfl, rfl, ?_⟩ ?_
    · intro φ ρ W hφ hC hc hL
      have b8 := hL 8 (by decide +kernel)
      have e20 : ρ (.tmp 20) = .agg #[.int .u64 (dgl (b) 0 : Nat), .int .u64 (dgl (b) 1 : Nat), .int .u64 (dgl (b) 2 : Nat), .int .u64 (dgl (b) 3 : Nat), .int .u64 (dgl (b) 4 : Nat), .int .u64 (dgl (b) 5 : Nat), .int .u64 (dgl (b) 6 : Nat), .int .u64 (dgl (b) 7 : Nat)] := hL 20 (by decide +kernel)
      have b8 : (bif φ 12 then SlotIs.box (w.heap.size + 2) (dgl b) else SlotIs.box (w.heap.size + 2) (fun _ => 0)).R (ρ (.tmp 8)) W := hL 8 (by decide +kernel)
      rw [hφ] at b8
      obtain ⟨p8, e8, q8, l8, z8⟩ := b8
      have hz := l8.1
      have hzl := l8.2
      refine gUpon_of ((((((((W.setCell ⟨p8, 0, none⟩ (.int .u64 (dgl b 0 : Nat))).setCell ⟨p8, 1, none⟩ (.int .u64 (dgl b 1 : Nat))).setCell ⟨p8, 2, none⟩ (.int .u64 (dgl b 2 : Nat))).setCell ⟨p8, 3, none⟩ (.int .u64 (dgl b 3 : Nat))).setCell ⟨p8, 4, none⟩ (.int .u64 (dgl b 4 : Nat))).setCell ⟨p8, 5, none⟩ (.int .u64 (dgl b 5 : Nat))).setCell ⟨p8, 6, none⟩ (.int .u64 (dgl b 6 : Nat))).setCell ⟨p8, 7, none⟩ (.int .u64 (dgl b 7 : Nat))) ?_ (fun _ => ?_)
      · simp [go_sem, hc, e20, e8, hz, hzl, z8, gUpon]
      have hs8 := below_set8 (Below.refl (w.heap.size + 2) W) p8 q8 (.int .u64 (dgl b 0 : Nat)) (.int .u64 (dgl b 1 : Nat)) (.int .u64 (dgl b 2 : Nat)) (.int .u64 (dgl b 3 : Nat)) (.int .u64 (dgl b 4 : Nat)) (.int .u64 (dgl b 5 : Nat)) (.int .u64 (dgl b 6 : Nat)) (.int .u64 (dgl b 7 : Nat))
      refine ⟨hC.under hs8 (by omega), fun t => ?_⟩
      refine (tbl_imp rfl (fun _ => val_imp) (tbl_imp rfl (fun _ => val_imp) (tbl_imp rfl (fun _ => val_imp) (tbl_imp rfl (fun _ => val_imp) (tbl_imp rfl (fun _ => val_imp) (tbl_imp rfl (fun _ => val_imp) (tbl_imp rfl (fun _ => val_imp) (tbl_imp rfl (fun _ => val_imp) (tbl_imp rfl (fun ht h => ?_) (tbl_imp rfl (fun _ => val_imp) (tbl_imp rfl (fun _ => val_imp) (tbl_imp rfl (fun _ => val_imp) tbl_nil_imp))))))))))))
      subst ht
      show (bif (φ 12 || true) then SlotIs.box (w.heap.size + 2) (dgl b) else SlotIs.box (w.heap.size + 2) (fun _ => 0)).R _ _
      rw [Bool.or_true]
      exact ⟨p8, e8, q8, set8_same W p8 (dgl b) (fun _ => 0) l8, fun i => by simpa [go_sem] using z8 i⟩
    exact kSt0
  · intro W hC
    refine gFi 13 rfl ?_
    rintro _ rfl
    refine gFi 14 rfl ?_
    rintro _ rfl
    refine gFi 15 rfl ?_
    rintro _ rfl
    refine gFi 16 rfl ?_
    rintro _ rfl
    refine gFi 17 rfl ?_
    rintro _ rfl
    refine gFi 18 rfl ?_
    rintro _ rfl
    refine gFi 19 rfl ?_
    rintro _ rfl
    refine gFi 20 rfl ?_
    rintro _ rfl
    refine gFi 8 rfl ?_
    rintro u8 b8
    refine gFi 5 rfl ?_
    rintro _ rfl
    refine gFi 6 rfl ?_
    rintro _ rfl
    refine gFi 7 rfl ?_
    rintro _ rfl
    refine gFiN rfl ?_
    refine gFi0 ?_
    simp only [List.drop_succ_cons, List.drop_zero, Act.put, List.setIfInBounds_toArray, List.set_cons_succ, List.set_cons_zero]
    obtain ⟨p8, rfl, _, l8, _⟩ := b8
    have HS : Hid (Mk3 a w W) := hide ⟨hC.g, hC.wa, hC.bel⟩
    have HL := hide l8
    clear hC l8 h1
    have hl := HL.out.1
    go_wp2_with fail
    refine (HM.out _ HS.out.g).mono ?_
    rintro e w2 ⟨rfl, hb2⟩
    replace HS := hide (HS.out.below hb2)
    replace HL := hide (HL.out.below hb2)
    clear hb2 hl
    go_upto_region 3 with fail
    refine wp_gen (fun W => Mk3 a w W ∧ LiesF W p8 (dgl b) ∧ WB W w2.heap.size (0) (0)) ⟨HS.out.below (below_allocs _ _), HL.out.below (below_allocs _ _), wb_new _ _⟩ ?_
    clear HS HL
    generalize w2.heap.size = p9
    rintro W3 ⟨g1, g2, g3⟩
    have HS := hide g1
    have HL := hide g2
    have HQ := hide g3
    clear g1 g2 g3
    go_wp2_with fail
    refine (HIS.out _).mono ?_
    rintro e wl ⟨rfl, hw⟩
    subst wl
    have hz := HZ.out
    go_wp2_with fail
    refine (HEM.out _).mono ?_
    rintro e wl ⟨rfl, hw⟩
    subst wl
    have he1 := HE1.out
    have he2 := HE2.out
    have hz2 := HZ2.out
    have hl := HL.out.1
    go_wp2_with fail
    refine (HBG.out _).mono ?_
    rintro e w4 ⟨v4, rfl, hv4, hb4⟩
    replace HS := hide (HS.out.below hb4)
    replace HL := hide (HL.out.below hb4)
    replace HQ := hide (HQ.out.below hb4)
    have HV := hide hv4
    clear hb4 hv4 hl
    go_wp2_with fail
    refine (HLN.out _ _ HV.out).mono ?_
    rintro e wl ⟨rfl, hw⟩
    subst wl
    clear HV
    go_wp2_with fail
    refine (HPR.out _).mono ?_
    rintro e wl ⟨rfl, hw⟩
    subst wl
    have hp1 := HP1.out
    have hl2 := HL2.out
    have q0 := HQ.out.h
    have q1 := HQ.out.l
    have hs : ∀ w, (Op.equalIn 10000 24 (.agg #[.int .u64 0, .int .u64 0]) (.agg #[.int .u64 0, .int .u64 0])).run Tryd.prog w = .ok true w := fun w => by simpa using word_same 0 0 w
    go_upto_region 8 with fail
    clear q0 q1 hs HQ HL
    have l0 := HS.out.wa.h
    have l1 := HS.out.wa.l
    go_wp2_with fail
    refine (HCL.out _).mono ?_
    rintro e w7 ⟨rfl, hb7⟩
    replace HS := hide (HS.out.below hb7)
    clear hb7 l0 l1
    have hk := HK.out
    go_upto_region 10 with fail
    refine wp_gen (fun W => Mk3 a w W) HS.out ?_
    clear HS hk
    rintro W8 g1
    refine wp_region_storeK 17 [15] [94, 95, 96, 97, 98, 99, 100, 101, 102, 103, 104, 93, 105, 106, 11, 12] (fun bs => [(94, .val (.int .i64 f)), (95, .val (.int .i64 f)), (96, .val (.agg #[.int .u64 (dgl (a) 1 : Nat), .int .u64 (dgl (a) 0 : Nat)])), (97, .val (.bool na)), (98, .val (.int .i64 f)), (99, .val (.agg #[.int .u64 (dgl (a) 1 : Nat), .int .u64 (dgl (a) 0 : Nat)])), (100, .val (.int .i64 (fa : Nat))), (101, .val (.int .i64 f)), (102, .val (.agg #[.int .u64 (dgl (a) 1 : Nat), .int .u64 (dgl (a) 0 : Nat)])), (103, .val (.agg #[.int .u64 (dgl (ra) 0 : Nat), .int .u64 (dgl (ra) 1 : Nat), .int .u64 (dgl (ra) 2 : Nat), .int .u64 (dgl (ra) 3 : Nat), .int .u64 (dgl (ra) 4 : Nat), .int .u64 (dgl (ra) 5 : Nat), .int .u64 (dgl (ra) 6 : Nat), .int .u64 (dgl (ra) 7 : Nat)])), (104, .val (.tuple #[.agg #[.int .u64 (dgl (a) 1 : Nat), .int .u64 (dgl (a) 0 : Nat)], .bool true])), (93, .val (.tuple #[.agg #[.int .u64 (dgl (a) 1 : Nat), .int .u64 (dgl (a) 0 : Nat)], .bool true])), (105, .val (.agg #[.int .u64 (dgl (a) 1 : Nat), .int .u64 (dgl (a) 0 : Nat)])), (106, .val (.bool true)), (11, bif bs.headD false then SlotIs.wbox (w.heap.size + 2) (dgl a 1) (dgl a 0) else SlotIs.wbox (w.heap.size + 2) 0 0), (12, .val (.bool true))])
      (fun _ W => Mk3 a w W) (fun bs => rfl) mixedOk (by kernel_rfl) (by kernel_rfl) (by kernel_rfl) (g1.below (Below.refl _ _).drew) (fun bs W W' h hb => h.below hb) ?_ ?_
    · refine kSt rfl (fun φ hφ => gStep_run rfl (gRun_move 5 94 (.inl rfl) rfl (by decide +kernel) (fun v w h => h))) ?_
      refine kSt rfl (fun φ hφ => gStep_run rfl (gRun_move 5 95 (.inl rfl) rfl (by decide +kernel) (fun v w h => h))) ?_
      refine kSt rfl (fun φ hφ => gStep_run rfl ?_) ?_
      · intro ρ W hC hc hf hL
        have e3 : ρ (.tmp 3) = .pointer (some ⟨w.heap.size + 1, 0, none⟩) := hL 3 (by decide +kernel)
        have l0 := hC.wa.h
        have l1 := hC.wa.l
        simp [go_sem, hc, hf, e3, l0, l1]
        exact ⟨Below.refl _ _, rfl⟩
      refine kSt rfl (fun φ hφ => gStep_run rfl ?_) ?_
      · intro ρ W hC hc hf hL
        have e95 : ρ (.tmp 95) = .int .i64 f := hL 95 (by decide +kernel)
        have e96 : ρ (.tmp 96) = .agg #[.int .u64 (dgl (a) 1 : Nat), .int .u64 (dgl (a) 0 : Nat)] := hL 96 (by decide +kernel)
        simp [go_sem, hc, hf, e95, e96]
        refine (HNA.out W hC.g).mono ?_
        rintro e w' ⟨rfl, hb⟩
        exact ⟨_, rfl, by first | exact hb | (subst hb; exact Below.refl _ _), rfl⟩
      refine kSt rfl (fun φ hφ => gStep_run rfl (gRun_move 5 98 (.inl rfl) rfl (by decide +kernel) (fun v w h => h))) ?_
      refine kSt rfl (fun φ hφ => gStep_run rfl ?_) ?_
      · intro ρ W hC hc hf hL
        have e3 : ρ (.tmp 3) = .pointer (some ⟨w.heap.size + 1, 0, none⟩) := hL 3 (by decide +kernel)
        have l0 := hC.wa.h
        have l1 := hC.wa.l
        simp [go_sem, hc, hf, e3, l0, l1]
        exact ⟨Below.refl _ _, rfl⟩
      refine kSt rfl (fun φ hφ => gStep_run rfl ?_) ?_
      · intro ρ W hC hc hf hL
        have e98 : ρ (.tmp 98) = .int .i64 f := hL 98 (by decide +kernel)
        have e99 : ρ (.tmp 99) = .agg #[.int .u64 (dgl (a) 1 : Nat), .int .u64 (dgl (a) 0 : Nat)] := hL 99 (by decide +kernel)
        simp [go_sem, hc, hf, e98, e99]
        refine (HFA.out W hC.g).mono ?_
        rintro e w' ⟨rfl, hb⟩
        exact ⟨_, rfl, by first | exact hb | (subst hb; exact Below.refl _ _), rfl⟩
      refine kSt rfl (fun φ hφ => gStep_run rfl (gRun_move 5 101 (.inl rfl) rfl (by decide +kernel) (fun v w h => h))) ?_
      refine kSt rfl (fun φ hφ => gStep_run rfl ?_) ?_
      · intro ρ W hC hc hf hL
        have e3 : ρ (.tmp 3) = .pointer (some ⟨w.heap.size + 1, 0, none⟩) := hL 3 (by decide +kernel)
        have l0 := hC.wa.h
        have l1 := hC.wa.l
        simp [go_sem, hc, hf, e3, l0, l1]
        exact ⟨Below.refl _ _, rfl⟩
      refine kSt rfl (fun φ hφ => gStep_run rfl ?_) ?_
      · intro ρ W hC hc hf hL
        have e101 : ρ (.tmp 101) = .int .i64 f := hL 101 (by decide +kernel)
        have e102 : ρ (.tmp 102) = .agg #[.int .u64 (dgl (a) 1 : Nat), .int .u64 (dgl (a) 0 : Nat)] := hL 102 (by decide +kernel)
        simp [go_sem, hc, hf, e101, e102]
        refine (HRA.out W hC.g).mono ?_
        rintro e w' ⟨rfl, hb⟩
        exact ⟨_, rfl, by first | exact hb | (subst hb; exact Below.refl _ _), rfl⟩
      refine kSt rfl (fun φ hφ => gStep_run rfl ?_) ?_
      · intro ρ W hC hc hf hL
        have e94 : ρ (.tmp 94) = .int .i64 f := hL 94 (by decide +kernel)
        have e97 : ρ (.tmp 97) = .bool na := hL 97 (by decide +kernel)
        have e100 : ρ (.tmp 100) = .int .i64 (fa : Nat) := hL 100 (by decide +kernel)
        have e103 : ρ (.tmp 103) = .agg #[.int .u64 (dgl (ra) 0 : Nat), .int .u64 (dgl (ra) 1 : Nat), .int .u64 (dgl (ra) 2 : Nat), .int .u64 (dgl (ra) 3 : Nat), .int .u64 (dgl (ra) 4 : Nat), .int .u64 (dgl (ra) 5 : Nat), .int .u64 (dgl (ra) 6 : Nat), .int .u64 (dgl (ra) 7 : Nat)] := hL 103 (by decide +kernel)
        simp [go_sem, hc, hf, e94, e97, e100, e103]
        refine (HOW.out W hC.g).mono ?_
        rintro e w' ⟨rfl, hb⟩
        exact ⟨_, rfl, by first | exact hb | (subst hb; exact Below.refl _ _), rfl⟩
      refine kSt rfl (fun φ hφ => gStep_run rfl (gRun_move 104 93 (.inl rfl) rfl (by decide +kernel) (fun v w h => h))) ?_
      refine kSt rfl (fun φ hφ => gStep_run rfl ?_) ?_
      · intro ρ W hC hc hf hL
        have e93 : ρ (.tmp 93) = .tuple #[.agg #[.int .u64 (dgl (a) 1 : Nat), .int .u64 (dgl (a) 0 : Nat)], .bool true] := hL 93 (by decide +kernel)
        simp [go_sem, hc, hf, e93]
        exact ⟨Below.refl _ _, rfl⟩
      refine kSt rfl (fun φ hφ => gStep_run rfl ?_) ?_
      · intro ρ W hC hc hf hL
        have e93 : ρ (.tmp 93) = .tuple #[.agg #[.int .u64 (dgl (a) 1 : Nat), .int .u64 (dgl (a) 0 : Nat)], .bool true] := hL 93 (by decide +kernel)
        simp [go_sem, hc, hf, e93]
        exact ⟨Below.refl _ _, rfl⟩
      refine kSt rfl (fun φ hφ => gStep_run rfl ?_) ?_
      · intro ρ W hC hc hf hL
        have hφ0 : φ 15 = false := hφ 15 (by simp) (by kernel_rfl)
        simp [go_sem, hc, hf]
        refine ⟨below_allocs _ _, ?_⟩
        show (bif φ 15 then SlotIs.wbox (w.heap.size + 2) (dgl a 1) (dgl a 0) else SlotIs.wbox (w.heap.size + 2) 0 0).R _ _
        rw [hφ0]
        exact ⟨_, rfl, hC.wa.lt, wb_new _ _, fun i => by simp [go_sem]⟩
      refine kStS rfl ⟨rfl, rfl, ?_⟩ ?_
      · intro φ ρ W hφ hC hc hL
        have b11 := hL 11 (by decide +kernel)
        have e105 : ρ (.tmp 105) = .agg #[.int .u64 (dgl (a) 1 : Nat), .int .u64 (dgl (a) 0 : Nat)] := hL 105 (by decide +kernel)
        have b11 : (bif φ 15 then SlotIs.wbox (w.heap.size + 2) (dgl a 1) (dgl a 0) else SlotIs.wbox (w.heap.size + 2) 0 0).R (ρ (.tmp 11)) W := hL 11 (by decide +kernel)
        rw [hφ] at b11
        obtain ⟨pp, ep, qp, lp, zp⟩ := b11
        have hz := lp.h
        have hy := lp.l
        have hzl := lp.lt
        refine gUpon_of ((W.setCell ⟨pp, 0, none⟩ (.int .u64 (dgl a 1 : Nat))).setCell ⟨pp, 1, none⟩ (.int .u64 (dgl a 0 : Nat))) ?_ (fun _ => ?_)
        · simp [go_sem, hc, e105, ep, hz, hy, hzl, zp, gUpon]
        have hs2 : Below (w.heap.size + 2) W ((W.setCell ⟨pp, 0, none⟩ (.int .u64 (dgl a 1 : Nat))).setCell ⟨pp, 1, none⟩ (.int .u64 (dgl a 0 : Nat))) := ((Below.refl (w.heap.size + 2) W).setCell (p := ⟨pp, 0, none⟩) qp _).setCell (p := ⟨pp, 1, none⟩) qp _
        refine ⟨hC.under hs2, fun t => ?_⟩
        refine (tbl_imp rfl (fun _ => val_imp) (tbl_imp rfl (fun _ => val_imp) (tbl_imp rfl (fun _ => val_imp) (tbl_imp rfl (fun _ => val_imp) (tbl_imp rfl (fun _ => val_imp) (tbl_imp rfl (fun _ => val_imp) (tbl_imp rfl (fun _ => val_imp) (tbl_imp rfl (fun _ => val_imp) (tbl_imp rfl (fun _ => val_imp) (tbl_imp rfl (fun _ => val_imp) (tbl_imp rfl (fun _ => val_imp) (tbl_imp rfl (fun _ => val_imp) (tbl_imp rfl (fun _ => val_imp) (tbl_imp rfl (fun _ => val_imp) (tbl_imp rfl (fun ht h => ?_) (tbl_imp rfl (fun _ => val_imp) tbl_nil_imp))))))))))))))))
        subst ht
        show (bif (φ 15 || true) then SlotIs.wbox (w.heap.size + 2) (dgl a 1) (dgl a 0) else SlotIs.wbox (w.heap.size + 2) 0 0).R _ _
        rw [Bool.or_true]
        exact ⟨pp, ep, qp, wb_set lp, fun i => by simpa [go_sem] using zp i⟩
      refine kSt rfl (fun φ hφ => gStep_run rfl (gRun_move 106 12 (.inr rfl) rfl (by decide +kernel) (fun v w h => h))) ?_
      exact kSt0
    · intro W hC
      refine gFi 94 rfl ?_
      rintro _ rfl
      refine gFi 95 rfl ?_
      rintro _ rfl
      refine gFi 96 rfl ?_
      rintro _ rfl
      refine gFi 97 rfl ?_
      rintro _ rfl
      refine gFi 98 rfl ?_
      rintro _ rfl
      refine gFi 99 rfl ?_
      rintro _ rfl
      refine gFi 100 rfl ?_
      rintro _ rfl
      refine gFi 101 rfl ?_
      rintro _ rfl
      refine gFi 102 rfl ?_
      rintro _ rfl
      refine gFi 103 rfl ?_
      rintro _ rfl
      refine gFi 104 rfl ?_
      rintro _ rfl
      refine gFi 93 rfl ?_
      rintro _ rfl
      refine gFi 105 rfl ?_
      rintro _ rfl
      refine gFi 106 rfl ?_
      rintro _ rfl
      refine gFi 11 rfl ?_
      rintro u11 b11
      refine gFiN rfl ?_
      refine gFi 12 rfl ?_
      rintro _ rfl
      refine gFi0 ?_
      simp only [List.drop_succ_cons, List.drop_zero, Act.put, List.setIfInBounds_toArray, List.set_cons_succ, List.set_cons_zero]
      obtain ⟨p11, rfl, _, l11, _⟩ := b11
      have HS := hide hC
      have HQ := hide l11
      clear hC l11 g1
      have l0 := HS.out.wa.h
      have l1 := HS.out.wa.l
      have m0 := HQ.out.h
      have m1 := HQ.out.l
      have hs := fun w => word_same (dgl a 1) (dgl a 0) w
      go_wp2_with fail
      refine (awake6_any _ HS.out.g).mono ?_
      rintro e w8 ⟨rfl, hb8⟩
      have HB := hide (below_trans HS.out.bel hb8)
      clear hb8 HS l0 l1 m0 m1 hs HQ
      go_wp2
      go_ret
      exact ⟨rfl, HB.out⟩

set_option maxHeartbeats 4000000 in
theorem classMakes_E0 (f z em e1 e2 ln pr p1 : Int) (neg na : Bool) (a b c k fa ra : Nat)
    (HM : Hid (∀ w, FmtG w → Calls Tryd.prog 26 #[.int .i64 f, .bool neg, .int .i64 z, .agg #[.int .u64 (dgl (b) 0 : Nat), .int .u64 (dgl (b) 1 : Nat), .int .u64 (dgl (b) 2 : Nat), .int .u64 (dgl (b) 3 : Nat), .int .u64 (dgl (b) 4 : Nat), .int .u64 (dgl (b) 5 : Nat), .int .u64 (dgl (b) 6 : Nat), .int .u64 (dgl (b) 7 : Nat)]] w fun e w' => e = .returned (.tuple #[.agg #[.int .u64 (dgl (c) 1 : Nat), .int .u64 (dgl (c) 0 : Nat)], .bool true]) ∧ Below w.heap.size w w'))
    (HIS : Hid (∀ w, Calls Tryd.prog 27 #[.int .i64 f] w fun e w' => e = .returned (.bool true) ∧ w' = w))
    (HZ : Hid (¬ z < 0))
    (HEM : Hid (∀ w, Calls Tryd.prog 28 #[.int .i64 f] w fun e w' => e = .returned (.int .i64 em) ∧ w' = w))
    (HE1 : Hid (IntKind.i64.wrap (2 * em) = e1))
    (HE2 : Hid (IntKind.i64.wrap (e1 + 1) = e2))
    (HZ2 : Hid (¬ e2 < z))
    (HBG : Hid (∀ w, Calls Tryd.prog 30 #[.agg #[.int .u64 (dgl (b) 0 : Nat), .int .u64 (dgl (b) 1 : Nat), .int .u64 (dgl (b) 2 : Nat), .int .u64 (dgl (b) 3 : Nat), .int .u64 (dgl (b) 4 : Nat), .int .u64 (dgl (b) 5 : Nat), .int .u64 (dgl (b) 6 : Nat), .int .u64 (dgl (b) 7 : Nat)]] w fun e w' => ∃ v, e = .returned v ∧ BigV w' v b 40 ∧ Below w.heap.size w w'))
    (HLN : Hid (∀ v w, BigV w v b 40 → Calls Tryd.prog 29 #[v] w fun e w' => e = .returned (.int .i64 ln) ∧ w' = w))
    (HPR : Hid (∀ w, Calls Tryd.prog 31 #[.int .i64 f] w fun e w' => e = .returned (.int .i64 pr) ∧ w' = w))
    (HP1 : Hid (IntKind.i64.wrap (pr - 1) = p1))
    (HL2 : Hid (¬ p1 < ln))
    (HRN : Hid (∀ w, Calls Tryd.prog 17 #[.int .i64 f, .agg #[.int .u64 (dgl (c) 1 : Nat), .int .u64 (dgl (c) 0 : Nat)]] w fun e w' => e = .returned (.bool neg) ∧ Below w.heap.size w w'))
    (HRF : Hid (∀ w, Calls Tryd.prog 23 #[.int .i64 f, .agg #[.int .u64 (dgl (c) 1 : Nat), .int .u64 (dgl (c) 0 : Nat)]] w fun e w' => e = .returned (.int .i64 z) ∧ Below w.heap.size w w'))
    (HRR : Hid (∀ w, Calls Tryd.prog 24 #[.int .i64 f, .agg #[.int .u64 (dgl (c) 1 : Nat), .int .u64 (dgl (c) 0 : Nat)]] w fun e w' => e = .returned (.agg #[.int .u64 (dgl (b) 0 : Nat), .int .u64 (dgl (b) 1 : Nat), .int .u64 (dgl (b) 2 : Nat), .int .u64 (dgl (b) 3 : Nat), .int .u64 (dgl (b) 4 : Nat), .int .u64 (dgl (b) 5 : Nat), .int .u64 (dgl (b) 6 : Nat), .int .u64 (dgl (b) 7 : Nat)]) ∧ Below w.heap.size w w'))
    (HFT : Hid (∀ w, Calls Tryd.prog 32 #[.int .i64 f, .agg #[.int .u64 (dgl (c) 1 : Nat), .int .u64 (dgl (c) 0 : Nat)]] w fun e w' => e = .returned (.bool true) ∧ Below w.heap.size w w'))
    (HCL : Hid (∀ w, Calls Tryd.prog 12 #[.int .i64 f, .agg #[.int .u64 (dgl (a) 1 : Nat), .int .u64 (dgl (a) 0 : Nat)]] w fun e w' => e = .returned (.int .i64 0) ∧ Below w.heap.size w w')) (w : World) (hg : FmtG w) :
    Calls Tryd.prog 4 #[.agg #[.int .i64 f, .bool neg, .int .i64 z, .int .u64 (dgl b 0 : Nat), .int .u64 (dgl b 1 : Nat), .int .u64 (dgl b 2 : Nat), .int .u64 (dgl b 3 : Nat), .int .u64 (dgl b 4 : Nat), .int .u64 (dgl b 5 : Nat), .int .u64 (dgl b 6 : Nat), .int .u64 (dgl b 7 : Nat)], .agg #[.int .u64 (dgl (a) 1 : Nat), .int .u64 (dgl (a) 0 : Nat)]] w fun e w' => e = .returned (.bool true) ∧ Below w.heap.size w w' := by
  have HST := hide (prSt_start f z neg b a w hg)
  clear hg
  go_enter Tryd.func4, Tryd.ntmps4
  go_upto_region 1 with fail
  refine wp_gen (fun W => PrSt f z neg b a w W) HST.out ?_
  clear HST
  rintro W1 h1
  refine wp_region_storeK 13 [12] [13, 14, 15, 16, 17, 18, 19, 20, 8, 5, 6, 7] (fun bs => [(13, .val (.pointer (some ⟨w.heap.size, 0, none⟩))), (14, .val (.int .i64 f)), (15, .val (.pointer (some ⟨w.heap.size, 1, none⟩))), (16, .val (.bool neg)), (17, .val (.pointer (some ⟨w.heap.size, 2, none⟩))), (18, .val (.int .i64 z)), (19, .val (.pointer (some ⟨w.heap.size, 3, none⟩))), (20, .val (.agg #[.int .u64 (dgl (b) 0 : Nat), .int .u64 (dgl (b) 1 : Nat), .int .u64 (dgl (b) 2 : Nat), .int .u64 (dgl (b) 3 : Nat), .int .u64 (dgl (b) 4 : Nat), .int .u64 (dgl (b) 5 : Nat), .int .u64 (dgl (b) 6 : Nat), .int .u64 (dgl (b) 7 : Nat)])), (8, bif bs.headD false then SlotIs.box (w.heap.size + 2) (dgl b) else SlotIs.box (w.heap.size + 2) (fun _ => 0)), (5, .val (.int .i64 f)), (6, .val (.bool neg)), (7, .val (.int .i64 z))])
    (fun _ W => PrSt f z neg b a w W) (fun bs => rfl) mixedOk (by kernel_rfl) (by kernel_rfl) (by kernel_rfl) (h1.below (Below.refl _ _).drew) (fun bs W W' h hb => h.below hb) ?_ ?_
  · refine kSt rfl (fun φ hφ => gStep_run rfl ?_) ?_
    · intro ρ W hC hc hf hL
      have e2 : ρ (.tmp 2) = .pointer (some ⟨w.heap.size, 0, none⟩) := hL 2 (by decide +kernel)
      simp [go_sem, hc, hf, e2]
      exact ⟨Below.refl _ _, rfl⟩
    refine kSt rfl (fun φ hφ => gStep_run rfl ?_) ?_
    · intro ρ W hC hc hf hL
      have e13 : ρ (.tmp 13) = .pointer (some ⟨w.heap.size, 0, none⟩) := hL 13 (by decide +kernel)
      have l0 := hC.cf
      simp [go_sem, hc, hf, e13, l0]
      exact ⟨Below.refl _ _, rfl⟩
    refine kSt rfl (fun φ hφ => gStep_run rfl ?_) ?_
    · intro ρ W hC hc hf hL
      have e2 : ρ (.tmp 2) = .pointer (some ⟨w.heap.size, 0, none⟩) := hL 2 (by decide +kernel)
      simp [go_sem, hc, hf, e2]
      exact ⟨Below.refl _ _, rfl⟩
    refine kSt rfl (fun φ hφ => gStep_run rfl ?_) ?_
    · intro ρ W hC hc hf hL
      have e15 : ρ (.tmp 15) = .pointer (some ⟨w.heap.size, 1, none⟩) := hL 15 (by decide +kernel)
      have l0 := hC.cn
      simp [go_sem, hc, hf, e15, l0]
      exact ⟨Below.refl _ _, rfl⟩
    refine kSt rfl (fun φ hφ => gStep_run rfl ?_) ?_
    · intro ρ W hC hc hf hL
      have e2 : ρ (.tmp 2) = .pointer (some ⟨w.heap.size, 0, none⟩) := hL 2 (by decide +kernel)
      simp [go_sem, hc, hf, e2]
      exact ⟨Below.refl _ _, rfl⟩
    refine kSt rfl (fun φ hφ => gStep_run rfl ?_) ?_
    · intro ρ W hC hc hf hL
      have e17 : ρ (.tmp 17) = .pointer (some ⟨w.heap.size, 2, none⟩) := hL 17 (by decide +kernel)
      have l0 := hC.cz
      simp [go_sem, hc, hf, e17, l0]
      exact ⟨Below.refl _ _, rfl⟩
    refine kSt rfl (fun φ hφ => gStep_run rfl ?_) ?_
    · intro ρ W hC hc hf hL
      have e2 : ρ (.tmp 2) = .pointer (some ⟨w.heap.size, 0, none⟩) := hL 2 (by decide +kernel)
      simp [go_sem, hc, hf, e2]
      exact ⟨Below.refl _ _, rfl⟩
    refine kSt rfl (fun φ hφ => gStep_run rfl ?_) ?_
    · intro ρ W hC hc hf hL
      have e19 : ρ (.tmp 19) = .pointer (some ⟨w.heap.size, 3, none⟩) := hL 19 (by decide +kernel)
      have l0 := hC.x0
      have l1 := hC.x1
      have l2 := hC.x2
      have l3 := hC.x3
      have l4 := hC.x4
      have l5 := hC.x5
      have l6 := hC.x6
      have l7 := hC.x7
      simp [go_sem, hc, hf, e19, l0, l1, l2, l3, l4, l5, l6, l7]
      exact ⟨Below.refl _ _, rfl⟩
    refine kSt rfl (fun φ hφ => gStep_run rfl ?_) ?_
    · intro ρ W hC hc hf hL
      have hφ0 : φ 12 = false := hφ 12 (by simp) (by kernel_rfl)
      simp [go_sem, hc, hf]
      refine ⟨below_allocs _ _, ?_⟩
      show (bif φ 12 then SlotIs.box (w.heap.size + 2) (dgl b) else SlotIs.box (w.heap.size + 2) (fun _ => 0)).R _ _
      rw [hφ0]
      exact ⟨_, rfl, hC.wa.lt, liesF_new _ (fun _ => 0) _, fun i => by simp [go_sem]⟩
    refine kSt rfl (fun φ hφ => gStep_run rfl (gRun_move 14 5 (.inr rfl) rfl (by decide +kernel) (fun v w h => h))) ?_
    refine kSt rfl (fun φ hφ => gStep_run rfl (gRun_move 16 6 (.inr rfl) rfl (by decide +kernel) (fun v w h => h))) ?_
    refine kSt rfl (fun φ hφ => gStep_run rfl (gRun_move 18 7 (.inr rfl) rfl (by decide +kernel) (fun v w h => h))) ?_
    refine kStS rfl ⟨rfl, rfl, ?_⟩ ?_
    · intro φ ρ W hφ hC hc hL
      have b8 := hL 8 (by decide +kernel)
      have e20 : ρ (.tmp 20) = .agg #[.int .u64 (dgl (b) 0 : Nat), .int .u64 (dgl (b) 1 : Nat), .int .u64 (dgl (b) 2 : Nat), .int .u64 (dgl (b) 3 : Nat), .int .u64 (dgl (b) 4 : Nat), .int .u64 (dgl (b) 5 : Nat), .int .u64 (dgl (b) 6 : Nat), .int .u64 (dgl (b) 7 : Nat)] := hL 20 (by decide +kernel)
      have b8 : (bif φ 12 then SlotIs.box (w.heap.size + 2) (dgl b) else SlotIs.box (w.heap.size + 2) (fun _ => 0)).R (ρ (.tmp 8)) W := hL 8 (by decide +kernel)
      rw [hφ] at b8
      obtain ⟨p8, e8, q8, l8, z8⟩ := b8
      have hz := l8.1
      have hzl := l8.2
      refine gUpon_of ((((((((W.setCell ⟨p8, 0, none⟩ (.int .u64 (dgl b 0 : Nat))).setCell ⟨p8, 1, none⟩ (.int .u64 (dgl b 1 : Nat))).setCell ⟨p8, 2, none⟩ (.int .u64 (dgl b 2 : Nat))).setCell ⟨p8, 3, none⟩ (.int .u64 (dgl b 3 : Nat))).setCell ⟨p8, 4, none⟩ (.int .u64 (dgl b 4 : Nat))).setCell ⟨p8, 5, none⟩ (.int .u64 (dgl b 5 : Nat))).setCell ⟨p8, 6, none⟩ (.int .u64 (dgl b 6 : Nat))).setCell ⟨p8, 7, none⟩ (.int .u64 (dgl b 7 : Nat))) ?_ (fun _ => ?_)
      · simp [go_sem, hc, e20, e8, hz, hzl, z8, gUpon]
      have hs8 := below_set8 (Below.refl (w.heap.size + 2) W) p8 q8 (.int .u64 (dgl b 0 : Nat)) (.int .u64 (dgl b 1 : Nat)) (.int .u64 (dgl b 2 : Nat)) (.int .u64 (dgl b 3 : Nat)) (.int .u64 (dgl b 4 : Nat)) (.int .u64 (dgl b 5 : Nat)) (.int .u64 (dgl b 6 : Nat)) (.int .u64 (dgl b 7 : Nat))
      refine ⟨hC.under hs8 (by omega), fun t => ?_⟩
      refine (tbl_imp rfl (fun _ => val_imp) (tbl_imp rfl (fun _ => val_imp) (tbl_imp rfl (fun _ => val_imp) (tbl_imp rfl (fun _ => val_imp) (tbl_imp rfl (fun _ => val_imp) (tbl_imp rfl (fun _ => val_imp) (tbl_imp rfl (fun _ => val_imp) (tbl_imp rfl (fun _ => val_imp) (tbl_imp rfl (fun ht h => ?_) (tbl_imp rfl (fun _ => val_imp) (tbl_imp rfl (fun _ => val_imp) (tbl_imp rfl (fun _ => val_imp) tbl_nil_imp))))))))))))
      subst ht
      show (bif (φ 12 || true) then SlotIs.box (w.heap.size + 2) (dgl b) else SlotIs.box (w.heap.size + 2) (fun _ => 0)).R _ _
      rw [Bool.or_true]
      exact ⟨p8, e8, q8, set8_same W p8 (dgl b) (fun _ => 0) l8, fun i => by simpa [go_sem] using z8 i⟩
    exact kSt0
  · intro W hC
    refine gFi 13 rfl ?_
    rintro _ rfl
    refine gFi 14 rfl ?_
    rintro _ rfl
    refine gFi 15 rfl ?_
    rintro _ rfl
    refine gFi 16 rfl ?_
    rintro _ rfl
    refine gFi 17 rfl ?_
    rintro _ rfl
    refine gFi 18 rfl ?_
    rintro _ rfl
    refine gFi 19 rfl ?_
    rintro _ rfl
    refine gFi 20 rfl ?_
    rintro _ rfl
    refine gFi 8 rfl ?_
    rintro u8 b8
    refine gFi 5 rfl ?_
    rintro _ rfl
    refine gFi 6 rfl ?_
    rintro _ rfl
    refine gFi 7 rfl ?_
    rintro _ rfl
    refine gFiN rfl ?_
    refine gFi0 ?_
    simp only [List.drop_succ_cons, List.drop_zero, Act.put, List.setIfInBounds_toArray, List.set_cons_succ, List.set_cons_zero]
    obtain ⟨p8, rfl, _, l8, _⟩ := b8
    have HS : Hid (Mk3 a w W) := hide ⟨hC.g, hC.wa, hC.bel⟩
    have HL := hide l8
    clear hC l8 h1
    have hl := HL.out.1
    go_wp2_with fail
    refine (HM.out _ HS.out.g).mono ?_
    rintro e w2 ⟨rfl, hb2⟩
    replace HS := hide (HS.out.below hb2)
    replace HL := hide (HL.out.below hb2)
    clear hb2 hl
    go_upto_region 3 with fail
    refine wp_gen (fun W => Mk3 a w W ∧ LiesF W p8 (dgl b) ∧ WB W w2.heap.size (dgl c 1) (dgl c 0)) ⟨HS.out.below (below_allocs _ _), HL.out.below (below_allocs _ _), wb_newN _ _ _ _⟩ ?_
    clear HS HL
    generalize w2.heap.size = p9
    rintro W3 ⟨g1, g2, g3⟩
    have HS := hide g1
    have HL := hide g2
    have HQ := hide g3
    clear g1 g2 g3
    go_wp2_with fail
    refine (HIS.out _).mono ?_
    rintro e wl ⟨rfl, hw⟩
    subst wl
    have hz := HZ.out
    go_wp2_with fail
    refine (HEM.out _).mono ?_
    rintro e wl ⟨rfl, hw⟩
    subst wl
    have he1 := HE1.out
    have he2 := HE2.out
    have hz2 := HZ2.out
    have hl := HL.out.1
    go_wp2_with fail
    refine (HBG.out _).mono ?_
    rintro e w4 ⟨v4, rfl, hv4, hb4⟩
    replace HS := hide (HS.out.below hb4)
    replace HL := hide (HL.out.below hb4)
    replace HQ := hide (HQ.out.below hb4)
    have HV := hide hv4
    clear hb4 hv4 hl
    go_wp2_with fail
    refine (HLN.out _ _ HV.out).mono ?_
    rintro e wl ⟨rfl, hw⟩
    subst wl
    clear HV
    go_wp2_with fail
    refine (HPR.out _).mono ?_
    rintro e wl ⟨rfl, hw⟩
    subst wl
    have hp1 := HP1.out
    have hl2 := HL2.out
    go_upto_region 6 with fail
    refine wp_gen (fun W => Mk3 a w W ∧ LiesF W p8 (dgl b) ∧ WB W p9 (dgl c 1) (dgl c 0)) ⟨HS.out, HL.out, HQ.out⟩ ?_
    clear HS HL HQ hz he1 he2 hz2 hp1 hl2
    rintro W6 ⟨g1, g2, g3⟩
    refine wp_region_grow 29 [(59, .val (.bool true)), (60, .val (.bool false)), (61, .val (.bool false)), (62, .val (.int .i64 f)), (63, .val (.agg #[.int .u64 (dgl (c) 1 : Nat), .int .u64 (dgl (c) 0 : Nat)])), (64, .val (.bool neg)), (65, .val (.bool neg)), (66, .val (.bool false)), (67, .val (.bool false)), (68, .val (.bool false)), (69, .val (.int .i64 f)), (70, .val (.agg #[.int .u64 (dgl (c) 1 : Nat), .int .u64 (dgl (c) 0 : Nat)])), (71, .val (.int .i64 z)), (72, .val (.int .i64 z)), (73, .val (.bool false)), (74, .val (.bool false)), (75, .val (.bool false)), (76, .val (.int .i64 f)), (77, .val (.agg #[.int .u64 (dgl (c) 1 : Nat), .int .u64 (dgl (c) 0 : Nat)])), (78, .val (.agg #[.int .u64 (dgl (b) 0 : Nat), .int .u64 (dgl (b) 1 : Nat), .int .u64 (dgl (b) 2 : Nat), .int .u64 (dgl (b) 3 : Nat), .int .u64 (dgl (b) 4 : Nat), .int .u64 (dgl (b) 5 : Nat), .int .u64 (dgl (b) 6 : Nat), .int .u64 (dgl (b) 7 : Nat)])), (79, .val (.agg #[.int .u64 (dgl (b) 0 : Nat), .int .u64 (dgl (b) 1 : Nat), .int .u64 (dgl (b) 2 : Nat), .int .u64 (dgl (b) 3 : Nat), .int .u64 (dgl (b) 4 : Nat), .int .u64 (dgl (b) 5 : Nat), .int .u64 (dgl (b) 6 : Nat), .int .u64 (dgl (b) 7 : Nat)])), (80, .val (.bool false)), (81, .val (.bool false)), (82, .val (.bool false)), (83, .val (.int .i64 f)), (84, .val (.agg #[.int .u64 (dgl (c) 1 : Nat), .int .u64 (dgl (c) 0 : Nat)])), (85, .val (.bool true)), (86, .val (.bool false)), (87, .val (.bool false))]
      (fun W => Mk3 a w W ∧ LiesF W p8 (dgl b) ∧ WB W p9 (dgl c 1) (dgl c 0)) mixedOk (by kernel_rfl) (by kernel_rfl) (⟨g1.below (Below.refl _ _).drew, g2.below (Below.refl _ _).drew, g3.below (Below.refl _ _).drew⟩) (fun W W' h hb => ⟨h.1.below hb, h.2.1.below hb, h.2.2.below hb⟩) ?_ ?_
    · refine gSt (gStep_run rfl (gRun_move 10 59 (.inl rfl) rfl (by decide +kernel) (fun v w h => h))) ?_
      refine gSt (gStep_run rfl ?_) ?_
      · intro ρ W hC hc hf hL
        have e59 : ρ (.tmp 59) = .bool true := hL 59 (by decide +kernel)
        simp [go_sem, hc, hf, e59]
        exact ⟨Below.refl _ _, rfl⟩
      refine gSt (gStep_run rfl (gRun_move 60 61 (.inl rfl) rfl (by decide +kernel) (fun v w h => h))) ?_
      refine gSt (gStep_on 2 61 false rfl rfl (by decide +kernel) (fun v w h => h) (gRun_move 5 62 (.inl rfl) rfl (by decide +kernel) (fun v w h => h))) ?_
      refine gSt (gStep_on 2 61 false rfl rfl (by decide +kernel) (fun v w h => h) ?_) ?_
      · intro ρ W hC hc hf hL
        have e9 : ρ (.tmp 9) = .pointer (some ⟨p9, 0, none⟩) := hL 9 (by decide +kernel)
        have l0 := hC.2.2.h
        have l1 := hC.2.2.l
        simp [go_sem, hc, hf, e9, l0, l1]
        exact ⟨Below.refl _ _, rfl⟩
      refine gSt (gStep_on 2 61 false rfl rfl (by decide +kernel) (fun v w h => h) ?_) ?_
      · intro ρ W hC hc hf hL
        have e62 : ρ (.tmp 62) = .int .i64 f := hL 62 (by decide +kernel)
        have e63 : ρ (.tmp 63) = .agg #[.int .u64 (dgl (c) 1 : Nat), .int .u64 (dgl (c) 0 : Nat)] := hL 63 (by decide +kernel)
        simp [go_sem, hc, hf, e62, e63]
        refine (HRN.out W).mono ?_
        rintro e w' ⟨rfl, hb⟩
        exact ⟨_, rfl, by first | exact hb | (subst hb; exact Below.refl _ _), rfl⟩
      refine gSt (gStep_on 2 61 false rfl rfl (by decide +kernel) (fun v w h => h) (gRun_move 6 65 (.inl rfl) rfl (by decide +kernel) (fun v w h => h))) ?_
      refine gSt (gStep_on 2 61 false rfl rfl (by decide +kernel) (fun v w h => h) ?_) ?_
      · intro ρ W hC hc hf hL
        have e64 : ρ (.tmp 64) = .bool neg := hL 64 (by decide +kernel)
        have e65 : ρ (.tmp 65) = .bool neg := hL 65 (by decide +kernel)
        simp [go_sem, hc, hf, e64, e65]
        exact ⟨Below.refl _ _, rfl⟩
      refine gSt (gStep_run rfl (gRun_pickCF 61 66 67 _ rfl rfl (by decide +kernel) (by decide +kernel) (fun v w h => h) (fun v w h => h))) ?_
      refine gSt (gStep_run rfl (gRun_move 67 68 (.inl rfl) rfl (by decide +kernel) (fun v w h => h))) ?_
      refine gSt (gStep_on 9 68 false rfl rfl (by decide +kernel) (fun v w h => h) (gRun_move 5 69 (.inl rfl) rfl (by decide +kernel) (fun v w h => h))) ?_
      refine gSt (gStep_on 9 68 false rfl rfl (by decide +kernel) (fun v w h => h) ?_) ?_
      · intro ρ W hC hc hf hL
        have e9 : ρ (.tmp 9) = .pointer (some ⟨p9, 0, none⟩) := hL 9 (by decide +kernel)
        have l0 := hC.2.2.h
        have l1 := hC.2.2.l
        simp [go_sem, hc, hf, e9, l0, l1]
        exact ⟨Below.refl _ _, rfl⟩
      refine gSt (gStep_on 9 68 false rfl rfl (by decide +kernel) (fun v w h => h) ?_) ?_
      · intro ρ W hC hc hf hL
        have e69 : ρ (.tmp 69) = .int .i64 f := hL 69 (by decide +kernel)
        have e70 : ρ (.tmp 70) = .agg #[.int .u64 (dgl (c) 1 : Nat), .int .u64 (dgl (c) 0 : Nat)] := hL 70 (by decide +kernel)
        simp [go_sem, hc, hf, e69, e70]
        refine (HRF.out W).mono ?_
        rintro e w' ⟨rfl, hb⟩
        exact ⟨_, rfl, by first | exact hb | (subst hb; exact Below.refl _ _), rfl⟩
      refine gSt (gStep_on 9 68 false rfl rfl (by decide +kernel) (fun v w h => h) (gRun_move 7 72 (.inl rfl) rfl (by decide +kernel) (fun v w h => h))) ?_
      refine gSt (gStep_on 9 68 false rfl rfl (by decide +kernel) (fun v w h => h) ?_) ?_
      · intro ρ W hC hc hf hL
        have e71 : ρ (.tmp 71) = .int .i64 z := hL 71 (by decide +kernel)
        have e72 : ρ (.tmp 72) = .int .i64 z := hL 72 (by decide +kernel)
        simp [go_sem, hc, hf, e71, e72]
        exact ⟨Below.refl _ _, rfl⟩
      refine gSt (gStep_run rfl (gRun_pickCF 68 73 74 _ rfl rfl (by decide +kernel) (by decide +kernel) (fun v w h => h) (fun v w h => h))) ?_
      refine gSt (gStep_run rfl (gRun_move 74 75 (.inl rfl) rfl (by decide +kernel) (fun v w h => h))) ?_
      refine gSt (gStep_on 16 75 false rfl rfl (by decide +kernel) (fun v w h => h) (gRun_move 5 76 (.inl rfl) rfl (by decide +kernel) (fun v w h => h))) ?_
      refine gSt (gStep_on 16 75 false rfl rfl (by decide +kernel) (fun v w h => h) ?_) ?_
      · intro ρ W hC hc hf hL
        have e9 : ρ (.tmp 9) = .pointer (some ⟨p9, 0, none⟩) := hL 9 (by decide +kernel)
        have l0 := hC.2.2.h
        have l1 := hC.2.2.l
        simp [go_sem, hc, hf, e9, l0, l1]
        exact ⟨Below.refl _ _, rfl⟩
      refine gSt (gStep_on 16 75 false rfl rfl (by decide +kernel) (fun v w h => h) ?_) ?_
      · intro ρ W hC hc hf hL
        have e76 : ρ (.tmp 76) = .int .i64 f := hL 76 (by decide +kernel)
        have e77 : ρ (.tmp 77) = .agg #[.int .u64 (dgl (c) 1 : Nat), .int .u64 (dgl (c) 0 : Nat)] := hL 77 (by decide +kernel)
        simp [go_sem, hc, hf, e76, e77]
        refine (HRR.out W).mono ?_
        rintro e w' ⟨rfl, hb⟩
        exact ⟨_, rfl, by first | exact hb | (subst hb; exact Below.refl _ _), rfl⟩
      refine gSt (gStep_on 16 75 false rfl rfl (by decide +kernel) (fun v w h => h) ?_) ?_
      · intro ρ W hC hc hf hL
        have e8 : ρ (.tmp 8) = .pointer (some ⟨p8, 0, none⟩) := hL 8 (by decide +kernel)
        have l0 := hC.2.1.1
        simp [go_sem, hc, hf, e8, l0]
        exact ⟨Below.refl _ _, rfl⟩
      refine gSt (gStep_on 16 75 false rfl rfl (by decide +kernel) (fun v w h => h) ?_) ?_
      · intro ρ W hC hc hf hL
        have e78 : ρ (.tmp 78) = .agg #[.int .u64 (dgl (b) 0 : Nat), .int .u64 (dgl (b) 1 : Nat), .int .u64 (dgl (b) 2 : Nat), .int .u64 (dgl (b) 3 : Nat), .int .u64 (dgl (b) 4 : Nat), .int .u64 (dgl (b) 5 : Nat), .int .u64 (dgl (b) 6 : Nat), .int .u64 (dgl (b) 7 : Nat)] := hL 78 (by decide +kernel)
        have e79 : ρ (.tmp 79) = .agg #[.int .u64 (dgl (b) 0 : Nat), .int .u64 (dgl (b) 1 : Nat), .int .u64 (dgl (b) 2 : Nat), .int .u64 (dgl (b) 3 : Nat), .int .u64 (dgl (b) 4 : Nat), .int .u64 (dgl (b) 5 : Nat), .int .u64 (dgl (b) 6 : Nat), .int .u64 (dgl (b) 7 : Nat)] := hL 79 (by decide +kernel)
        have l0 := fun w => wide_sameF (dgl b) w
        simp [go_sem, hc, hf, e78, e79, l0]
        exact ⟨Below.refl _ _, rfl⟩
      refine gSt (gStep_run rfl (gRun_pickCF 75 80 81 _ rfl rfl (by decide +kernel) (by decide +kernel) (fun v w h => h) (fun v w h => h))) ?_
      refine gSt (gStep_run rfl (gRun_move 81 82 (.inl rfl) rfl (by decide +kernel) (fun v w h => h))) ?_
      refine gSt (gStep_on 23 82 false rfl rfl (by decide +kernel) (fun v w h => h) (gRun_move 5 83 (.inl rfl) rfl (by decide +kernel) (fun v w h => h))) ?_
      refine gSt (gStep_on 23 82 false rfl rfl (by decide +kernel) (fun v w h => h) ?_) ?_
      · intro ρ W hC hc hf hL
        have e9 : ρ (.tmp 9) = .pointer (some ⟨p9, 0, none⟩) := hL 9 (by decide +kernel)
        have l0 := hC.2.2.h
        have l1 := hC.2.2.l
        simp [go_sem, hc, hf, e9, l0, l1]
        exact ⟨Below.refl _ _, rfl⟩
      refine gSt (gStep_on 23 82 false rfl rfl (by decide +kernel) (fun v w h => h) ?_) ?_
      · intro ρ W hC hc hf hL
        have e83 : ρ (.tmp 83) = .int .i64 f := hL 83 (by decide +kernel)
        have e84 : ρ (.tmp 84) = .agg #[.int .u64 (dgl (c) 1 : Nat), .int .u64 (dgl (c) 0 : Nat)] := hL 84 (by decide +kernel)
        simp [go_sem, hc, hf, e83, e84]
        refine (HFT.out W).mono ?_
        rintro e w' ⟨rfl, hb⟩
        exact ⟨_, rfl, by first | exact hb | (subst hb; exact Below.refl _ _), rfl⟩
      refine gSt (gStep_on 23 82 false rfl rfl (by decide +kernel) (fun v w h => h) ?_) ?_
      · intro ρ W hC hc hf hL
        have e85 : ρ (.tmp 85) = .bool true := hL 85 (by decide +kernel)
        simp [go_sem, hc, hf, e85]
        exact ⟨Below.refl _ _, rfl⟩
      refine gSt (gStep_run rfl (gRun_pickCF 82 86 87 _ rfl rfl (by decide +kernel) (by decide +kernel) (fun v w h => h) (fun v w h => h))) ?_
      exact gSt0
    · intro W hC
      refine gFi 59 rfl ?_
      rintro _ rfl
      refine gFi 60 rfl ?_
      rintro _ rfl
      refine gFi 61 rfl ?_
      rintro _ rfl
      refine gFi 62 rfl ?_
      rintro _ rfl
      refine gFi 63 rfl ?_
      rintro _ rfl
      refine gFi 64 rfl ?_
      rintro _ rfl
      refine gFi 65 rfl ?_
      rintro _ rfl
      refine gFi 66 rfl ?_
      rintro _ rfl
      refine gFi 67 rfl ?_
      rintro _ rfl
      refine gFi 68 rfl ?_
      rintro _ rfl
      refine gFi 69 rfl ?_
      rintro _ rfl
      refine gFi 70 rfl ?_
      rintro _ rfl
      refine gFi 71 rfl ?_
      rintro _ rfl
      refine gFi 72 rfl ?_
      rintro _ rfl
      refine gFi 73 rfl ?_
      rintro _ rfl
      refine gFi 74 rfl ?_
      rintro _ rfl
      refine gFi 75 rfl ?_
      rintro _ rfl
      refine gFi 76 rfl ?_
      rintro _ rfl
      refine gFi 77 rfl ?_
      rintro _ rfl
      refine gFi 78 rfl ?_
      rintro _ rfl
      refine gFi 79 rfl ?_
      rintro _ rfl
      refine gFi 80 rfl ?_
      rintro _ rfl
      refine gFi 81 rfl ?_
      rintro _ rfl
      refine gFi 82 rfl ?_
      rintro _ rfl
      refine gFi 83 rfl ?_
      rintro _ rfl
      refine gFi 84 rfl ?_
      rintro _ rfl
      refine gFi 85 rfl ?_
      rintro _ rfl
      refine gFi 86 rfl ?_
      rintro _ rfl
      refine gFi 87 rfl ?_
      rintro _ rfl
      refine gFi0 ?_
      simp only [List.drop_succ_cons, List.drop_zero, Act.put, List.setIfInBounds_toArray, List.set_cons_succ, List.set_cons_zero]
      have HS := hide hC.1
      clear hC g1 g2 g3
      go_upto_region 8 with fail
      have l0 := HS.out.wa.h
      have l1 := HS.out.wa.l
      go_wp2_with fail
      refine (HCL.out _).mono ?_
      rintro e w7 ⟨rfl, hb7⟩
      replace HS := hide (HS.out.below hb7)
      clear hb7 l0 l1
      go_wp2_with fail
      refine (awake6_any _ HS.out.g).mono ?_
      rintro e w8 ⟨rfl, hb8⟩
      have HB := hide (below_trans HS.out.bel hb8)
      clear hb8 HS
      go_wp2
      go_ret
      exact ⟨rfl, HB.out⟩

set_option maxHeartbeats 4000000 in
theorem classMakes_E1 (f z em e1 e2 ln pr p1 : Int) (neg na : Bool) (a b c k fa ra : Nat)
    (HM : Hid (∀ w, FmtG w → Calls Tryd.prog 26 #[.int .i64 f, .bool neg, .int .i64 z, .agg #[.int .u64 (dgl (b) 0 : Nat), .int .u64 (dgl (b) 1 : Nat), .int .u64 (dgl (b) 2 : Nat), .int .u64 (dgl (b) 3 : Nat), .int .u64 (dgl (b) 4 : Nat), .int .u64 (dgl (b) 5 : Nat), .int .u64 (dgl (b) 6 : Nat), .int .u64 (dgl (b) 7 : Nat)]] w fun e w' => e = .returned (.tuple #[.agg #[.int .u64 (dgl (c) 1 : Nat), .int .u64 (dgl (c) 0 : Nat)], .bool true]) ∧ Below w.heap.size w w'))
    (HIS : Hid (∀ w, Calls Tryd.prog 27 #[.int .i64 f] w fun e w' => e = .returned (.bool true) ∧ w' = w))
    (HZ : Hid (¬ z < 0))
    (HEM : Hid (∀ w, Calls Tryd.prog 28 #[.int .i64 f] w fun e w' => e = .returned (.int .i64 em) ∧ w' = w))
    (HE1 : Hid (IntKind.i64.wrap (2 * em) = e1))
    (HE2 : Hid (IntKind.i64.wrap (e1 + 1) = e2))
    (HZ2 : Hid (¬ e2 < z))
    (HBG : Hid (∀ w, Calls Tryd.prog 30 #[.agg #[.int .u64 (dgl (b) 0 : Nat), .int .u64 (dgl (b) 1 : Nat), .int .u64 (dgl (b) 2 : Nat), .int .u64 (dgl (b) 3 : Nat), .int .u64 (dgl (b) 4 : Nat), .int .u64 (dgl (b) 5 : Nat), .int .u64 (dgl (b) 6 : Nat), .int .u64 (dgl (b) 7 : Nat)]] w fun e w' => ∃ v, e = .returned v ∧ BigV w' v b 40 ∧ Below w.heap.size w w'))
    (HLN : Hid (∀ v w, BigV w v b 40 → Calls Tryd.prog 29 #[v] w fun e w' => e = .returned (.int .i64 ln) ∧ w' = w))
    (HPR : Hid (∀ w, Calls Tryd.prog 31 #[.int .i64 f] w fun e w' => e = .returned (.int .i64 pr) ∧ w' = w))
    (HP1 : Hid (IntKind.i64.wrap (pr - 1) = p1))
    (HL2 : Hid (¬ p1 < ln))
    (HRN : Hid (∀ w, Calls Tryd.prog 17 #[.int .i64 f, .agg #[.int .u64 (dgl (c) 1 : Nat), .int .u64 (dgl (c) 0 : Nat)]] w fun e w' => e = .returned (.bool neg) ∧ Below w.heap.size w w'))
    (HRF : Hid (∀ w, Calls Tryd.prog 23 #[.int .i64 f, .agg #[.int .u64 (dgl (c) 1 : Nat), .int .u64 (dgl (c) 0 : Nat)]] w fun e w' => e = .returned (.int .i64 z) ∧ Below w.heap.size w w'))
    (HRR : Hid (∀ w, Calls Tryd.prog 24 #[.int .i64 f, .agg #[.int .u64 (dgl (c) 1 : Nat), .int .u64 (dgl (c) 0 : Nat)]] w fun e w' => e = .returned (.agg #[.int .u64 (dgl (b) 0 : Nat), .int .u64 (dgl (b) 1 : Nat), .int .u64 (dgl (b) 2 : Nat), .int .u64 (dgl (b) 3 : Nat), .int .u64 (dgl (b) 4 : Nat), .int .u64 (dgl (b) 5 : Nat), .int .u64 (dgl (b) 6 : Nat), .int .u64 (dgl (b) 7 : Nat)]) ∧ Below w.heap.size w w'))
    (HFT : Hid (∀ w, Calls Tryd.prog 32 #[.int .i64 f, .agg #[.int .u64 (dgl (c) 1 : Nat), .int .u64 (dgl (c) 0 : Nat)]] w fun e w' => e = .returned (.bool true) ∧ Below w.heap.size w w'))
    (HCL : Hid (∀ w, Calls Tryd.prog 12 #[.int .i64 f, .agg #[.int .u64 (dgl (a) 1 : Nat), .int .u64 (dgl (a) 0 : Nat)]] w fun e w' => e = .returned (.int .i64 (k : Nat)) ∧ Below w.heap.size w w'))
    (HK : Hid (((k : Nat) : Int) ≠ 0))
    (HNA : Hid (∀ w, FmtG w → Calls Tryd.prog 16 #[.int .i64 f, .agg #[.int .u64 (dgl (a) 1 : Nat), .int .u64 (dgl (a) 0 : Nat)]] w fun e w' => e = .returned (.bool na) ∧ Below w.heap.size w w'))
    (HFA : Hid (∀ w, FmtG w → Calls Tryd.prog 18 #[.int .i64 f, .agg #[.int .u64 (dgl (a) 1 : Nat), .int .u64 (dgl (a) 0 : Nat)]] w fun e w' => e = .returned (.int .i64 (fa : Nat)) ∧ Below w.heap.size w w'))
    (HRA : Hid (∀ w, FmtG w → Calls Tryd.prog 19 #[.int .i64 f, .agg #[.int .u64 (dgl (a) 1 : Nat), .int .u64 (dgl (a) 0 : Nat)]] w fun e w' => e = .returned (.agg #[.int .u64 (dgl (ra) 0 : Nat), .int .u64 (dgl (ra) 1 : Nat), .int .u64 (dgl (ra) 2 : Nat), .int .u64 (dgl (ra) 3 : Nat), .int .u64 (dgl (ra) 4 : Nat), .int .u64 (dgl (ra) 5 : Nat), .int .u64 (dgl (ra) 6 : Nat), .int .u64 (dgl (ra) 7 : Nat)]) ∧ Below w.heap.size w w'))
    (HOW : Hid (∀ w, FmtG w → Calls Tryd.prog 26 #[.int .i64 f, .bool na, .int .i64 (fa : Nat), .agg #[.int .u64 (dgl (ra) 0 : Nat), .int .u64 (dgl (ra) 1 : Nat), .int .u64 (dgl (ra) 2 : Nat), .int .u64 (dgl (ra) 3 : Nat), .int .u64 (dgl (ra) 4 : Nat), .int .u64 (dgl (ra) 5 : Nat), .int .u64 (dgl (ra) 6 : Nat), .int .u64 (dgl (ra) 7 : Nat)]] w fun e w' => e = .returned (.tuple #[.agg #[.int .u64 (dgl (a) 1 : Nat), .int .u64 (dgl (a) 0 : Nat)], .bool true]) ∧ Below w.heap.size w w')) (w : World) (hg : FmtG w) :
    Calls Tryd.prog 4 #[.agg #[.int .i64 f, .bool neg, .int .i64 z, .int .u64 (dgl b 0 : Nat), .int .u64 (dgl b 1 : Nat), .int .u64 (dgl b 2 : Nat), .int .u64 (dgl b 3 : Nat), .int .u64 (dgl b 4 : Nat), .int .u64 (dgl b 5 : Nat), .int .u64 (dgl b 6 : Nat), .int .u64 (dgl b 7 : Nat)], .agg #[.int .u64 (dgl (a) 1 : Nat), .int .u64 (dgl (a) 0 : Nat)]] w fun e w' => e = .returned (.bool true) ∧ Below w.heap.size w w' := by
  have HST := hide (prSt_start f z neg b a w hg)
  clear hg
  go_enter Tryd.func4, Tryd.ntmps4
  go_upto_region 1 with fail
  refine wp_gen (fun W => PrSt f z neg b a w W) HST.out ?_
  clear HST
  rintro W1 h1
  refine wp_region_storeK 13 [12] [13, 14, 15, 16, 17, 18, 19, 20, 8, 5, 6, 7] (fun bs => [(13, .val (.pointer (some ⟨w.heap.size, 0, none⟩))), (14, .val (.int .i64 f)), (15, .val (.pointer (some ⟨w.heap.size, 1, none⟩))), (16, .val (.bool neg)), (17, .val (.pointer (some ⟨w.heap.size, 2, none⟩))), (18, .val (.int .i64 z)), (19, .val (.pointer (some ⟨w.heap.size, 3, none⟩))), (20, .val (.agg #[.int .u64 (dgl (b) 0 : Nat), .int .u64 (dgl (b) 1 : Nat), .int .u64 (dgl (b) 2 : Nat), .int .u64 (dgl (b) 3 : Nat), .int .u64 (dgl (b) 4 : Nat), .int .u64 (dgl (b) 5 : Nat), .int .u64 (dgl (b) 6 : Nat), .int .u64 (dgl (b) 7 : Nat)])), (8, bif bs.headD false then SlotIs.box (w.heap.size + 2) (dgl b) else SlotIs.box (w.heap.size + 2) (fun _ => 0)), (5, .val (.int .i64 f)), (6, .val (.bool neg)), (7, .val (.int .i64 z))])
    (fun _ W => PrSt f z neg b a w W) (fun bs => rfl) mixedOk (by kernel_rfl) (by kernel_rfl) (by kernel_rfl) (h1.below (Below.refl _ _).drew) (fun bs W W' h hb => h.below hb) ?_ ?_
  · refine kSt rfl (fun φ hφ => gStep_run rfl ?_) ?_
    · intro ρ W hC hc hf hL
      have e2 : ρ (.tmp 2) = .pointer (some ⟨w.heap.size, 0, none⟩) := hL 2 (by decide +kernel)
      simp [go_sem, hc, hf, e2]
      exact ⟨Below.refl _ _, rfl⟩
    refine kSt rfl (fun φ hφ => gStep_run rfl ?_) ?_
    · intro ρ W hC hc hf hL
      have e13 : ρ (.tmp 13) = .pointer (some ⟨w.heap.size, 0, none⟩) := hL 13 (by decide +kernel)
      have l0 := hC.cf
      simp [go_sem, hc, hf, e13, l0]
      exact ⟨Below.refl _ _, rfl⟩
    refine kSt rfl (fun φ hφ => gStep_run rfl ?_) ?_
    · intro ρ W hC hc hf hL
      have e2 : ρ (.tmp 2) = .pointer (some ⟨w.heap.size, 0, none⟩) := hL 2 (by decide +kernel)
      simp [go_sem, hc, hf, e2]
      exact ⟨Below.refl _ _, rfl⟩
    refine kSt rfl (fun φ hφ => gStep_run rfl ?_) ?_
    · intro ρ W hC hc hf hL
      have e15 : ρ (.tmp 15) = .pointer (some ⟨w.heap.size, 1, none⟩) := hL 15 (by decide +kernel)
      have l0 := hC.cn
      simp [go_sem, hc, hf, e15, l0]
      exact ⟨Below.refl _ _, rfl⟩
    refine kSt rfl (fun φ hφ => gStep_run rfl ?_) ?_
    · intro ρ W hC hc hf hL
      have e2 : ρ (.tmp 2) = .pointer (some ⟨w.heap.size, 0, none⟩) := hL 2 (by decide +kernel)
      simp [go_sem, hc, hf, e2]
      exact ⟨Below.refl _ _, rfl⟩
    refine kSt rfl (fun φ hφ => gStep_run rfl ?_) ?_
    · intro ρ W hC hc hf hL
      have e17 : ρ (.tmp 17) = .pointer (some ⟨w.heap.size, 2, none⟩) := hL 17 (by decide +kernel)
      have l0 := hC.cz
      simp [go_sem, hc, hf, e17, l0]
      exact ⟨Below.refl _ _, rfl⟩
    refine kSt rfl (fun φ hφ => gStep_run rfl ?_) ?_
    · intro ρ W hC hc hf hL
      have e2 : ρ (.tmp 2) = .pointer (some ⟨w.heap.size, 0, none⟩) := hL 2 (by decide +kernel)
      simp [go_sem, hc, hf, e2]
      exact ⟨Below.refl _ _, rfl⟩
    refine kSt rfl (fun φ hφ => gStep_run rfl ?_) ?_
    · intro ρ W hC hc hf hL
      have e19 : ρ (.tmp 19) = .pointer (some ⟨w.heap.size, 3, none⟩) := hL 19 (by decide +kernel)
      have l0 := hC.x0
      have l1 := hC.x1
      have l2 := hC.x2
      have l3 := hC.x3
      have l4 := hC.x4
      have l5 := hC.x5
      have l6 := hC.x6
      have l7 := hC.x7
      simp [go_sem, hc, hf, e19, l0, l1, l2, l3, l4, l5, l6, l7]
      exact ⟨Below.refl _ _, rfl⟩
    refine kSt rfl (fun φ hφ => gStep_run rfl ?_) ?_
    · intro ρ W hC hc hf hL
      have hφ0 : φ 12 = false := hφ 12 (by simp) (by kernel_rfl)
      simp [go_sem, hc, hf]
      refine ⟨below_allocs _ _, ?_⟩
      show (bif φ 12 then SlotIs.box (w.heap.size + 2) (dgl b) else SlotIs.box (w.heap.size + 2) (fun _ => 0)).R _ _
      rw [hφ0]
      exact ⟨_, rfl, hC.wa.lt, liesF_new _ (fun _ => 0) _, fun i => by simp [go_sem]⟩
    refine kSt rfl (fun φ hφ => gStep_run rfl (gRun_move 14 5 (.inr rfl) rfl (by decide +kernel) (fun v w h => h))) ?_
    refine kSt rfl (fun φ hφ => gStep_run rfl (gRun_move 16 6 (.inr rfl) rfl (by decide +kernel) (fun v w h => h))) ?_
    refine kSt rfl (fun φ hφ => gStep_run rfl (gRun_move 18 7 (.inr rfl) rfl (by decide +kernel) (fun v w h => h))) ?_
    refine kStS rfl ⟨rfl, rfl, ?_⟩ ?_
    · intro φ ρ W hφ hC hc hL
      have b8 := hL 8 (by decide +kernel)
      have e20 : ρ (.tmp 20) = .agg #[.int .u64 (dgl (b) 0 : Nat), .int .u64 (dgl (b) 1 : Nat), .int .u64 (dgl (b) 2 : Nat), .int .u64 (dgl (b) 3 : Nat), .int .u64 (dgl (b) 4 : Nat), .int .u64 (dgl (b) 5 : Nat), .int .u64 (dgl (b) 6 : Nat), .int .u64 (dgl (b) 7 : Nat)] := hL 20 (by decide +kernel)
      have b8 : (bif φ 12 then SlotIs.box (w.heap.size + 2) (dgl b) else SlotIs.box (w.heap.size + 2) (fun _ => 0)).R (ρ (.tmp 8)) W := hL 8 (by decide +kernel)
      rw [hφ] at b8
      obtain ⟨p8, e8, q8, l8, z8⟩ := b8
      have hz := l8.1
      have hzl := l8.2
      refine gUpon_of ((((((((W.setCell ⟨p8, 0, none⟩ (.int .u64 (dgl b 0 : Nat))).setCell ⟨p8, 1, none⟩ (.int .u64 (dgl b 1 : Nat))).setCell ⟨p8, 2, none⟩ (.int .u64 (dgl b 2 : Nat))).setCell ⟨p8, 3, none⟩ (.int .u64 (dgl b 3 : Nat))).setCell ⟨p8, 4, none⟩ (.int .u64 (dgl b 4 : Nat))).setCell ⟨p8, 5, none⟩ (.int .u64 (dgl b 5 : Nat))).setCell ⟨p8, 6, none⟩ (.int .u64 (dgl b 6 : Nat))).setCell ⟨p8, 7, none⟩ (.int .u64 (dgl b 7 : Nat))) ?_ (fun _ => ?_)
      · simp [go_sem, hc, e20, e8, hz, hzl, z8, gUpon]
      have hs8 := below_set8 (Below.refl (w.heap.size + 2) W) p8 q8 (.int .u64 (dgl b 0 : Nat)) (.int .u64 (dgl b 1 : Nat)) (.int .u64 (dgl b 2 : Nat)) (.int .u64 (dgl b 3 : Nat)) (.int .u64 (dgl b 4 : Nat)) (.int .u64 (dgl b 5 : Nat)) (.int .u64 (dgl b 6 : Nat)) (.int .u64 (dgl b 7 : Nat))
      refine ⟨hC.under hs8 (by omega), fun t => ?_⟩
      refine (tbl_imp rfl (fun _ => val_imp) (tbl_imp rfl (fun _ => val_imp) (tbl_imp rfl (fun _ => val_imp) (tbl_imp rfl (fun _ => val_imp) (tbl_imp rfl (fun _ => val_imp) (tbl_imp rfl (fun _ => val_imp) (tbl_imp rfl (fun _ => val_imp) (tbl_imp rfl (fun _ => val_imp) (tbl_imp rfl (fun ht h => ?_) (tbl_imp rfl (fun _ => val_imp) (tbl_imp rfl (fun _ => val_imp) (tbl_imp rfl (fun _ => val_imp) tbl_nil_imp))))))))))))
      subst ht
      show (bif (φ 12 || true) then SlotIs.box (w.heap.size + 2) (dgl b) else SlotIs.box (w.heap.size + 2) (fun _ => 0)).R _ _
      rw [Bool.or_true]
      exact ⟨p8, e8, q8, set8_same W p8 (dgl b) (fun _ => 0) l8, fun i => by simpa [go_sem] using z8 i⟩
    exact kSt0
  · intro W hC
    refine gFi 13 rfl ?_
    rintro _ rfl
    refine gFi 14 rfl ?_
    rintro _ rfl
    refine gFi 15 rfl ?_
    rintro _ rfl
    refine gFi 16 rfl ?_
    rintro _ rfl
    refine gFi 17 rfl ?_
    rintro _ rfl
    refine gFi 18 rfl ?_
    rintro _ rfl
    refine gFi 19 rfl ?_
    rintro _ rfl
    refine gFi 20 rfl ?_
    rintro _ rfl
    refine gFi 8 rfl ?_
    rintro u8 b8
    refine gFi 5 rfl ?_
    rintro _ rfl
    refine gFi 6 rfl ?_
    rintro _ rfl
    refine gFi 7 rfl ?_
    rintro _ rfl
    refine gFiN rfl ?_
    refine gFi0 ?_
    simp only [List.drop_succ_cons, List.drop_zero, Act.put, List.setIfInBounds_toArray, List.set_cons_succ, List.set_cons_zero]
    obtain ⟨p8, rfl, _, l8, _⟩ := b8
    have HS : Hid (Mk3 a w W) := hide ⟨hC.g, hC.wa, hC.bel⟩
    have HL := hide l8
    clear hC l8 h1
    have hl := HL.out.1
    go_wp2_with fail
    refine (HM.out _ HS.out.g).mono ?_
    rintro e w2 ⟨rfl, hb2⟩
    replace HS := hide (HS.out.below hb2)
    replace HL := hide (HL.out.below hb2)
    clear hb2 hl
    go_upto_region 3 with fail
    refine wp_gen (fun W => Mk3 a w W ∧ LiesF W p8 (dgl b) ∧ WB W w2.heap.size (dgl c 1) (dgl c 0)) ⟨HS.out.below (below_allocs _ _), HL.out.below (below_allocs _ _), wb_newN _ _ _ _⟩ ?_
    clear HS HL
    generalize w2.heap.size = p9
    rintro W3 ⟨g1, g2, g3⟩
    have HS := hide g1
    have HL := hide g2
    have HQ := hide g3
    clear g1 g2 g3
    go_wp2_with fail
    refine (HIS.out _).mono ?_
    rintro e wl ⟨rfl, hw⟩
    subst wl
    have hz := HZ.out
    go_wp2_with fail
    refine (HEM.out _).mono ?_
    rintro e wl ⟨rfl, hw⟩
    subst wl
    have he1 := HE1.out
    have he2 := HE2.out
    have hz2 := HZ2.out
    have hl := HL.out.1
    go_wp2_with fail
    refine (HBG.out _).mono ?_
    rintro e w4 ⟨v4, rfl, hv4, hb4⟩
    replace HS := hide (HS.out.below hb4)
    replace HL := hide (HL.out.below hb4)
    replace HQ := hide (HQ.out.below hb4)
    have HV := hide hv4
    clear hb4 hv4 hl
    go_wp2_with fail
    refine (HLN.out _ _ HV.out).mono ?_
    rintro e wl ⟨rfl, hw⟩
    subst wl
    clear HV
    go_wp2_with fail
    refine (HPR.out _).mono ?_
    rintro e wl ⟨rfl, hw⟩
    subst wl
    have hp1 := HP1.out
    have hl2 := HL2.out
    go_upto_region 6 with fail
    refine wp_gen (fun W => Mk3 a w W ∧ LiesF W p8 (dgl b) ∧ WB W p9 (dgl c 1) (dgl c 0)) ⟨HS.out, HL.out, HQ.out⟩ ?_
    clear HS HL HQ hz he1 he2 hz2 hp1 hl2
    rintro W6 ⟨g1, g2, g3⟩
    refine wp_region_grow 29 [(59, .val (.bool true)), (60, .val (.bool false)), (61, .val (.bool false)), (62, .val (.int .i64 f)), (63, .val (.agg #[.int .u64 (dgl (c) 1 : Nat), .int .u64 (dgl (c) 0 : Nat)])), (64, .val (.bool neg)), (65, .val (.bool neg)), (66, .val (.bool false)), (67, .val (.bool false)), (68, .val (.bool false)), (69, .val (.int .i64 f)), (70, .val (.agg #[.int .u64 (dgl (c) 1 : Nat), .int .u64 (dgl (c) 0 : Nat)])), (71, .val (.int .i64 z)), (72, .val (.int .i64 z)), (73, .val (.bool false)), (74, .val (.bool false)), (75, .val (.bool false)), (76, .val (.int .i64 f)), (77, .val (.agg #[.int .u64 (dgl (c) 1 : Nat), .int .u64 (dgl (c) 0 : Nat)])), (78, .val (.agg #[.int .u64 (dgl (b) 0 : Nat), .int .u64 (dgl (b) 1 : Nat), .int .u64 (dgl (b) 2 : Nat), .int .u64 (dgl (b) 3 : Nat), .int .u64 (dgl (b) 4 : Nat), .int .u64 (dgl (b) 5 : Nat), .int .u64 (dgl (b) 6 : Nat), .int .u64 (dgl (b) 7 : Nat)])), (79, .val (.agg #[.int .u64 (dgl (b) 0 : Nat), .int .u64 (dgl (b) 1 : Nat), .int .u64 (dgl (b) 2 : Nat), .int .u64 (dgl (b) 3 : Nat), .int .u64 (dgl (b) 4 : Nat), .int .u64 (dgl (b) 5 : Nat), .int .u64 (dgl (b) 6 : Nat), .int .u64 (dgl (b) 7 : Nat)])), (80, .val (.bool false)), (81, .val (.bool false)), (82, .val (.bool false)), (83, .val (.int .i64 f)), (84, .val (.agg #[.int .u64 (dgl (c) 1 : Nat), .int .u64 (dgl (c) 0 : Nat)])), (85, .val (.bool true)), (86, .val (.bool false)), (87, .val (.bool false))]
      (fun W => Mk3 a w W ∧ LiesF W p8 (dgl b) ∧ WB W p9 (dgl c 1) (dgl c 0)) mixedOk (by kernel_rfl) (by kernel_rfl) (⟨g1.below (Below.refl _ _).drew, g2.below (Below.refl _ _).drew, g3.below (Below.refl _ _).drew⟩) (fun W W' h hb => ⟨h.1.below hb, h.2.1.below hb, h.2.2.below hb⟩) ?_ ?_
    · refine gSt (gStep_run rfl (gRun_move 10 59 (.inl rfl) rfl (by decide +kernel) (fun v w h => h))) ?_
      refine gSt (gStep_run rfl ?_) ?_
      · intro ρ W hC hc hf hL
        have e59 : ρ (.tmp 59) = .bool true := hL 59 (by decide +kernel)
        simp [go_sem, hc, hf, e59]
        exact ⟨Below.refl _ _, rfl⟩
      refine gSt (gStep_run rfl (gRun_move 60 61 (.inl rfl) rfl (by decide +kernel) (fun v w h => h))) ?_
      refine gSt (gStep_on 2 61 false rfl rfl (by decide +kernel) (fun v w h => h) (gRun_move 5 62 (.inl rfl) rfl (by decide +kernel) (fun v w h => h))) ?_
      refine gSt (gStep_on 2 61 false rfl rfl (by decide +kernel) (fun v w h => h) ?_) ?_
      · intro ρ W hC hc hf hL
        have e9 : ρ (.tmp 9) = .pointer (some ⟨p9, 0, none⟩) := hL 9 (by decide +kernel)
        have l0 := hC.2.2.h
        have l1 := hC.2.2.l
        simp [go_sem, hc, hf, e9, l0, l1]
        exact ⟨Below.refl _ _, rfl⟩
      refine gSt (gStep_on 2 61 false rfl rfl (by decide +kernel) (fun v w h => h) ?_) ?_
      · intro ρ W hC hc hf hL
        have e62 : ρ (.tmp 62) = .int .i64 f := hL 62 (by decide +kernel)
        have e63 : ρ (.tmp 63) = .agg #[.int .u64 (dgl (c) 1 : Nat), .int .u64 (dgl (c) 0 : Nat)] := hL 63 (by decide +kernel)
        simp [go_sem, hc, hf, e62, e63]
        refine (HRN.out W).mono ?_
        rintro e w' ⟨rfl, hb⟩
        exact ⟨_, rfl, by first | exact hb | (subst hb; exact Below.refl _ _), rfl⟩
      refine gSt (gStep_on 2 61 false rfl rfl (by decide +kernel) (fun v w h => h) (gRun_move 6 65 (.inl rfl) rfl (by decide +kernel) (fun v w h => h))) ?_
      refine gSt (gStep_on 2 61 false rfl rfl (by decide +kernel) (fun v w h => h) ?_) ?_
      · intro ρ W hC hc hf hL
        have e64 : ρ (.tmp 64) = .bool neg := hL 64 (by decide +kernel)
        have e65 : ρ (.tmp 65) = .bool neg := hL 65 (by decide +kernel)
        simp [go_sem, hc, hf, e64, e65]
        exact ⟨Below.refl _ _, rfl⟩
      refine gSt (gStep_run rfl (gRun_pickCF 61 66 67 _ rfl rfl (by decide +kernel) (by decide +kernel) (fun v w h => h) (fun v w h => h))) ?_
      refine gSt (gStep_run rfl (gRun_move 67 68 (.inl rfl) rfl (by decide +kernel) (fun v w h => h))) ?_
      refine gSt (gStep_on 9 68 false rfl rfl (by decide +kernel) (fun v w h => h) (gRun_move 5 69 (.inl rfl) rfl (by decide +kernel) (fun v w h => h))) ?_
      refine gSt (gStep_on 9 68 false rfl rfl (by decide +kernel) (fun v w h => h) ?_) ?_
      · intro ρ W hC hc hf hL
        have e9 : ρ (.tmp 9) = .pointer (some ⟨p9, 0, none⟩) := hL 9 (by decide +kernel)
        have l0 := hC.2.2.h
        have l1 := hC.2.2.l
        simp [go_sem, hc, hf, e9, l0, l1]
        exact ⟨Below.refl _ _, rfl⟩
      refine gSt (gStep_on 9 68 false rfl rfl (by decide +kernel) (fun v w h => h) ?_) ?_
      · intro ρ W hC hc hf hL
        have e69 : ρ (.tmp 69) = .int .i64 f := hL 69 (by decide +kernel)
        have e70 : ρ (.tmp 70) = .agg #[.int .u64 (dgl (c) 1 : Nat), .int .u64 (dgl (c) 0 : Nat)] := hL 70 (by decide +kernel)
        simp [go_sem, hc, hf, e69, e70]
        refine (HRF.out W).mono ?_
        rintro e w' ⟨rfl, hb⟩
        exact ⟨_, rfl, by first | exact hb | (subst hb; exact Below.refl _ _), rfl⟩
      refine gSt (gStep_on 9 68 false rfl rfl (by decide +kernel) (fun v w h => h) (gRun_move 7 72 (.inl rfl) rfl (by decide +kernel) (fun v w h => h))) ?_
      refine gSt (gStep_on 9 68 false rfl rfl (by decide +kernel) (fun v w h => h) ?_) ?_
      · intro ρ W hC hc hf hL
        have e71 : ρ (.tmp 71) = .int .i64 z := hL 71 (by decide +kernel)
        have e72 : ρ (.tmp 72) = .int .i64 z := hL 72 (by decide +kernel)
        simp [go_sem, hc, hf, e71, e72]
        exact ⟨Below.refl _ _, rfl⟩
      refine gSt (gStep_run rfl (gRun_pickCF 68 73 74 _ rfl rfl (by decide +kernel) (by decide +kernel) (fun v w h => h) (fun v w h => h))) ?_
      refine gSt (gStep_run rfl (gRun_move 74 75 (.inl rfl) rfl (by decide +kernel) (fun v w h => h))) ?_
      refine gSt (gStep_on 16 75 false rfl rfl (by decide +kernel) (fun v w h => h) (gRun_move 5 76 (.inl rfl) rfl (by decide +kernel) (fun v w h => h))) ?_
      refine gSt (gStep_on 16 75 false rfl rfl (by decide +kernel) (fun v w h => h) ?_) ?_
      · intro ρ W hC hc hf hL
        have e9 : ρ (.tmp 9) = .pointer (some ⟨p9, 0, none⟩) := hL 9 (by decide +kernel)
        have l0 := hC.2.2.h
        have l1 := hC.2.2.l
        simp [go_sem, hc, hf, e9, l0, l1]
        exact ⟨Below.refl _ _, rfl⟩
      refine gSt (gStep_on 16 75 false rfl rfl (by decide +kernel) (fun v w h => h) ?_) ?_
      · intro ρ W hC hc hf hL
        have e76 : ρ (.tmp 76) = .int .i64 f := hL 76 (by decide +kernel)
        have e77 : ρ (.tmp 77) = .agg #[.int .u64 (dgl (c) 1 : Nat), .int .u64 (dgl (c) 0 : Nat)] := hL 77 (by decide +kernel)
        simp [go_sem, hc, hf, e76, e77]
        refine (HRR.out W).mono ?_
        rintro e w' ⟨rfl, hb⟩
        exact ⟨_, rfl, by first | exact hb | (subst hb; exact Below.refl _ _), rfl⟩
      refine gSt (gStep_on 16 75 false rfl rfl (by decide +kernel) (fun v w h => h) ?_) ?_
      · intro ρ W hC hc hf hL
        have e8 : ρ (.tmp 8) = .pointer (some ⟨p8, 0, none⟩) := hL 8 (by decide +kernel)
        have l0 := hC.2.1.1
        simp [go_sem, hc, hf, e8, l0]
        exact ⟨Below.refl _ _, rfl⟩
      refine gSt (gStep_on 16 75 false rfl rfl (by decide +kernel) (fun v w h => h) ?_) ?_
      · intro ρ W hC hc hf hL
        have e78 : ρ (.tmp 78) = .agg #[.int .u64 (dgl (b) 0 : Nat), .int .u64 (dgl (b) 1 : Nat), .int .u64 (dgl (b) 2 : Nat), .int .u64 (dgl (b) 3 : Nat), .int .u64 (dgl (b) 4 : Nat), .int .u64 (dgl (b) 5 : Nat), .int .u64 (dgl (b) 6 : Nat), .int .u64 (dgl (b) 7 : Nat)] := hL 78 (by decide +kernel)
        have e79 : ρ (.tmp 79) = .agg #[.int .u64 (dgl (b) 0 : Nat), .int .u64 (dgl (b) 1 : Nat), .int .u64 (dgl (b) 2 : Nat), .int .u64 (dgl (b) 3 : Nat), .int .u64 (dgl (b) 4 : Nat), .int .u64 (dgl (b) 5 : Nat), .int .u64 (dgl (b) 6 : Nat), .int .u64 (dgl (b) 7 : Nat)] := hL 79 (by decide +kernel)
        have l0 := fun w => wide_sameF (dgl b) w
        simp [go_sem, hc, hf, e78, e79, l0]
        exact ⟨Below.refl _ _, rfl⟩
      refine gSt (gStep_run rfl (gRun_pickCF 75 80 81 _ rfl rfl (by decide +kernel) (by decide +kernel) (fun v w h => h) (fun v w h => h))) ?_
      refine gSt (gStep_run rfl (gRun_move 81 82 (.inl rfl) rfl (by decide +kernel) (fun v w h => h))) ?_
      refine gSt (gStep_on 23 82 false rfl rfl (by decide +kernel) (fun v w h => h) (gRun_move 5 83 (.inl rfl) rfl (by decide +kernel) (fun v w h => h))) ?_
      refine gSt (gStep_on 23 82 false rfl rfl (by decide +kernel) (fun v w h => h) ?_) ?_
      · intro ρ W hC hc hf hL
        have e9 : ρ (.tmp 9) = .pointer (some ⟨p9, 0, none⟩) := hL 9 (by decide +kernel)
        have l0 := hC.2.2.h
        have l1 := hC.2.2.l
        simp [go_sem, hc, hf, e9, l0, l1]
        exact ⟨Below.refl _ _, rfl⟩
      refine gSt (gStep_on 23 82 false rfl rfl (by decide +kernel) (fun v w h => h) ?_) ?_
      · intro ρ W hC hc hf hL
        have e83 : ρ (.tmp 83) = .int .i64 f := hL 83 (by decide +kernel)
        have e84 : ρ (.tmp 84) = .agg #[.int .u64 (dgl (c) 1 : Nat), .int .u64 (dgl (c) 0 : Nat)] := hL 84 (by decide +kernel)
        simp [go_sem, hc, hf, e83, e84]
        refine (HFT.out W).mono ?_
        rintro e w' ⟨rfl, hb⟩
        exact ⟨_, rfl, by first | exact hb | (subst hb; exact Below.refl _ _), rfl⟩
      refine gSt (gStep_on 23 82 false rfl rfl (by decide +kernel) (fun v w h => h) ?_) ?_
      · intro ρ W hC hc hf hL
        have e85 : ρ (.tmp 85) = .bool true := hL 85 (by decide +kernel)
        simp [go_sem, hc, hf, e85]
        exact ⟨Below.refl _ _, rfl⟩
      refine gSt (gStep_run rfl (gRun_pickCF 82 86 87 _ rfl rfl (by decide +kernel) (by decide +kernel) (fun v w h => h) (fun v w h => h))) ?_
      exact gSt0
    · intro W hC
      refine gFi 59 rfl ?_
      rintro _ rfl
      refine gFi 60 rfl ?_
      rintro _ rfl
      refine gFi 61 rfl ?_
      rintro _ rfl
      refine gFi 62 rfl ?_
      rintro _ rfl
      refine gFi 63 rfl ?_
      rintro _ rfl
      refine gFi 64 rfl ?_
      rintro _ rfl
      refine gFi 65 rfl ?_
      rintro _ rfl
      refine gFi 66 rfl ?_
      rintro _ rfl
      refine gFi 67 rfl ?_
      rintro _ rfl
      refine gFi 68 rfl ?_
      rintro _ rfl
      refine gFi 69 rfl ?_
      rintro _ rfl
      refine gFi 70 rfl ?_
      rintro _ rfl
      refine gFi 71 rfl ?_
      rintro _ rfl
      refine gFi 72 rfl ?_
      rintro _ rfl
      refine gFi 73 rfl ?_
      rintro _ rfl
      refine gFi 74 rfl ?_
      rintro _ rfl
      refine gFi 75 rfl ?_
      rintro _ rfl
      refine gFi 76 rfl ?_
      rintro _ rfl
      refine gFi 77 rfl ?_
      rintro _ rfl
      refine gFi 78 rfl ?_
      rintro _ rfl
      refine gFi 79 rfl ?_
      rintro _ rfl
      refine gFi 80 rfl ?_
      rintro _ rfl
      refine gFi 81 rfl ?_
      rintro _ rfl
      refine gFi 82 rfl ?_
      rintro _ rfl
      refine gFi 83 rfl ?_
      rintro _ rfl
      refine gFi 84 rfl ?_
      rintro _ rfl
      refine gFi 85 rfl ?_
      rintro _ rfl
      refine gFi 86 rfl ?_
      rintro _ rfl
      refine gFi 87 rfl ?_
      rintro _ rfl
      refine gFi0 ?_
      simp only [List.drop_succ_cons, List.drop_zero, Act.put, List.setIfInBounds_toArray, List.set_cons_succ, List.set_cons_zero]
      have HS := hide hC.1
      clear hC g1 g2 g3
      go_upto_region 8 with fail
      have l0 := HS.out.wa.h
      have l1 := HS.out.wa.l
      go_wp2_with fail
      refine (HCL.out _).mono ?_
      rintro e w7 ⟨rfl, hb7⟩
      replace HS := hide (HS.out.below hb7)
      clear hb7 l0 l1
      have hk := HK.out
      go_upto_region 10 with fail
      refine wp_gen (fun W => Mk3 a w W) HS.out ?_
      clear HS hk
      rintro W8 g1
      refine wp_region_storeK 17 [15] [94, 95, 96, 97, 98, 99, 100, 101, 102, 103, 104, 93, 105, 106, 11, 12] (fun bs => [(94, .val (.int .i64 f)), (95, .val (.int .i64 f)), (96, .val (.agg #[.int .u64 (dgl (a) 1 : Nat), .int .u64 (dgl (a) 0 : Nat)])), (97, .val (.bool na)), (98, .val (.int .i64 f)), (99, .val (.agg #[.int .u64 (dgl (a) 1 : Nat), .int .u64 (dgl (a) 0 : Nat)])), (100, .val (.int .i64 (fa : Nat))), (101, .val (.int .i64 f)), (102, .val (.agg #[.int .u64 (dgl (a) 1 : Nat), .int .u64 (dgl (a) 0 : Nat)])), (103, .val (.agg #[.int .u64 (dgl (ra) 0 : Nat), .int .u64 (dgl (ra) 1 : Nat), .int .u64 (dgl (ra) 2 : Nat), .int .u64 (dgl (ra) 3 : Nat), .int .u64 (dgl (ra) 4 : Nat), .int .u64 (dgl (ra) 5 : Nat), .int .u64 (dgl (ra) 6 : Nat), .int .u64 (dgl (ra) 7 : Nat)])), (104, .val (.tuple #[.agg #[.int .u64 (dgl (a) 1 : Nat), .int .u64 (dgl (a) 0 : Nat)], .bool true])), (93, .val (.tuple #[.agg #[.int .u64 (dgl (a) 1 : Nat), .int .u64 (dgl (a) 0 : Nat)], .bool true])), (105, .val (.agg #[.int .u64 (dgl (a) 1 : Nat), .int .u64 (dgl (a) 0 : Nat)])), (106, .val (.bool true)), (11, bif bs.headD false then SlotIs.wbox (w.heap.size + 2) (dgl a 1) (dgl a 0) else SlotIs.wbox (w.heap.size + 2) 0 0), (12, .val (.bool true))])
        (fun _ W => Mk3 a w W) (fun bs => rfl) mixedOk (by kernel_rfl) (by kernel_rfl) (by kernel_rfl) (g1.below (Below.refl _ _).drew) (fun bs W W' h hb => h.below hb) ?_ ?_
      · refine kSt rfl (fun φ hφ => gStep_run rfl (gRun_move 5 94 (.inl rfl) rfl (by decide +kernel) (fun v w h => h))) ?_
        refine kSt rfl (fun φ hφ => gStep_run rfl (gRun_move 5 95 (.inl rfl) rfl (by decide +kernel) (fun v w h => h))) ?_
        refine kSt rfl (fun φ hφ => gStep_run rfl ?_) ?_
        · intro ρ W hC hc hf hL
          have e3 : ρ (.tmp 3) = .pointer (some ⟨w.heap.size + 1, 0, none⟩) := hL 3 (by decide +kernel)
          have l0 := hC.wa.h
          have l1 := hC.wa.l
          simp [go_sem, hc, hf, e3, l0, l1]
          exact ⟨Below.refl _ _, rfl⟩
        refine kSt rfl (fun φ hφ => gStep_run rfl ?_) ?_
        · intro ρ W hC hc hf hL
          have e95 : ρ (.tmp 95) = .int .i64 f := hL 95 (by decide +kernel)
          have e96 : ρ (.tmp 96) = .agg #[.int .u64 (dgl (a) 1 : Nat), .int .u64 (dgl (a) 0 : Nat)] := hL 96 (by decide +kernel)
          simp [go_sem, hc, hf, e95, e96]
          refine (HNA.out W hC.g).mono ?_
          rintro e w' ⟨rfl, hb⟩
          exact ⟨_, rfl, by first | exact hb | (subst hb; exact Below.refl _ _), rfl⟩
        refine kSt rfl (fun φ hφ => gStep_run rfl (gRun_move 5 98 (.inl rfl) rfl (by decide +kernel) (fun v w h => h))) ?_
        refine kSt rfl (fun φ hφ => gStep_run rfl ?_) ?_
        · intro ρ W hC hc hf hL
          have e3 : ρ (.tmp 3) = .pointer (some ⟨w.heap.size + 1, 0, none⟩) := hL 3 (by decide +kernel)
          have l0 := hC.wa.h
          have l1 := hC.wa.l
          simp [go_sem, hc, hf, e3, l0, l1]
          exact ⟨Below.refl _ _, rfl⟩
        refine kSt rfl (fun φ hφ => gStep_run rfl ?_) ?_
        · intro ρ W hC hc hf hL
          have e98 : ρ (.tmp 98) = .int .i64 f := hL 98 (by decide +kernel)
          have e99 : ρ (.tmp 99) = .agg #[.int .u64 (dgl (a) 1 : Nat), .int .u64 (dgl (a) 0 : Nat)] := hL 99 (by decide +kernel)
          simp [go_sem, hc, hf, e98, e99]
          refine (HFA.out W hC.g).mono ?_
          rintro e w' ⟨rfl, hb⟩
          exact ⟨_, rfl, by first | exact hb | (subst hb; exact Below.refl _ _), rfl⟩
        refine kSt rfl (fun φ hφ => gStep_run rfl (gRun_move 5 101 (.inl rfl) rfl (by decide +kernel) (fun v w h => h))) ?_
        refine kSt rfl (fun φ hφ => gStep_run rfl ?_) ?_
        · intro ρ W hC hc hf hL
          have e3 : ρ (.tmp 3) = .pointer (some ⟨w.heap.size + 1, 0, none⟩) := hL 3 (by decide +kernel)
          have l0 := hC.wa.h
          have l1 := hC.wa.l
          simp [go_sem, hc, hf, e3, l0, l1]
          exact ⟨Below.refl _ _, rfl⟩
        refine kSt rfl (fun φ hφ => gStep_run rfl ?_) ?_
        · intro ρ W hC hc hf hL
          have e101 : ρ (.tmp 101) = .int .i64 f := hL 101 (by decide +kernel)
          have e102 : ρ (.tmp 102) = .agg #[.int .u64 (dgl (a) 1 : Nat), .int .u64 (dgl (a) 0 : Nat)] := hL 102 (by decide +kernel)
          simp [go_sem, hc, hf, e101, e102]
          refine (HRA.out W hC.g).mono ?_
          rintro e w' ⟨rfl, hb⟩
          exact ⟨_, rfl, by first | exact hb | (subst hb; exact Below.refl _ _), rfl⟩
        refine kSt rfl (fun φ hφ => gStep_run rfl ?_) ?_
        · intro ρ W hC hc hf hL
          have e94 : ρ (.tmp 94) = .int .i64 f := hL 94 (by decide +kernel)
          have e97 : ρ (.tmp 97) = .bool na := hL 97 (by decide +kernel)
          have e100 : ρ (.tmp 100) = .int .i64 (fa : Nat) := hL 100 (by decide +kernel)
          have e103 : ρ (.tmp 103) = .agg #[.int .u64 (dgl (ra) 0 : Nat), .int .u64 (dgl (ra) 1 : Nat), .int .u64 (dgl (ra) 2 : Nat), .int .u64 (dgl (ra) 3 : Nat), .int .u64 (dgl (ra) 4 : Nat), .int .u64 (dgl (ra) 5 : Nat), .int .u64 (dgl (ra) 6 : Nat), .int .u64 (dgl (ra) 7 : Nat)] := hL 103 (by decide +kernel)
          simp [go_sem, hc, hf, e94, e97, e100, e103]
          refine (HOW.out W hC.g).mono ?_
          rintro e w' ⟨rfl, hb⟩
          exact ⟨_, rfl, by first | exact hb | (subst hb; exact Below.refl _ _), rfl⟩
        refine kSt rfl (fun φ hφ => gStep_run rfl (gRun_move 104 93 (.inl rfl) rfl (by decide +kernel) (fun v w h => h))) ?_
        refine kSt rfl (fun φ hφ => gStep_run rfl ?_) ?_
        · intro ρ W hC hc hf hL
          have e93 : ρ (.tmp 93) = .tuple #[.agg #[.int .u64 (dgl (a) 1 : Nat), .int .u64 (dgl (a) 0 : Nat)], .bool true] := hL 93 (by decide +kernel)
          simp [go_sem, hc, hf, e93]
          exact ⟨Below.refl _ _, rfl⟩
        refine kSt rfl (fun φ hφ => gStep_run rfl ?_) ?_
        · intro ρ W hC hc hf hL
          have e93 : ρ (.tmp 93) = .tuple #[.agg #[.int .u64 (dgl (a) 1 : Nat), .int .u64 (dgl (a) 0 : Nat)], .bool true] := hL 93 (by decide +kernel)
          simp [go_sem, hc, hf, e93]
          exact ⟨Below.refl _ _, rfl⟩
        refine kSt rfl (fun φ hφ => gStep_run rfl ?_) ?_
        · intro ρ W hC hc hf hL
          have hφ0 : φ 15 = false := hφ 15 (by simp) (by kernel_rfl)
          simp [go_sem, hc, hf]
          refine ⟨below_allocs _ _, ?_⟩
          show (bif φ 15 then SlotIs.wbox (w.heap.size + 2) (dgl a 1) (dgl a 0) else SlotIs.wbox (w.heap.size + 2) 0 0).R _ _
          rw [hφ0]
          exact ⟨_, rfl, hC.wa.lt, wb_new _ _, fun i => by simp [go_sem]⟩
        refine kStS rfl ⟨rfl, rfl, ?_⟩ ?_
        · intro φ ρ W hφ hC hc hL
          have b11 := hL 11 (by decide +kernel)
          have e105 : ρ (.tmp 105) = .agg #[.int .u64 (dgl (a) 1 : Nat), .int .u64 (dgl (a) 0 : Nat)] := hL 105 (by decide +kernel)
          have b11 : (bif φ 15 then SlotIs.wbox (w.heap.size + 2) (dgl a 1) (dgl a 0) else SlotIs.wbox (w.heap.size + 2) 0 0).R (ρ (.tmp 11)) W := hL 11 (by decide +kernel)
          rw [hφ] at b11
          obtain ⟨pp, ep, qp, lp, zp⟩ := b11
          have hz := lp.h
          have hy := lp.l
          have hzl := lp.lt
          refine gUpon_of ((W.setCell ⟨pp, 0, none⟩ (.int .u64 (dgl a 1 : Nat))).setCell ⟨pp, 1, none⟩ (.int .u64 (dgl a 0 : Nat))) ?_ (fun _ => ?_)
          · simp [go_sem, hc, e105, ep, hz, hy, hzl, zp, gUpon]
          have hs2 : Below (w.heap.size + 2) W ((W.setCell ⟨pp, 0, none⟩ (.int .u64 (dgl a 1 : Nat))).setCell ⟨pp, 1, none⟩ (.int .u64 (dgl a 0 : Nat))) := ((Below.refl (w.heap.size + 2) W).setCell (p := ⟨pp, 0, none⟩) qp _).setCell (p := ⟨pp, 1, none⟩) qp _
          refine ⟨hC.under hs2, fun t => ?_⟩
          refine (tbl_imp rfl (fun _ => val_imp) (tbl_imp rfl (fun _ => val_imp) (tbl_imp rfl (fun _ => val_imp) (tbl_imp rfl (fun _ => val_imp) (tbl_imp rfl (fun _ => val_imp) (tbl_imp rfl (fun _ => val_imp) (tbl_imp rfl (fun _ => val_imp) (tbl_imp rfl (fun _ => val_imp) (tbl_imp rfl (fun _ => val_imp) (tbl_imp rfl (fun _ => val_imp) (tbl_imp rfl (fun _ => val_imp) (tbl_imp rfl (fun _ => val_imp) (tbl_imp rfl (fun _ => val_imp) (tbl_imp rfl (fun _ => val_imp) (tbl_imp rfl (fun ht h => ?_) (tbl_imp rfl (fun _ => val_imp) tbl_nil_imp))))))))))))))))
          subst ht
          show (bif (φ 15 || true) then SlotIs.wbox (w.heap.size + 2) (dgl a 1) (dgl a 0) else SlotIs.wbox (w.heap.size + 2) 0 0).R _ _
          rw [Bool.or_true]
          exact ⟨pp, ep, qp, wb_set lp, fun i => by simpa [go_sem] using zp i⟩
        refine kSt rfl (fun φ hφ => gStep_run rfl (gRun_move 106 12 (.inr rfl) rfl (by decide +kernel) (fun v w h => h))) ?_
        exact kSt0
      · intro W hC
        refine gFi 94 rfl ?_
        rintro _ rfl
        refine gFi 95 rfl ?_
        rintro _ rfl
        refine gFi 96 rfl ?_
        rintro _ rfl
        refine gFi 97 rfl ?_
        rintro _ rfl
        refine gFi 98 rfl ?_
        rintro _ rfl
        refine gFi 99 rfl ?_
        rintro _ rfl
        refine gFi 100 rfl ?_
        rintro _ rfl
        refine gFi 101 rfl ?_
        rintro _ rfl
        refine gFi 102 rfl ?_
        rintro _ rfl
        refine gFi 103 rfl ?_
        rintro _ rfl
        refine gFi 104 rfl ?_
        rintro _ rfl
        refine gFi 93 rfl ?_
        rintro _ rfl
        refine gFi 105 rfl ?_
        rintro _ rfl
        refine gFi 106 rfl ?_
        rintro _ rfl
        refine gFi 11 rfl ?_
        rintro u11 b11
        refine gFiN rfl ?_
        refine gFi 12 rfl ?_
        rintro _ rfl
        refine gFi0 ?_
        simp only [List.drop_succ_cons, List.drop_zero, Act.put, List.setIfInBounds_toArray, List.set_cons_succ, List.set_cons_zero]
        obtain ⟨p11, rfl, _, l11, _⟩ := b11
        have HS := hide hC
        have HQ := hide l11
        clear hC l11 g1
        have l0 := HS.out.wa.h
        have l1 := HS.out.wa.l
        have m0 := HQ.out.h
        have m1 := HQ.out.l
        have hs := fun w => word_same (dgl a 1) (dgl a 0) w
        go_wp2_with fail
        refine (awake6_any _ HS.out.g).mono ?_
        rintro e w8 ⟨rfl, hb8⟩
        have HB := hide (below_trans HS.out.bel hb8)
        clear hb8 HS l0 l1 m0 m1 hs HQ
        go_wp2
        go_ret
        exact ⟨rfl, HB.out⟩

theorem classMakes_f1 (z : Int) (neg na : Bool) (a b fa ra : Nat) (ha : a < 2 ^ 128) (hb : b < QQ) (w : World) (hg : FmtG w) :
    Calls Tryd.prog 4 #[.agg #[.int .i64 1, .bool neg, .int .i64 z, .int .u64 (dgl b 0 : Nat), .int .u64 (dgl b 1 : Nat), .int .u64 (dgl b 2 : Nat), .int .u64 (dgl b 3 : Nat), .int .u64 (dgl b 4 : Nat), .int .u64 (dgl b 5 : Nat), .int .u64 (dgl b 6 : Nat), .int .u64 (dgl b 7 : Nat)], .agg #[.int .u64 (dgl (a) 1 : Nat), .int .u64 (dgl (a) 0 : Nat)]] w fun e w' => e = .returned (.bool true) ∧ Below w.heap.size w w' := by
  have HCL := fun w => refCls_u 1 a ha w
  have HNA := fun w hg => cneg_u 1 a ha w hg
  have HFA := fun w hg => cfld_u 1 a ha w hg
  have HRA := fun w hg => cfrac_u 1 a ha w hg
  have HIS := fun w => is_1 w
  by_cases hy : 0 ≤ z ∧ z < 2 ^ 5 ∧ b < 2 ^ 10
  · obtain ⟨c, hc, h1, h2, h3, h4, h5, HM⟩ := makeYes_u 1 neg z b (by rw [tU_1]; exact hy)
    have HRN := fun w => refNeg_u 1 c hc w
    have HRF := fun w => refFld_u 1 c hc h5 w
    have HRR := fun w => refFrac_u 1 c hc h5 w
    have HFT := fun w => refFits_u 1 c hc w
    rw [h1] at HRN
    rw [h2] at HRF
    rw [h3] at HRR
    rw [h4] at HFT
    have hl := (len_le b 10).2 hy.2.2
    have z1 : ¬ z < 0 := by omega
    have z2 : ¬ (31 : Int) < z := by omega
    have l2 : ¬ (10 : Int) < ((Go.bitLen b : Nat) : Int) := by omega
    by_cases h0 : clsU 1 a = 0
    · rw [h0] at HCL
      exact classMakes_E0 1 z 15 30 31 (Go.bitLen b : Nat) 11 10 neg na a b c 0 fa ra HM HIS z1 (fun w => emax_1 w) (show IntKind.i64.wrap (2 * 15) = 30 by decide +kernel) (show IntKind.i64.wrap (30 + 1) = 31 by decide +kernel) z2 (fun w => refBig_any b hb w) (fun v w hv => refLen_any b 40 v w hv (by decide)) (fun w => prec_1 w) (show IntKind.i64.wrap (11 - 1) = 10 by decide +kernel) l2 HRN HRF HRR HFT HCL w hg
    · exact classMakes_E1 1 z 15 30 31 (Go.bitLen b : Nat) 11 10 neg (negU 1 a) a b c (clsU 1 a) (fldU 1 a) (frcU 1 a) HM HIS z1 (fun w => emax_1 w) (show IntKind.i64.wrap (2 * 15) = 30 by decide +kernel) (show IntKind.i64.wrap (30 + 1) = 31 by decide +kernel) z2 (fun w => refBig_any b hb w) (fun v w hv => refLen_any b 40 v w hv (by decide)) (fun w => prec_1 w) (show IntKind.i64.wrap (11 - 1) = 10 by decide +kernel) l2 HRN HRF HRR HFT HCL (by unfold Hid; omega) HNA HFA HRA (fun w hg => makeOwn_u 1 a h0 w hg) w hg
  · have HM := fun w hg => makeNo_u 1 neg z b hb (by rw [tU_1]; exact hy) w hg
    by_cases hz : z < 0
    · by_cases h0 : clsU 1 a = 0
      · rw [h0] at HCL
        exact classMakes_B0 1 z 15 30 31 (Go.bitLen b : Nat) 11 10 neg na a b 0 0 fa ra HM HIS hz HCL w hg
      · exact classMakes_B1 1 z 15 30 31 (Go.bitLen b : Nat) 11 10 neg (negU 1 a) a b 0 (clsU 1 a) (fldU 1 a) (frcU 1 a) HM HIS hz HCL (by unfold Hid; omega) HNA HFA HRA (fun w hg => makeOwn_u 1 a h0 w hg) w hg
    · by_cases hz2 : (31 : Int) < z
      · by_cases h0 : clsU 1 a = 0
        · rw [h0] at HCL
          exact classMakes_C0 1 z 15 30 31 (Go.bitLen b : Nat) 11 10 neg na a b 0 0 fa ra HM HIS hz (fun w => emax_1 w) (show IntKind.i64.wrap (2 * 15) = 30 by decide +kernel) (show IntKind.i64.wrap (30 + 1) = 31 by decide +kernel) hz2 HCL w hg
        · exact classMakes_C1 1 z 15 30 31 (Go.bitLen b : Nat) 11 10 neg (negU 1 a) a b 0 (clsU 1 a) (fldU 1 a) (frcU 1 a) HM HIS hz (fun w => emax_1 w) (show IntKind.i64.wrap (2 * 15) = 30 by decide +kernel) (show IntKind.i64.wrap (30 + 1) = 31 by decide +kernel) hz2 HCL (by unfold Hid; omega) HNA HFA HRA (fun w hg => makeOwn_u 1 a h0 w hg) w hg
      · have l2 : (10 : Int) < ((Go.bitLen b : Nat) : Int) := by
          have h3 : ¬ b < 2 ^ 10 := fun h3 => hy ⟨by omega, by omega, h3⟩
          have := mt (len_le b 10).1 h3
          omega
        by_cases h0 : clsU 1 a = 0
        · rw [h0] at HCL
          exact classMakes_D0 1 z 15 30 31 (Go.bitLen b : Nat) 11 10 neg na a b 0 0 fa ra HM HIS hz (fun w => emax_1 w) (show IntKind.i64.wrap (2 * 15) = 30 by decide +kernel) (show IntKind.i64.wrap (30 + 1) = 31 by decide +kernel) hz2 (fun w => refBig_any b hb w) (fun v w hv => refLen_any b 40 v w hv (by decide)) (fun w => prec_1 w) (show IntKind.i64.wrap (11 - 1) = 10 by decide +kernel) l2 HCL w hg
        · exact classMakes_D1 1 z 15 30 31 (Go.bitLen b : Nat) 11 10 neg (negU 1 a) a b 0 (clsU 1 a) (fldU 1 a) (frcU 1 a) HM HIS hz (fun w => emax_1 w) (show IntKind.i64.wrap (2 * 15) = 30 by decide +kernel) (show IntKind.i64.wrap (30 + 1) = 31 by decide +kernel) hz2 (fun w => refBig_any b hb w) (fun v w hv => refLen_any b 40 v w hv (by decide)) (fun w => prec_1 w) (show IntKind.i64.wrap (11 - 1) = 10 by decide +kernel) l2 HCL (by unfold Hid; omega) HNA HFA HRA (fun w hg => makeOwn_u 1 a h0 w hg) w hg

theorem classMakes_f2 (z : Int) (neg na : Bool) (a b fa ra : Nat) (ha : a < 2 ^ 128) (hb : b < QQ) (w : World) (hg : FmtG w) :
    Calls Tryd.prog 4 #[.agg #[.int .i64 2, .bool neg, .int .i64 z, .int .u64 (dgl b 0 : Nat), .int .u64 (dgl b 1 : Nat), .int .u64 (dgl b 2 : Nat), .int .u64 (dgl b 3 : Nat), .int .u64 (dgl b 4 : Nat), .int .u64 (dgl b 5 : Nat), .int .u64 (dgl b 6 : Nat), .int .u64 (dgl b 7 : Nat)], .agg #[.int .u64 (dgl (a) 1 : Nat), .int .u64 (dgl (a) 0 : Nat)]] w fun e w' => e = .returned (.bool true) ∧ Below w.heap.size w w' := by
  have HCL := fun w => refCls_u 2 a ha w
  have HNA := fun w hg => cneg_u 2 a ha w hg
  have HFA := fun w hg => cfld_u 2 a ha w hg
  have HRA := fun w hg => cfrac_u 2 a ha w hg
  have HIS := fun w => is_2 w
  by_cases hy : 0 ≤ z ∧ z < 2 ^ 8 ∧ b < 2 ^ 23
  · obtain ⟨c, hc, h1, h2, h3, h4, h5, HM⟩ := makeYes_u 2 neg z b (by rw [tU_2]; exact hy)
    have HRN := fun w => refNeg_u 2 c hc w
    have HRF := fun w => refFld_u 2 c hc h5 w
    have HRR := fun w => refFrac_u 2 c hc h5 w
    have HFT := fun w => refFits_u 2 c hc w
    rw [h1] at HRN
    rw [h2] at HRF
    rw [h3] at HRR
    rw [h4] at HFT
    have hl := (len_le b 23).2 hy.2.2
    have z1 : ¬ z < 0 := by omega
    have z2 : ¬ (255 : Int) < z := by omega
    have l2 : ¬ (23 : Int) < ((Go.bitLen b : Nat) : Int) := by omega
    by_cases h0 : clsU 2 a = 0
    · rw [h0] at HCL
      exact classMakes_E0 2 z 127 254 255 (Go.bitLen b : Nat) 24 23 neg na a b c 0 fa ra HM HIS z1 (fun w => emax_2 w) (show IntKind.i64.wrap (2 * 127) = 254 by decide +kernel) (show IntKind.i64.wrap (254 + 1) = 255 by decide +kernel) z2 (fun w => refBig_any b hb w) (fun v w hv => refLen_any b 40 v w hv (by decide)) (fun w => prec_2 w) (show IntKind.i64.wrap (24 - 1) = 23 by decide +kernel) l2 HRN HRF HRR HFT HCL w hg
    · exact classMakes_E1 2 z 127 254 255 (Go.bitLen b : Nat) 24 23 neg (negU 2 a) a b c (clsU 2 a) (fldU 2 a) (frcU 2 a) HM HIS z1 (fun w => emax_2 w) (show IntKind.i64.wrap (2 * 127) = 254 by decide +kernel) (show IntKind.i64.wrap (254 + 1) = 255 by decide +kernel) z2 (fun w => refBig_any b hb w) (fun v w hv => refLen_any b 40 v w hv (by decide)) (fun w => prec_2 w) (show IntKind.i64.wrap (24 - 1) = 23 by decide +kernel) l2 HRN HRF HRR HFT HCL (by unfold Hid; omega) HNA HFA HRA (fun w hg => makeOwn_u 2 a h0 w hg) w hg
  · have HM := fun w hg => makeNo_u 2 neg z b hb (by rw [tU_2]; exact hy) w hg
    by_cases hz : z < 0
    · by_cases h0 : clsU 2 a = 0
      · rw [h0] at HCL
        exact classMakes_B0 2 z 127 254 255 (Go.bitLen b : Nat) 24 23 neg na a b 0 0 fa ra HM HIS hz HCL w hg
      · exact classMakes_B1 2 z 127 254 255 (Go.bitLen b : Nat) 24 23 neg (negU 2 a) a b 0 (clsU 2 a) (fldU 2 a) (frcU 2 a) HM HIS hz HCL (by unfold Hid; omega) HNA HFA HRA (fun w hg => makeOwn_u 2 a h0 w hg) w hg
    · by_cases hz2 : (255 : Int) < z
      · by_cases h0 : clsU 2 a = 0
        · rw [h0] at HCL
          exact classMakes_C0 2 z 127 254 255 (Go.bitLen b : Nat) 24 23 neg na a b 0 0 fa ra HM HIS hz (fun w => emax_2 w) (show IntKind.i64.wrap (2 * 127) = 254 by decide +kernel) (show IntKind.i64.wrap (254 + 1) = 255 by decide +kernel) hz2 HCL w hg
        · exact classMakes_C1 2 z 127 254 255 (Go.bitLen b : Nat) 24 23 neg (negU 2 a) a b 0 (clsU 2 a) (fldU 2 a) (frcU 2 a) HM HIS hz (fun w => emax_2 w) (show IntKind.i64.wrap (2 * 127) = 254 by decide +kernel) (show IntKind.i64.wrap (254 + 1) = 255 by decide +kernel) hz2 HCL (by unfold Hid; omega) HNA HFA HRA (fun w hg => makeOwn_u 2 a h0 w hg) w hg
      · have l2 : (23 : Int) < ((Go.bitLen b : Nat) : Int) := by
          have h3 : ¬ b < 2 ^ 23 := fun h3 => hy ⟨by omega, by omega, h3⟩
          have := mt (len_le b 23).1 h3
          omega
        by_cases h0 : clsU 2 a = 0
        · rw [h0] at HCL
          exact classMakes_D0 2 z 127 254 255 (Go.bitLen b : Nat) 24 23 neg na a b 0 0 fa ra HM HIS hz (fun w => emax_2 w) (show IntKind.i64.wrap (2 * 127) = 254 by decide +kernel) (show IntKind.i64.wrap (254 + 1) = 255 by decide +kernel) hz2 (fun w => refBig_any b hb w) (fun v w hv => refLen_any b 40 v w hv (by decide)) (fun w => prec_2 w) (show IntKind.i64.wrap (24 - 1) = 23 by decide +kernel) l2 HCL w hg
        · exact classMakes_D1 2 z 127 254 255 (Go.bitLen b : Nat) 24 23 neg (negU 2 a) a b 0 (clsU 2 a) (fldU 2 a) (frcU 2 a) HM HIS hz (fun w => emax_2 w) (show IntKind.i64.wrap (2 * 127) = 254 by decide +kernel) (show IntKind.i64.wrap (254 + 1) = 255 by decide +kernel) hz2 (fun w => refBig_any b hb w) (fun v w hv => refLen_any b 40 v w hv (by decide)) (fun w => prec_2 w) (show IntKind.i64.wrap (24 - 1) = 23 by decide +kernel) l2 HCL (by unfold Hid; omega) HNA HFA HRA (fun w hg => makeOwn_u 2 a h0 w hg) w hg

theorem classMakes_f3 (z : Int) (neg na : Bool) (a b fa ra : Nat) (ha : a < 2 ^ 128) (hb : b < QQ) (w : World) (hg : FmtG w) :
    Calls Tryd.prog 4 #[.agg #[.int .i64 3, .bool neg, .int .i64 z, .int .u64 (dgl b 0 : Nat), .int .u64 (dgl b 1 : Nat), .int .u64 (dgl b 2 : Nat), .int .u64 (dgl b 3 : Nat), .int .u64 (dgl b 4 : Nat), .int .u64 (dgl b 5 : Nat), .int .u64 (dgl b 6 : Nat), .int .u64 (dgl b 7 : Nat)], .agg #[.int .u64 (dgl (a) 1 : Nat), .int .u64 (dgl (a) 0 : Nat)]] w fun e w' => e = .returned (.bool true) ∧ Below w.heap.size w w' := by
  have HCL := fun w => refCls_u 3 a ha w
  have HNA := fun w hg => cneg_u 3 a ha w hg
  have HFA := fun w hg => cfld_u 3 a ha w hg
  have HRA := fun w hg => cfrac_u 3 a ha w hg
  have HIS := fun w => is_3 w
  by_cases hy : 0 ≤ z ∧ z < 2 ^ 11 ∧ b < 2 ^ 52
  · obtain ⟨c, hc, h1, h2, h3, h4, h5, HM⟩ := makeYes_u 3 neg z b (by rw [tU_3]; exact hy)
    have HRN := fun w => refNeg_u 3 c hc w
    have HRF := fun w => refFld_u 3 c hc h5 w
    have HRR := fun w => refFrac_u 3 c hc h5 w
    have HFT := fun w => refFits_u 3 c hc w
    rw [h1] at HRN
    rw [h2] at HRF
    rw [h3] at HRR
    rw [h4] at HFT
    have hl := (len_le b 52).2 hy.2.2
    have z1 : ¬ z < 0 := by omega
    have z2 : ¬ (2047 : Int) < z := by omega
    have l2 : ¬ (52 : Int) < ((Go.bitLen b : Nat) : Int) := by omega
    by_cases h0 : clsU 3 a = 0
    · rw [h0] at HCL
      exact classMakes_E0 3 z 1023 2046 2047 (Go.bitLen b : Nat) 53 52 neg na a b c 0 fa ra HM HIS z1 (fun w => emax_3 w) (show IntKind.i64.wrap (2 * 1023) = 2046 by decide +kernel) (show IntKind.i64.wrap (2046 + 1) = 2047 by decide +kernel) z2 (fun w => refBig_any b hb w) (fun v w hv => refLen_any b 40 v w hv (by decide)) (fun w => prec_3 w) (show IntKind.i64.wrap (53 - 1) = 52 by decide +kernel) l2 HRN HRF HRR HFT HCL w hg
    · exact classMakes_E1 3 z 1023 2046 2047 (Go.bitLen b : Nat) 53 52 neg (negU 3 a) a b c (clsU 3 a) (fldU 3 a) (frcU 3 a) HM HIS z1 (fun w => emax_3 w) (show IntKind.i64.wrap (2 * 1023) = 2046 by decide +kernel) (show IntKind.i64.wrap (2046 + 1) = 2047 by decide +kernel) z2 (fun w => refBig_any b hb w) (fun v w hv => refLen_any b 40 v w hv (by decide)) (fun w => prec_3 w) (show IntKind.i64.wrap (53 - 1) = 52 by decide +kernel) l2 HRN HRF HRR HFT HCL (by unfold Hid; omega) HNA HFA HRA (fun w hg => makeOwn_u 3 a h0 w hg) w hg
  · have HM := fun w hg => makeNo_u 3 neg z b hb (by rw [tU_3]; exact hy) w hg
    by_cases hz : z < 0
    · by_cases h0 : clsU 3 a = 0
      · rw [h0] at HCL
        exact classMakes_B0 3 z 1023 2046 2047 (Go.bitLen b : Nat) 53 52 neg na a b 0 0 fa ra HM HIS hz HCL w hg
      · exact classMakes_B1 3 z 1023 2046 2047 (Go.bitLen b : Nat) 53 52 neg (negU 3 a) a b 0 (clsU 3 a) (fldU 3 a) (frcU 3 a) HM HIS hz HCL (by unfold Hid; omega) HNA HFA HRA (fun w hg => makeOwn_u 3 a h0 w hg) w hg
    · by_cases hz2 : (2047 : Int) < z
      · by_cases h0 : clsU 3 a = 0
        · rw [h0] at HCL
          exact classMakes_C0 3 z 1023 2046 2047 (Go.bitLen b : Nat) 53 52 neg na a b 0 0 fa ra HM HIS hz (fun w => emax_3 w) (show IntKind.i64.wrap (2 * 1023) = 2046 by decide +kernel) (show IntKind.i64.wrap (2046 + 1) = 2047 by decide +kernel) hz2 HCL w hg
        · exact classMakes_C1 3 z 1023 2046 2047 (Go.bitLen b : Nat) 53 52 neg (negU 3 a) a b 0 (clsU 3 a) (fldU 3 a) (frcU 3 a) HM HIS hz (fun w => emax_3 w) (show IntKind.i64.wrap (2 * 1023) = 2046 by decide +kernel) (show IntKind.i64.wrap (2046 + 1) = 2047 by decide +kernel) hz2 HCL (by unfold Hid; omega) HNA HFA HRA (fun w hg => makeOwn_u 3 a h0 w hg) w hg
      · have l2 : (52 : Int) < ((Go.bitLen b : Nat) : Int) := by
          have h3 : ¬ b < 2 ^ 52 := fun h3 => hy ⟨by omega, by omega, h3⟩
          have := mt (len_le b 52).1 h3
          omega
        by_cases h0 : clsU 3 a = 0
        · rw [h0] at HCL
          exact classMakes_D0 3 z 1023 2046 2047 (Go.bitLen b : Nat) 53 52 neg na a b 0 0 fa ra HM HIS hz (fun w => emax_3 w) (show IntKind.i64.wrap (2 * 1023) = 2046 by decide +kernel) (show IntKind.i64.wrap (2046 + 1) = 2047 by decide +kernel) hz2 (fun w => refBig_any b hb w) (fun v w hv => refLen_any b 40 v w hv (by decide)) (fun w => prec_3 w) (show IntKind.i64.wrap (53 - 1) = 52 by decide +kernel) l2 HCL w hg
        · exact classMakes_D1 3 z 1023 2046 2047 (Go.bitLen b : Nat) 53 52 neg (negU 3 a) a b 0 (clsU 3 a) (fldU 3 a) (frcU 3 a) HM HIS hz (fun w => emax_3 w) (show IntKind.i64.wrap (2 * 1023) = 2046 by decide +kernel) (show IntKind.i64.wrap (2046 + 1) = 2047 by decide +kernel) hz2 (fun w => refBig_any b hb w) (fun v w hv => refLen_any b 40 v w hv (by decide)) (fun w => prec_3 w) (show IntKind.i64.wrap (53 - 1) = 52 by decide +kernel) l2 HCL (by unfold Hid; omega) HNA HFA HRA (fun w hg => makeOwn_u 3 a h0 w hg) w hg

theorem classMakes_f4 (z : Int) (neg na : Bool) (a b fa ra : Nat) (ha : a < 2 ^ 128) (hb : b < QQ) (w : World) (hg : FmtG w) :
    Calls Tryd.prog 4 #[.agg #[.int .i64 4, .bool neg, .int .i64 z, .int .u64 (dgl b 0 : Nat), .int .u64 (dgl b 1 : Nat), .int .u64 (dgl b 2 : Nat), .int .u64 (dgl b 3 : Nat), .int .u64 (dgl b 4 : Nat), .int .u64 (dgl b 5 : Nat), .int .u64 (dgl b 6 : Nat), .int .u64 (dgl b 7 : Nat)], .agg #[.int .u64 (dgl (a) 1 : Nat), .int .u64 (dgl (a) 0 : Nat)]] w fun e w' => e = .returned (.bool true) ∧ Below w.heap.size w w' := by
  have HCL := fun w => refCls_u 4 a ha w
  have HNA := fun w hg => cneg_u 4 a ha w hg
  have HFA := fun w hg => cfld_u 4 a ha w hg
  have HRA := fun w hg => cfrac_u 4 a ha w hg
  have HIS := fun w => is_4 w
  by_cases hy : 0 ≤ z ∧ z < 2 ^ 15 ∧ b < 2 ^ 112
  · obtain ⟨c, hc, h1, h2, h3, h4, h5, HM⟩ := makeYes_u 4 neg z b (by rw [tU_4]; exact hy)
    have HRN := fun w => refNeg_u 4 c hc w
    have HRF := fun w => refFld_u 4 c hc h5 w
    have HRR := fun w => refFrac_u 4 c hc h5 w
    have HFT := fun w => refFits_u 4 c hc w
    rw [h1] at HRN
    rw [h2] at HRF
    rw [h3] at HRR
    rw [h4] at HFT
    have hl := (len_le b 112).2 hy.2.2
    have z1 : ¬ z < 0 := by omega
    have z2 : ¬ (32767 : Int) < z := by omega
    have l2 : ¬ (112 : Int) < ((Go.bitLen b : Nat) : Int) := by omega
    by_cases h0 : clsU 4 a = 0
    · rw [h0] at HCL
      exact classMakes_E0 4 z 16383 32766 32767 (Go.bitLen b : Nat) 113 112 neg na a b c 0 fa ra HM HIS z1 (fun w => emax_4 w) (show IntKind.i64.wrap (2 * 16383) = 32766 by decide +kernel) (show IntKind.i64.wrap (32766 + 1) = 32767 by decide +kernel) z2 (fun w => refBig_any b hb w) (fun v w hv => refLen_any b 40 v w hv (by decide)) (fun w => prec_4 w) (show IntKind.i64.wrap (113 - 1) = 112 by decide +kernel) l2 HRN HRF HRR HFT HCL w hg
    · exact classMakes_E1 4 z 16383 32766 32767 (Go.bitLen b : Nat) 113 112 neg (negU 4 a) a b c (clsU 4 a) (fldU 4 a) (frcU 4 a) HM HIS z1 (fun w => emax_4 w) (show IntKind.i64.wrap (2 * 16383) = 32766 by decide +kernel) (show IntKind.i64.wrap (32766 + 1) = 32767 by decide +kernel) z2 (fun w => refBig_any b hb w) (fun v w hv => refLen_any b 40 v w hv (by decide)) (fun w => prec_4 w) (show IntKind.i64.wrap (113 - 1) = 112 by decide +kernel) l2 HRN HRF HRR HFT HCL (by unfold Hid; omega) HNA HFA HRA (fun w hg => makeOwn_u 4 a h0 w hg) w hg
  · have HM := fun w hg => makeNo_u 4 neg z b hb (by rw [tU_4]; exact hy) w hg
    by_cases hz : z < 0
    · by_cases h0 : clsU 4 a = 0
      · rw [h0] at HCL
        exact classMakes_B0 4 z 16383 32766 32767 (Go.bitLen b : Nat) 113 112 neg na a b 0 0 fa ra HM HIS hz HCL w hg
      · exact classMakes_B1 4 z 16383 32766 32767 (Go.bitLen b : Nat) 113 112 neg (negU 4 a) a b 0 (clsU 4 a) (fldU 4 a) (frcU 4 a) HM HIS hz HCL (by unfold Hid; omega) HNA HFA HRA (fun w hg => makeOwn_u 4 a h0 w hg) w hg
    · by_cases hz2 : (32767 : Int) < z
      · by_cases h0 : clsU 4 a = 0
        · rw [h0] at HCL
          exact classMakes_C0 4 z 16383 32766 32767 (Go.bitLen b : Nat) 113 112 neg na a b 0 0 fa ra HM HIS hz (fun w => emax_4 w) (show IntKind.i64.wrap (2 * 16383) = 32766 by decide +kernel) (show IntKind.i64.wrap (32766 + 1) = 32767 by decide +kernel) hz2 HCL w hg
        · exact classMakes_C1 4 z 16383 32766 32767 (Go.bitLen b : Nat) 113 112 neg (negU 4 a) a b 0 (clsU 4 a) (fldU 4 a) (frcU 4 a) HM HIS hz (fun w => emax_4 w) (show IntKind.i64.wrap (2 * 16383) = 32766 by decide +kernel) (show IntKind.i64.wrap (32766 + 1) = 32767 by decide +kernel) hz2 HCL (by unfold Hid; omega) HNA HFA HRA (fun w hg => makeOwn_u 4 a h0 w hg) w hg
      · have l2 : (112 : Int) < ((Go.bitLen b : Nat) : Int) := by
          have h3 : ¬ b < 2 ^ 112 := fun h3 => hy ⟨by omega, by omega, h3⟩
          have := mt (len_le b 112).1 h3
          omega
        by_cases h0 : clsU 4 a = 0
        · rw [h0] at HCL
          exact classMakes_D0 4 z 16383 32766 32767 (Go.bitLen b : Nat) 113 112 neg na a b 0 0 fa ra HM HIS hz (fun w => emax_4 w) (show IntKind.i64.wrap (2 * 16383) = 32766 by decide +kernel) (show IntKind.i64.wrap (32766 + 1) = 32767 by decide +kernel) hz2 (fun w => refBig_any b hb w) (fun v w hv => refLen_any b 40 v w hv (by decide)) (fun w => prec_4 w) (show IntKind.i64.wrap (113 - 1) = 112 by decide +kernel) l2 HCL w hg
        · exact classMakes_D1 4 z 16383 32766 32767 (Go.bitLen b : Nat) 113 112 neg (negU 4 a) a b 0 (clsU 4 a) (fldU 4 a) (frcU 4 a) HM HIS hz (fun w => emax_4 w) (show IntKind.i64.wrap (2 * 16383) = 32766 by decide +kernel) (show IntKind.i64.wrap (32766 + 1) = 32767 by decide +kernel) hz2 (fun w => refBig_any b hb w) (fun v w hv => refLen_any b 40 v w hv (by decide)) (fun w => prec_4 w) (show IntKind.i64.wrap (113 - 1) = 112 by decide +kernel) l2 HCL (by unfold Hid; omega) HNA HFA HRA (fun w hg => makeOwn_u 4 a h0 w hg) w hg

theorem classMakes_all (f z : Int) (neg : Bool) (b hi lo : Nat) (hb : b < QQ) (hh : hi < 18446744073709551616) (hl : lo < 18446744073709551616) (w : World) (hg : FmtG w) :
    Calls Tryd.prog 4 #[.agg (#[.int .i64 f, .bool neg, .int .i64 z] ++ #[.int .u64 (dgl (b) 0 : Nat), .int .u64 (dgl (b) 1 : Nat), .int .u64 (dgl (b) 2 : Nat), .int .u64 (dgl (b) 3 : Nat), .int .u64 (dgl (b) 4 : Nat), .int .u64 (dgl (b) 5 : Nat), .int .u64 (dgl (b) 6 : Nat), .int .u64 (dgl (b) 7 : Nat)]), .agg #[.int .u64 (hi : Nat), .int .u64 (lo : Nat)]] w fun e w' => e = .returned (.bool true) ∧ Below w.heap.size w w' := by
  have ha : lo + 18446744073709551616 * hi < 2 ^ 128 := by omega
  have e := word_num hi lo hh hl
  have key : ∀ a, a < 2 ^ 128 → Calls Tryd.prog 4 #[.agg #[.int .i64 f, .bool neg, .int .i64 z, .int .u64 (dgl b 0 : Nat), .int .u64 (dgl b 1 : Nat), .int .u64 (dgl b 2 : Nat), .int .u64 (dgl b 3 : Nat), .int .u64 (dgl b 4 : Nat), .int .u64 (dgl b 5 : Nat), .int .u64 (dgl b 6 : Nat), .int .u64 (dgl b 7 : Nat)], .agg #[.int .u64 (dgl (a) 1 : Nat), .int .u64 (dgl (a) 0 : Nat)]] w fun e w' => e = .returned (.bool true) ∧ Below w.heap.size w w' := fun a ha => by
    rcases f_cases f with rfl | rfl | rfl | rfl | h
    · exact classMakes_f1 z neg false a b 0 0 ha hb w hg
    · exact classMakes_f2 z neg false a b 0 0 ha hb w hg
    · exact classMakes_f3 z neg false a b 0 0 ha hb w hg
    · exact classMakes_f4 z neg false a b 0 0 ha hb w hg
    · have HCL := fun w => refCls_u f a ha w
      rw [show clsU f a = 0 from tU_none f h _ _ _ _ _] at HCL
      exact classMakes_A0 f z 0 0 0 0 0 0 neg false a b 0 0 0 0 (fun w hg => makeNone_any f h neg z b w hg) (fun w => is_none f h w) HCL w hg
  have := key _ ha
  rw [e.1, e.2] at this
  exact this

end Go.Proofs.YtidfegilddlglaaDoor

