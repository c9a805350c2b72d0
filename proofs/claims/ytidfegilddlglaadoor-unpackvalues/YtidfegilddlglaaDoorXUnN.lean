/- Contracts and laws: UnpN. -/
import Derived.Test.YtidfegilddlglaaDoorXUnK
/- Contracts: the document's Value. -/
set_option linter.unusedVariables false
set_option linter.unusedSimpArgs false
set_option maxRecDepth 8000
namespace Go.Proofs.YtidfegilddlglaaDoor
open Go.RowKit Plain

def SlotIs.nbox (B : Nat) (neg : Bool) (z : Int) (s : Nat) : SlotIs :=
  ⟨fun v w => ∃ b, v = .pointer (some ⟨b, 0, none⟩) ∧ B ≤ b ∧ NB w b neg z s ∧ ∀ i, w.frozen? ⟨b, i, none⟩ = false,
   fun v w w' hb ⟨b, h1, h2, h3, h4⟩ => ⟨b, h1, h2, h3.below hb, fun i => (hb.frozen (p := ⟨b, i, none⟩) h3.lt).trans (h4 i)⟩⟩
structure RvSt (a : Nat) (w W : World) : Prop where
  wa : WB W w.heap.size (dgl a 1) (dgl a 0)
  r : NB W (w.heap.size + 1) false 0 0
  fr : ∀ i, W.frozen? ⟨w.heap.size + 1, i, none⟩ = false
  bel : Below w.heap.size w W
theorem RvSt.under {a : Nat} {w W W' : World} (h : RvSt a w W) {C : Nat} (hb : Below C W W') (hc : w.heap.size + 1 < C) : RvSt a w W' := by
  have h0 : w.heap.size < C := by omega
  exact ⟨⟨(hb.cell (p := ⟨w.heap.size, 0, none⟩) h0).trans h.wa.h, (hb.cell (p := ⟨w.heap.size, 1, none⟩) h0).trans h.wa.l, Nat.lt_of_lt_of_le h.wa.lt hb.size⟩, h.r.under hb hc, fun i => (hb.frozen (p := ⟨w.heap.size + 1, i, none⟩) hc).trans (h.fr i), h.bel.trans (hb.mono (by omega))⟩
theorem RvSt.below {a : Nat} {w W W' : World} (h : RvSt a w W) (hb : Below W.heap.size W W') : RvSt a w W' := h.under hb h.r.lt
theorem rvSt_start (a : Nat) (w : World) : RvSt a w ((w.alloc (.cells #[.int .u64 (dgl (a) 1 : Nat), .int .u64 (dgl (a) 0 : Nat)] 24)).alloc (.cells #[.bool false, .int .i64 0, .int .u64 0, .int .u64 0, .int .u64 0, .int .u64 0, .int .u64 0, .int .u64 0, .int .u64 0, .int .u64 0] 49)) := by
  have h1 := nb_zero (w.alloc (.cells #[.int .u64 (dgl (a) 1 : Nat), .int .u64 (dgl (a) 0 : Nat)] 24)) 49
  rw [World.size_alloc] at h1
  exact ⟨⟨by simp [go_sem], by simp [go_sem], by simp; omega⟩, h1, fun i => by simp [go_sem], below_trans (below_allocs _ _) (below_allocs _ _)⟩
theorem below_alloc_c {C : Nat} {w : World} (o : Obj) (h : C ≤ w.heap.size) : Below C w (w.alloc o) := (Below.refl _ _).alloc h o
theorem nb_setx0 {W : World} {p : Nat} {n : Bool} {z : Int} {r s : Nat} (h : NB W p n z r) (ho : ∀ j, j ≠ 0 → dgl s j = dgl r j) : NB (W.setCell ⟨p, 2, none⟩ (.int .u64 (dgl s 0 : Nat))) p n z s := by
  have ln := h.n
  have le := h.e
  have l0 := h.x0
  have l1 := h.x1
  have l2 := h.x2
  have l3 := h.x3
  have l4 := h.x4
  have l5 := h.x5
  have l6 := h.x6
  have l7 := h.x7
  have hl := h.lt
  have o1 := ho 1 (by decide)
  have o2 := ho 2 (by decide)
  have o3 := ho 3 (by decide)
  have o4 := ho 4 (by decide)
  have o5 := ho 5 (by decide)
  have o6 := ho 6 (by decide)
  have o7 := ho 7 (by decide)
  exact ⟨by simp [go_sem, ln], by simp [go_sem, le], by simp [go_sem, l0], by simp [go_sem, l1, o1], by simp [go_sem, l2, o2], by simp [go_sem, l3, o3], by simp [go_sem, l4, o4], by simp [go_sem, l5, o5], by simp [go_sem, l6, o6], by simp [go_sem, l7, o7], by simpa [go_sem] using hl⟩
theorem nb_setx1 {W : World} {p : Nat} {n : Bool} {z : Int} {r s : Nat} (h : NB W p n z r) (ho : ∀ j, j ≠ 1 → dgl s j = dgl r j) : NB (W.setCell ⟨p, 3, none⟩ (.int .u64 (dgl s 1 : Nat))) p n z s := by
  have ln := h.n
  have le := h.e
  have l0 := h.x0
  have l1 := h.x1
  have l2 := h.x2
  have l3 := h.x3
  have l4 := h.x4
  have l5 := h.x5
  have l6 := h.x6
  have l7 := h.x7
  have hl := h.lt
  have o0 := ho 0 (by decide)
  have o2 := ho 2 (by decide)
  have o3 := ho 3 (by decide)
  have o4 := ho 4 (by decide)
  have o5 := ho 5 (by decide)
  have o6 := ho 6 (by decide)
  have o7 := ho 7 (by decide)
  exact ⟨by simp [go_sem, ln], by simp [go_sem, le], by simp [go_sem, l0, o0], by simp [go_sem, l1], by simp [go_sem, l2, o2], by simp [go_sem, l3, o3], by simp [go_sem, l4, o4], by simp [go_sem, l5, o5], by simp [go_sem, l6, o6], by simp [go_sem, l7, o7], by simpa [go_sem] using hl⟩
theorem nb_sete {W : World} {p : Nat} {n : Bool} {z : Int} {s : Nat} (h : NB W p n z s) (y : Int) : NB (W.setCell ⟨p, 1, none⟩ (.int .i64 y)) p n y s := by
  have ln := h.n
  have le := h.e
  have l0 := h.x0
  have l1 := h.x1
  have l2 := h.x2
  have l3 := h.x3
  have l4 := h.x4
  have l5 := h.x5
  have l6 := h.x6
  have l7 := h.x7
  have hl := h.lt
  exact ⟨by simp [go_sem, ln], by simp [go_sem, le], by simp [go_sem, l0], by simp [go_sem, l1], by simp [go_sem, l2], by simp [go_sem, l3], by simp [go_sem, l4], by simp [go_sem, l5], by simp [go_sem, l6], by simp [go_sem, l7], by simpa [go_sem] using hl⟩

set_option maxHeartbeats 4000000 in
theorem rval_Z (f em lo : Int) (a r s fd P e : Nat) (ng : Bool)
    (HFD : Hid (∀ w, Calls Tryd.prog 23 #[.int .i64 f, .agg #[.int .u64 (dgl (a) 1 : Nat), .int .u64 (dgl (a) 0 : Nat)]] w fun e w' => e = .returned (.int .i64 0) ∧ Below w.heap.size w w'))
    (HNG : Hid (∀ w, Calls Tryd.prog 17 #[.int .i64 f, .agg #[.int .u64 (dgl (a) 1 : Nat), .int .u64 (dgl (a) 0 : Nat)]] w fun e w' => e = .returned (.bool ng) ∧ Below w.heap.size w w'))
    (HFR : Hid (∀ w, Calls Tryd.prog 24 #[.int .i64 f, .agg #[.int .u64 (dgl (a) 1 : Nat), .int .u64 (dgl (a) 0 : Nat)]] w fun e w' => e = .returned (.agg #[.int .u64 (dgl (r) 0 : Nat), .int .u64 (dgl (r) 1 : Nat), .int .u64 (dgl (r) 2 : Nat), .int .u64 (dgl (r) 3 : Nat), .int .u64 (dgl (r) 4 : Nat), .int .u64 (dgl (r) 5 : Nat), .int .u64 (dgl (r) 6 : Nat), .int .u64 (dgl (r) 7 : Nat)]) ∧ Below w.heap.size w w'))
    (HEM : Hid (∀ w, Calls Tryd.prog 82 #[.int .i64 f] w fun e w' => e = .returned (.int .i64 em) ∧ w' = w))
    (HPR : Hid (∀ w, Calls Tryd.prog 31 #[.int .i64 f] w fun e w' => e = .returned (.int .i64 (P : Nat)) ∧ w' = w))
    (hem : -20000 ≤ em ∧ em ≤ 0) (hP : 2 ≤ P ∧ P ≤ 128) (HLO : Hid (em - (P : Int) + 1 = lo)) (w : World) :
    Calls Tryd.prog 37 #[.int .i64 f, .agg #[.int .u64 (dgl (a) 1 : Nat), .int .u64 (dgl (a) 0 : Nat)]] w fun e w' => e = .returned (.agg #[.bool (ng), .int .i64 (lo), .int .u64 (dgl (r) 0 : Nat), .int .u64 (dgl (r) 1 : Nat), .int .u64 (dgl (r) 2 : Nat), .int .u64 (dgl (r) 3 : Nat), .int .u64 (dgl (r) 4 : Nat), .int .u64 (dgl (r) 5 : Nat), .int .u64 (dgl (r) 6 : Nat), .int .u64 (dgl (r) 7 : Nat)]) ∧ Below w.heap.size w w' := by
  have HS := hide (rvSt_start a w)
  go_enter Tryd.func37, Tryd.ntmps37
  go_upto_region 1 with fail
  refine wp_gen (fun W => RvSt a w W) HS.out ?_
  clear HS
  rintro W1 g1
  have HS := hide g1
  have l0 := g1.wa.h
  have l1 := g1.wa.l
  clear g1
  go_wp2_with fail
  refine (HFD.out _).mono ?_
  rintro e_ w1 ⟨rfl, hb1⟩
  replace HS := hide (HS.out.below hb1)
  clear hb1 l0 l1
  go_upto_region 2 with fail
  refine wp_gen (fun W => RvSt a w W) HS.out ?_
  clear HS
  rintro W2 h2
  refine wp_region_storeK 15 [14] [11, 12, 13, 14, 15, 16, 17, 18, 19, 20, 21, 22, 23, 6] (fun bs => [(11, .val (.int .i64 f)), (12, .val (.agg #[.int .u64 (dgl (a) 1 : Nat), .int .u64 (dgl (a) 0 : Nat)])), (13, .val (.bool ng)), (14, .val (.int .i64 f)), (15, .val (.agg #[.int .u64 (dgl (a) 1 : Nat), .int .u64 (dgl (a) 0 : Nat)])), (16, .val (.agg #[.int .u64 (dgl (r) 0 : Nat), .int .u64 (dgl (r) 1 : Nat), .int .u64 (dgl (r) 2 : Nat), .int .u64 (dgl (r) 3 : Nat), .int .u64 (dgl (r) 4 : Nat), .int .u64 (dgl (r) 5 : Nat), .int .u64 (dgl (r) 6 : Nat), .int .u64 (dgl (r) 7 : Nat)])), (17, .val (.int .i64 f)), (18, .val (.int .i64 em)), (19, .val (.int .i64 f)), (20, .val (.int .i64 (P : Nat))), (21, .val (.int .i64 (em - (P : Int)))), (22, .val (.int .i64 lo)), (23, .val (.agg #[.bool (ng), .int .i64 (lo), .int .u64 (dgl (r) 0 : Nat), .int .u64 (dgl (r) 1 : Nat), .int .u64 (dgl (r) 2 : Nat), .int .u64 (dgl (r) 3 : Nat), .int .u64 (dgl (r) 4 : Nat), .int .u64 (dgl (r) 5 : Nat), .int .u64 (dgl (r) 6 : Nat), .int .u64 (dgl (r) 7 : Nat)])), (6, bif bs.headD false then SlotIs.nbox (w.heap.size + 1 + 1) ng lo r else SlotIs.nbox (w.heap.size + 1 + 1) false 0 0)])
    (fun _ W => RvSt a w W) (fun bs => rfl) mixedOk (by kernel_rfl) (by kernel_rfl) (by kernel_rfl) (h2.below (Below.refl _ _).drew) (fun bs W W' h hb => h.below hb) ?_ ?_
  · refine kSt rfl (fun φ hφ => gStep_run rfl (gRun_move 0 11 (.inl rfl) rfl (by decide +kernel) (fun v w h => h))) ?_
    refine kSt rfl (fun φ hφ => gStep_run rfl ?_) ?_
    · intro ρ W hC hc hf hL
      have e3 : ρ (.tmp 3) = .pointer (some ⟨w.heap.size, 0, none⟩) := hL 3 (by decide +kernel)
      have l0 := hC.wa.h
      have l1 := hC.wa.l
      simp [go_sem, hc, hf, e3, l0, l1]
      exact ⟨Below.refl _ _, rfl⟩
    refine kSt rfl (fun φ hφ => gStep_run rfl ?_) ?_
    · intro ρ W hC hc hf hL
      have e11 : ρ (.tmp 11) = .int .i64 f := hL 11 (by decide +kernel)
      have e12 : ρ (.tmp 12) = .agg #[.int .u64 (dgl (a) 1 : Nat), .int .u64 (dgl (a) 0 : Nat)] := hL 12 (by decide +kernel)
      simp [go_sem, hc, hf, e11, e12]
      refine (HNG.out W).mono ?_
      rintro e w' ⟨rfl, hb⟩
      exact ⟨_, rfl, by first | exact hb | (subst hb; exact Below.refl _ _), rfl⟩
    refine kSt rfl (fun φ hφ => gStep_run rfl (gRun_move 0 14 (.inl rfl) rfl (by decide +kernel) (fun v w h => h))) ?_
    refine kSt rfl (fun φ hφ => gStep_run rfl ?_) ?_
    · intro ρ W hC hc hf hL
      have e3 : ρ (.tmp 3) = .pointer (some ⟨w.heap.size, 0, none⟩) := hL 3 (by decide +kernel)
      have l0 := hC.wa.h
      have l1 := hC.wa.l
      simp [go_sem, hc, hf, e3, l0, l1]
      exact ⟨Below.refl _ _, rfl⟩
    refine kSt rfl (fun φ hφ => gStep_run rfl ?_) ?_
    · intro ρ W hC hc hf hL
      have e14 : ρ (.tmp 14) = .int .i64 f := hL 14 (by decide +kernel)
      have e15 : ρ (.tmp 15) = .agg #[.int .u64 (dgl (a) 1 : Nat), .int .u64 (dgl (a) 0 : Nat)] := hL 15 (by decide +kernel)
      simp [go_sem, hc, hf, e14, e15]
      refine (HFR.out W).mono ?_
      rintro e w' ⟨rfl, hb⟩
      exact ⟨_, rfl, by first | exact hb | (subst hb; exact Below.refl _ _), rfl⟩
    refine kSt rfl (fun φ hφ => gStep_run rfl (gRun_move 0 17 (.inl rfl) rfl (by decide +kernel) (fun v w h => h))) ?_
    refine kSt rfl (fun φ hφ => gStep_run rfl ?_) ?_
    · intro ρ W hC hc hf hL
      have e17 : ρ (.tmp 17) = .int .i64 f := hL 17 (by decide +kernel)
      simp [go_sem, hc, hf, e17]
      refine (HEM.out W).mono ?_
      rintro e w' ⟨rfl, hb⟩
      exact ⟨_, rfl, by first | exact hb | (subst hb; exact Below.refl _ _), rfl⟩
    refine kSt rfl (fun φ hφ => gStep_run rfl (gRun_move 0 19 (.inl rfl) rfl (by decide +kernel) (fun v w h => h))) ?_
    refine kSt rfl (fun φ hφ => gStep_run rfl ?_) ?_
    · intro ρ W hC hc hf hL
      have e19 : ρ (.tmp 19) = .int .i64 f := hL 19 (by decide +kernel)
      simp [go_sem, hc, hf, e19]
      refine (HPR.out W).mono ?_
      rintro e w' ⟨rfl, hb⟩
      exact ⟨_, rfl, by first | exact hb | (subst hb; exact Below.refl _ _), rfl⟩
    refine kSt rfl (fun φ hφ => gStep_run rfl ?_) ?_
    · intro ρ W hC hc hf hL
      have e18 : ρ (.tmp 18) = .int .i64 em := hL 18 (by decide +kernel)
      have e20 : ρ (.tmp 20) = .int .i64 (P : Nat) := hL 20 (by decide +kernel)
      have l0 : IntKind.i64.wrap (em - (P : Int)) = em - (P : Int) := by rw [IntKind.wrap_i64]; omega
      simp [go_sem, hc, hf, e18, e20, l0]
      exact ⟨Below.refl _ _, rfl⟩
    refine kSt rfl (fun φ hφ => gStep_run rfl ?_) ?_
    · intro ρ W hC hc hf hL
      have e21 : ρ (.tmp 21) = .int .i64 (em - (P : Int)) := hL 21 (by decide +kernel)
      have l1 : IntKind.i64.wrap (em - (P : Int) + 1) = em - (P : Int) + 1 := by rw [IntKind.wrap_i64]; omega
      have l0 := HLO.out
      rw [l0] at l1
      simp [go_sem, hc, hf, e21, l0, l1]
      exact ⟨Below.refl _ _, rfl⟩
    refine kSt rfl (fun φ hφ => gStep_run rfl ?_) ?_
    · intro ρ W hC hc hf hL
      have e13 : ρ (.tmp 13) = .bool ng := hL 13 (by decide +kernel)
      have e16 : ρ (.tmp 16) = .agg #[.int .u64 (dgl (r) 0 : Nat), .int .u64 (dgl (r) 1 : Nat), .int .u64 (dgl (r) 2 : Nat), .int .u64 (dgl (r) 3 : Nat), .int .u64 (dgl (r) 4 : Nat), .int .u64 (dgl (r) 5 : Nat), .int .u64 (dgl (r) 6 : Nat), .int .u64 (dgl (r) 7 : Nat)] := hL 16 (by decide +kernel)
      have e22 : ρ (.tmp 22) = .int .i64 lo := hL 22 (by decide +kernel)
      simp [go_sem, hc, hf, e13, e16, e22]
      exact ⟨Below.refl _ _, rfl⟩
    refine kSt rfl (fun φ hφ => gStep_run rfl ?_) ?_
    · intro ρ W hC hc hf hL
      have hφ0 : φ 14 = false := hφ 14 (by simp) (by kernel_rfl)
      simp [go_sem, hc, hf]
      refine ⟨below_allocs _ _, ?_⟩
      show (bif φ 14 then SlotIs.nbox (w.heap.size + 1 + 1) ng lo r else SlotIs.nbox (w.heap.size + 1 + 1) false 0 0).R _ _
      rw [hφ0]
      exact ⟨_, rfl, hC.r.lt, nb_zero _ _, fun i => by simp [go_sem]⟩
    refine kStS rfl ⟨rfl, rfl, ?_⟩ ?_
    · intro φ ρ W hφ hC hc hL
      have b6 := hL 6 (by decide +kernel)
      have e23 : ρ (.tmp 23) = .agg #[.bool (ng), .int .i64 (lo), .int .u64 (dgl (r) 0 : Nat), .int .u64 (dgl (r) 1 : Nat), .int .u64 (dgl (r) 2 : Nat), .int .u64 (dgl (r) 3 : Nat), .int .u64 (dgl (r) 4 : Nat), .int .u64 (dgl (r) 5 : Nat), .int .u64 (dgl (r) 6 : Nat), .int .u64 (dgl (r) 7 : Nat)] := hL 23 (by decide +kernel)
      have b6 : (bif φ 14 then SlotIs.nbox (w.heap.size + 1 + 1) ng lo r else SlotIs.nbox (w.heap.size + 1 + 1) false 0 0).R (ρ (.tmp 6)) W := hL 6 (by decide +kernel)
      rw [hφ] at b6
      obtain ⟨p6, e6, q6, l6, z6⟩ := b6
      have yn := l6.n
      have ye := l6.e
      have y0 := l6.x0
      have y1 := l6.x1
      have y2 := l6.x2
      have y3 := l6.x3
      have y4 := l6.x4
      have y5 := l6.x5
      have y6 := l6.x6
      have y7 := l6.x7
      have hzl := l6.lt
      refine gUpon_of ((((((((((W.setCell ⟨p6, 0, none⟩ (.bool (ng))).setCell ⟨p6, 1, none⟩ (.int .i64 (lo))).setCell ⟨p6, 2, none⟩ (.int .u64 (dgl (r) 0 : Nat))).setCell ⟨p6, 3, none⟩ (.int .u64 (dgl (r) 1 : Nat))).setCell ⟨p6, 4, none⟩ (.int .u64 (dgl (r) 2 : Nat))).setCell ⟨p6, 5, none⟩ (.int .u64 (dgl (r) 3 : Nat))).setCell ⟨p6, 6, none⟩ (.int .u64 (dgl (r) 4 : Nat))).setCell ⟨p6, 7, none⟩ (.int .u64 (dgl (r) 5 : Nat))).setCell ⟨p6, 8, none⟩ (.int .u64 (dgl (r) 6 : Nat))).setCell ⟨p6, 9, none⟩ (.int .u64 (dgl (r) 7 : Nat))) ?_ (fun _ => ?_)
      · simp [go_sem, hc, e23, e6, hzl, z6, yn, ye, y0, y1, y2, y3, y4, y5, y6, y7, gUpon]
      have hs10 := below_set10 (Below.refl (w.heap.size + 1 + 1) W) p6 q6 ng lo r
      refine ⟨hC.under hs10 (by omega), fun t => ?_⟩
      refine (tbl_imp rfl (fun _ => val_imp) (tbl_imp rfl (fun _ => val_imp) (tbl_imp rfl (fun _ => val_imp) (tbl_imp rfl (fun _ => val_imp) (tbl_imp rfl (fun _ => val_imp) (tbl_imp rfl (fun _ => val_imp) (tbl_imp rfl (fun _ => val_imp) (tbl_imp rfl (fun _ => val_imp) (tbl_imp rfl (fun _ => val_imp) (tbl_imp rfl (fun _ => val_imp) (tbl_imp rfl (fun _ => val_imp) (tbl_imp rfl (fun _ => val_imp) (tbl_imp rfl (fun _ => val_imp) (tbl_imp rfl (fun ht h => ?_) tbl_nil_imp))))))))))))))
      subst ht
      show (bif (φ 14 || true) then SlotIs.nbox (w.heap.size + 1 + 1) ng lo r else SlotIs.nbox (w.heap.size + 1 + 1) false 0 0).R _ _
      rw [Bool.or_true]
      exact ⟨p6, e6, q6, nb_set l6 ng lo r, fun i => by simpa [go_sem] using z6 i⟩
    exact kSt0
  · intro W hC
    refine gFi 11 rfl ?_
    rintro _ rfl
    refine gFi 12 rfl ?_
    rintro _ rfl
    refine gFi 13 rfl ?_
    rintro _ rfl
    refine gFi 14 rfl ?_
    rintro _ rfl
    refine gFi 15 rfl ?_
    rintro _ rfl
    refine gFi 16 rfl ?_
    rintro _ rfl
    refine gFi 17 rfl ?_
    rintro _ rfl
    refine gFi 18 rfl ?_
    rintro _ rfl
    refine gFi 19 rfl ?_
    rintro _ rfl
    refine gFi 20 rfl ?_
    rintro _ rfl
    refine gFi 21 rfl ?_
    rintro _ rfl
    refine gFi 22 rfl ?_
    rintro _ rfl
    refine gFi 23 rfl ?_
    rintro _ rfl
    refine gFi 6 rfl ?_
    rintro u6 b6
    refine gFiN rfl ?_
    refine gFi0 ?_
    simp only [List.drop_succ_cons, List.drop_zero, Act.put, List.setIfInBounds_toArray, List.set_cons_succ, List.set_cons_zero]
    obtain ⟨p6, rfl, q6, l6, z6⟩ := b6
    have HS := hide hC
    have HN := hide l6
    have HP6 := hide q6
    have HZ := hide z6
    clear hC l6 q6 z6 h2
    have hrf := HS.out.fr
    have rn := HS.out.r.n
    have re := HS.out.r.e
    have r0 := HS.out.r.x0
    have r1 := HS.out.r.x1
    have r2 := HS.out.r.x2
    have r3 := HS.out.r.x3
    have r4 := HS.out.r.x4
    have r5 := HS.out.r.x5
    have r6 := HS.out.r.x6
    have r7 := HS.out.r.x7
    have hrl := HS.out.r.lt
    have ln := HN.out.n
    have le := HN.out.e
    have l0 := HN.out.x0
    have l1 := HN.out.x1
    have l2 := HN.out.x2
    have l3 := HN.out.x3
    have l4 := HN.out.x4
    have l5 := HN.out.x5
    have l6 := HN.out.x6
    have l7 := HN.out.x7
    have HB := hide HS.out.bel
    clear HS HN
    go_wp2
    exact bodyPost_ret (v := .agg #[.bool (ng), .int .i64 (lo), .int .u64 (dgl (r) 0 : Nat), .int .u64 (dgl (r) 1 : Nat), .int .u64 (dgl (r) 2 : Nat), .int .u64 (dgl (r) 3 : Nat), .int .u64 (dgl (r) 4 : Nat), .int .u64 (dgl (r) 5 : Nat), .int .u64 (dgl (r) 6 : Nat), .int .u64 (dgl (r) 7 : Nat)]) (by simp [results, Tryd.results37, go_sem, hrl, rn, re, r0, r1, r2, r3, r4, r5, r6, r7]) rfl ⟨rfl, ((((((((((HB.out.setCell (p := ⟨w.heap.size + 1, 0, none⟩) (Nat.le_succ _) _).setCell (p := ⟨w.heap.size + 1, 1, none⟩) (Nat.le_succ _) _).setCell (p := ⟨w.heap.size + 1, 2, none⟩) (Nat.le_succ _) _).setCell (p := ⟨w.heap.size + 1, 3, none⟩) (Nat.le_succ _) _).setCell (p := ⟨w.heap.size + 1, 4, none⟩) (Nat.le_succ _) _).setCell (p := ⟨w.heap.size + 1, 5, none⟩) (Nat.le_succ _) _).setCell (p := ⟨w.heap.size + 1, 6, none⟩) (Nat.le_succ _) _).setCell (p := ⟨w.heap.size + 1, 7, none⟩) (Nat.le_succ _) _).setCell (p := ⟨w.heap.size + 1, 8, none⟩) (Nat.le_succ _) _).setCell (p := ⟨w.heap.size + 1, 9, none⟩) (Nat.le_succ _) _)⟩
    

set_option maxHeartbeats 4000000 in
theorem rval_L (f em lo : Int) (a r s fd P e : Nat) (ng : Bool)
    (HFD : Hid (∀ w, Calls Tryd.prog 23 #[.int .i64 f, .agg #[.int .u64 (dgl (a) 1 : Nat), .int .u64 (dgl (a) 0 : Nat)]] w fun e w' => e = .returned (.int .i64 (fd : Nat)) ∧ Below w.heap.size w w'))
    (HNG : Hid (∀ w, Calls Tryd.prog 17 #[.int .i64 f, .agg #[.int .u64 (dgl (a) 1 : Nat), .int .u64 (dgl (a) 0 : Nat)]] w fun e w' => e = .returned (.bool ng) ∧ Below w.heap.size w w'))
    (HFR : Hid (∀ w, Calls Tryd.prog 24 #[.int .i64 f, .agg #[.int .u64 (dgl (a) 1 : Nat), .int .u64 (dgl (a) 0 : Nat)]] w fun e w' => e = .returned (.agg #[.int .u64 (dgl (r) 0 : Nat), .int .u64 (dgl (r) 1 : Nat), .int .u64 (dgl (r) 2 : Nat), .int .u64 (dgl (r) 3 : Nat), .int .u64 (dgl (r) 4 : Nat), .int .u64 (dgl (r) 5 : Nat), .int .u64 (dgl (r) 6 : Nat), .int .u64 (dgl (r) 7 : Nat)]) ∧ Below w.heap.size w w'))
    (HEM : Hid (∀ w, Calls Tryd.prog 82 #[.int .i64 f] w fun e w' => e = .returned (.int .i64 em) ∧ w' = w))
    (HPR : Hid (∀ w, Calls Tryd.prog 31 #[.int .i64 f] w fun e w' => e = .returned (.int .i64 (P : Nat)) ∧ w' = w))
    (hem : -20000 ≤ em ∧ em ≤ 0) (hP : 2 ≤ P ∧ P ≤ 128) (HLO : Hid (em - (P : Int) + 1 = lo))
    (hfd : 1 ≤ fd ∧ fd ≤ 40000) (HQ : Hid (((P : Int) - 1).tdiv 64 = 0)) (HM : Hid (((P : Int) - 1).tmod 64 = ((e : Nat) : Int))) (HSH : Hid (IntKind.u64.wrap ((2 : Int) ^ e) = (2 : Int) ^ e)) (HE6 : Hid ((e : Int) < 64)) (HAD : Hid (IntKind.u64.wrap (((dgl r 0 : Nat) : Int) + (2 : Int) ^ e) = ((dgl s 0 : Nat) : Int))) (HOT : Hid (∀ j, j ≠ 0 → dgl s j = dgl r j)) (w : World) :
    Calls Tryd.prog 37 #[.int .i64 f, .agg #[.int .u64 (dgl (a) 1 : Nat), .int .u64 (dgl (a) 0 : Nat)]] w fun e w' => e = .returned (.agg #[.bool (ng), .int .i64 (lo + (fd : Int) - 1), .int .u64 (dgl (s) 0 : Nat), .int .u64 (dgl (s) 1 : Nat), .int .u64 (dgl (s) 2 : Nat), .int .u64 (dgl (s) 3 : Nat), .int .u64 (dgl (s) 4 : Nat), .int .u64 (dgl (s) 5 : Nat), .int .u64 (dgl (s) 6 : Nat), .int .u64 (dgl (s) 7 : Nat)]) ∧ Below w.heap.size w w' := by
  have HS := hide (rvSt_start a w)
  go_enter Tryd.func37, Tryd.ntmps37
  go_upto_region 1 with fail
  refine wp_gen (fun W => RvSt a w W) HS.out ?_
  clear HS
  rintro W1 g1
  have HS := hide g1
  have l0 := g1.wa.h
  have l1 := g1.wa.l
  clear g1
  go_wp2_with fail
  refine (HFD.out _).mono ?_
  rintro e_ w1 ⟨rfl, hb1⟩
  replace HS := hide (HS.out.below hb1)
  clear hb1 l0 l1
  go_upto_region 2 with fail
  refine wp_gen (fun W => RvSt a w W) HS.out ?_
  clear HS
  rintro W2 h2
  refine wp_region_storeK 15 [14] [11, 12, 13, 14, 15, 16, 17, 18, 19, 20, 21, 22, 23, 6] (fun bs => [(11, .val (.int .i64 f)), (12, .val (.agg #[.int .u64 (dgl (a) 1 : Nat), .int .u64 (dgl (a) 0 : Nat)])), (13, .val (.bool ng)), (14, .val (.int .i64 f)), (15, .val (.agg #[.int .u64 (dgl (a) 1 : Nat), .int .u64 (dgl (a) 0 : Nat)])), (16, .val (.agg #[.int .u64 (dgl (r) 0 : Nat), .int .u64 (dgl (r) 1 : Nat), .int .u64 (dgl (r) 2 : Nat), .int .u64 (dgl (r) 3 : Nat), .int .u64 (dgl (r) 4 : Nat), .int .u64 (dgl (r) 5 : Nat), .int .u64 (dgl (r) 6 : Nat), .int .u64 (dgl (r) 7 : Nat)])), (17, .val (.int .i64 f)), (18, .val (.int .i64 em)), (19, .val (.int .i64 f)), (20, .val (.int .i64 (P : Nat))), (21, .val (.int .i64 (em - (P : Int)))), (22, .val (.int .i64 lo)), (23, .val (.agg #[.bool (ng), .int .i64 (lo), .int .u64 (dgl (r) 0 : Nat), .int .u64 (dgl (r) 1 : Nat), .int .u64 (dgl (r) 2 : Nat), .int .u64 (dgl (r) 3 : Nat), .int .u64 (dgl (r) 4 : Nat), .int .u64 (dgl (r) 5 : Nat), .int .u64 (dgl (r) 6 : Nat), .int .u64 (dgl (r) 7 : Nat)])), (6, bif bs.headD false then SlotIs.nbox (w.heap.size + 1 + 1) ng lo r else SlotIs.nbox (w.heap.size + 1 + 1) false 0 0)])
    (fun _ W => RvSt a w W) (fun bs => rfl) mixedOk (by kernel_rfl) (by kernel_rfl) (by kernel_rfl) (h2.below (Below.refl _ _).drew) (fun bs W W' h hb => h.below hb) ?_ ?_
  · refine kSt rfl (fun φ hφ => gStep_run rfl (gRun_move 0 11 (.inl rfl) rfl (by decide +kernel) (fun v w h => h))) ?_
    refine kSt rfl (fun φ hφ => gStep_run rfl ?_) ?_
    · intro ρ W hC hc hf hL
      have e3 : ρ (.tmp 3) = .pointer (some ⟨w.heap.size, 0, none⟩) := hL 3 (by decide +kernel)
      have l0 := hC.wa.h
      have l1 := hC.wa.l
      simp [go_sem, hc, hf, e3, l0, l1]
      exact ⟨Below.refl _ _, rfl⟩
    refine kSt rfl (fun φ hφ => gStep_run rfl ?_) ?_
    · intro ρ W hC hc hf hL
      have e11 : ρ (.tmp 11) = .int .i64 f := hL 11 (by decide +kernel)
      have e12 : ρ (.tmp 12) = .agg #[.int .u64 (dgl (a) 1 : Nat), .int .u64 (dgl (a) 0 : Nat)] := hL 12 (by decide +kernel)
      simp [go_sem, hc, hf, e11, e12]
      refine (HNG.out W).mono ?_
      rintro e w' ⟨rfl, hb⟩
      exact ⟨_, rfl, by first | exact hb | (subst hb; exact Below.refl _ _), rfl⟩
    refine kSt rfl (fun φ hφ => gStep_run rfl (gRun_move 0 14 (.inl rfl) rfl (by decide +kernel) (fun v w h => h))) ?_
    refine kSt rfl (fun φ hφ => gStep_run rfl ?_) ?_
    · intro ρ W hC hc hf hL
      have e3 : ρ (.tmp 3) = .pointer (some ⟨w.heap.size, 0, none⟩) := hL 3 (by decide +kernel)
      have l0 := hC.wa.h
      have l1 := hC.wa.l
      simp [go_sem, hc, hf, e3, l0, l1]
      exact ⟨Below.refl _ _, rfl⟩
    refine kSt rfl (fun φ hφ => gStep_run rfl ?_) ?_
    · intro ρ W hC hc hf hL
      have e14 : ρ (.tmp 14) = .int .i64 f := hL 14 (by decide +kernel)
      have e15 : ρ (.tmp 15) = .agg #[.int .u64 (dgl (a) 1 : Nat), .int .u64 (dgl (a) 0 : Nat)] := hL 15 (by decide +kernel)
      simp [go_sem, hc, hf, e14, e15]
      refine (HFR.out W).mono ?_
      rintro e w' ⟨rfl, hb⟩
      exact ⟨_, rfl, by first | exact hb | (subst hb; exact Below.refl _ _), rfl⟩
    refine kSt rfl (fun φ hφ => gStep_run rfl (gRun_move 0 17 (.inl rfl) rfl (by decide +kernel) (fun v w h => h))) ?_
    refine kSt rfl (fun φ hφ => gStep_run rfl ?_) ?_
    · intro ρ W hC hc hf hL
      have e17 : ρ (.tmp 17) = .int .i64 f := hL 17 (by decide +kernel)
      simp [go_sem, hc, hf, e17]
      refine (HEM.out W).mono ?_
      rintro e w' ⟨rfl, hb⟩
      exact ⟨_, rfl, by first | exact hb | (subst hb; exact Below.refl _ _), rfl⟩
    refine kSt rfl (fun φ hφ => gStep_run rfl (gRun_move 0 19 (.inl rfl) rfl (by decide +kernel) (fun v w h => h))) ?_
    refine kSt rfl (fun φ hφ => gStep_run rfl ?_) ?_
    · intro ρ W hC hc hf hL
      have e19 : ρ (.tmp 19) = .int .i64 f := hL 19 (by decide +kernel)
      simp [go_sem, hc, hf, e19]
      refine (HPR.out W).mono ?_
      rintro e w' ⟨rfl, hb⟩
      exact ⟨_, rfl, by first | exact hb | (subst hb; exact Below.refl _ _), rfl⟩
    refine kSt rfl (fun φ hφ => gStep_run rfl ?_) ?_
    · intro ρ W hC hc hf hL
      have e18 : ρ (.tmp 18) = .int .i64 em := hL 18 (by decide +kernel)
      have e20 : ρ (.tmp 20) = .int .i64 (P : Nat) := hL 20 (by decide +kernel)
      have l0 : IntKind.i64.wrap (em - (P : Int)) = em - (P : Int) := by rw [IntKind.wrap_i64]; omega
      simp [go_sem, hc, hf, e18, e20, l0]
      exact ⟨Below.refl _ _, rfl⟩
    refine kSt rfl (fun φ hφ => gStep_run rfl ?_) ?_
    · intro ρ W hC hc hf hL
      have e21 : ρ (.tmp 21) = .int .i64 (em - (P : Int)) := hL 21 (by decide +kernel)
      have l1 : IntKind.i64.wrap (em - (P : Int) + 1) = em - (P : Int) + 1 := by rw [IntKind.wrap_i64]; omega
      have l0 := HLO.out
      rw [l0] at l1
      simp [go_sem, hc, hf, e21, l0, l1]
      exact ⟨Below.refl _ _, rfl⟩
    refine kSt rfl (fun φ hφ => gStep_run rfl ?_) ?_
    · intro ρ W hC hc hf hL
      have e13 : ρ (.tmp 13) = .bool ng := hL 13 (by decide +kernel)
      have e16 : ρ (.tmp 16) = .agg #[.int .u64 (dgl (r) 0 : Nat), .int .u64 (dgl (r) 1 : Nat), .int .u64 (dgl (r) 2 : Nat), .int .u64 (dgl (r) 3 : Nat), .int .u64 (dgl (r) 4 : Nat), .int .u64 (dgl (r) 5 : Nat), .int .u64 (dgl (r) 6 : Nat), .int .u64 (dgl (r) 7 : Nat)] := hL 16 (by decide +kernel)
      have e22 : ρ (.tmp 22) = .int .i64 lo := hL 22 (by decide +kernel)
      simp [go_sem, hc, hf, e13, e16, e22]
      exact ⟨Below.refl _ _, rfl⟩
    refine kSt rfl (fun φ hφ => gStep_run rfl ?_) ?_
    · intro ρ W hC hc hf hL
      have hφ0 : φ 14 = false := hφ 14 (by simp) (by kernel_rfl)
      simp [go_sem, hc, hf]
      refine ⟨below_allocs _ _, ?_⟩
      show (bif φ 14 then SlotIs.nbox (w.heap.size + 1 + 1) ng lo r else SlotIs.nbox (w.heap.size + 1 + 1) false 0 0).R _ _
      rw [hφ0]
      exact ⟨_, rfl, hC.r.lt, nb_zero _ _, fun i => by simp [go_sem]⟩
    refine kStS rfl ⟨rfl, rfl, ?_⟩ ?_
    · intro φ ρ W hφ hC hc hL
      have b6 := hL 6 (by decide +kernel)
      have e23 : ρ (.tmp 23) = .agg #[.bool (ng), .int .i64 (lo), .int .u64 (dgl (r) 0 : Nat), .int .u64 (dgl (r) 1 : Nat), .int .u64 (dgl (r) 2 : Nat), .int .u64 (dgl (r) 3 : Nat), .int .u64 (dgl (r) 4 : Nat), .int .u64 (dgl (r) 5 : Nat), .int .u64 (dgl (r) 6 : Nat), .int .u64 (dgl (r) 7 : Nat)] := hL 23 (by decide +kernel)
      have b6 : (bif φ 14 then SlotIs.nbox (w.heap.size + 1 + 1) ng lo r else SlotIs.nbox (w.heap.size + 1 + 1) false 0 0).R (ρ (.tmp 6)) W := hL 6 (by decide +kernel)
      rw [hφ] at b6
      obtain ⟨p6, e6, q6, l6, z6⟩ := b6
      have yn := l6.n
      have ye := l6.e
      have y0 := l6.x0
      have y1 := l6.x1
      have y2 := l6.x2
      have y3 := l6.x3
      have y4 := l6.x4
      have y5 := l6.x5
      have y6 := l6.x6
      have y7 := l6.x7
      have hzl := l6.lt
      refine gUpon_of ((((((((((W.setCell ⟨p6, 0, none⟩ (.bool (ng))).setCell ⟨p6, 1, none⟩ (.int .i64 (lo))).setCell ⟨p6, 2, none⟩ (.int .u64 (dgl (r) 0 : Nat))).setCell ⟨p6, 3, none⟩ (.int .u64 (dgl (r) 1 : Nat))).setCell ⟨p6, 4, none⟩ (.int .u64 (dgl (r) 2 : Nat))).setCell ⟨p6, 5, none⟩ (.int .u64 (dgl (r) 3 : Nat))).setCell ⟨p6, 6, none⟩ (.int .u64 (dgl (r) 4 : Nat))).setCell ⟨p6, 7, none⟩ (.int .u64 (dgl (r) 5 : Nat))).setCell ⟨p6, 8, none⟩ (.int .u64 (dgl (r) 6 : Nat))).setCell ⟨p6, 9, none⟩ (.int .u64 (dgl (r) 7 : Nat))) ?_ (fun _ => ?_)
      · simp [go_sem, hc, e23, e6, hzl, z6, yn, ye, y0, y1, y2, y3, y4, y5, y6, y7, gUpon]
      have hs10 := below_set10 (Below.refl (w.heap.size + 1 + 1) W) p6 q6 ng lo r
      refine ⟨hC.under hs10 (by omega), fun t => ?_⟩
      refine (tbl_imp rfl (fun _ => val_imp) (tbl_imp rfl (fun _ => val_imp) (tbl_imp rfl (fun _ => val_imp) (tbl_imp rfl (fun _ => val_imp) (tbl_imp rfl (fun _ => val_imp) (tbl_imp rfl (fun _ => val_imp) (tbl_imp rfl (fun _ => val_imp) (tbl_imp rfl (fun _ => val_imp) (tbl_imp rfl (fun _ => val_imp) (tbl_imp rfl (fun _ => val_imp) (tbl_imp rfl (fun _ => val_imp) (tbl_imp rfl (fun _ => val_imp) (tbl_imp rfl (fun _ => val_imp) (tbl_imp rfl (fun ht h => ?_) tbl_nil_imp))))))))))))))
      subst ht
      show (bif (φ 14 || true) then SlotIs.nbox (w.heap.size + 1 + 1) ng lo r else SlotIs.nbox (w.heap.size + 1 + 1) false 0 0).R _ _
      rw [Bool.or_true]
      exact ⟨p6, e6, q6, nb_set l6 ng lo r, fun i => by simpa [go_sem] using z6 i⟩
    exact kSt0
  · intro W hC
    refine gFi 11 rfl ?_
    rintro _ rfl
    refine gFi 12 rfl ?_
    rintro _ rfl
    refine gFi 13 rfl ?_
    rintro _ rfl
    refine gFi 14 rfl ?_
    rintro _ rfl
    refine gFi 15 rfl ?_
    rintro _ rfl
    refine gFi 16 rfl ?_
    rintro _ rfl
    refine gFi 17 rfl ?_
    rintro _ rfl
    refine gFi 18 rfl ?_
    rintro _ rfl
    refine gFi 19 rfl ?_
    rintro _ rfl
    refine gFi 20 rfl ?_
    rintro _ rfl
    refine gFi 21 rfl ?_
    rintro _ rfl
    refine gFi 22 rfl ?_
    rintro _ rfl
    refine gFi 23 rfl ?_
    rintro _ rfl
    refine gFi 6 rfl ?_
    rintro u6 b6
    refine gFiN rfl ?_
    refine gFi0 ?_
    simp only [List.drop_succ_cons, List.drop_zero, Act.put, List.setIfInBounds_toArray, List.set_cons_succ, List.set_cons_zero]
    obtain ⟨p6, rfl, q6, l6, z6⟩ := b6
    have HS := hide hC
    have HN := hide l6
    have HP6 := hide q6
    have HZ := hide z6
    clear hC l6 q6 z6 h2
    have hgt : (0 : Int) < (fd : Int) := by omega
    go_wp2_with fail
    refine (HPR.out _).mono ?_
    rintro e_ wl ⟨rfl, hw⟩
    subst wl
    have hwp : IntKind.i64.wrap ((P : Int) - 1) = (P : Int) - 1 := by rw [IntKind.wrap_i64]; omega
    go_upto_region 5 with fail
    refine wp_gen (fun W => RvSt a w W ∧ NB W p6 ng lo r ∧ ∀ i, W.frozen? ⟨p6, i, none⟩ = false) ⟨HS.out, HN.out, HZ.out⟩ ?_
    clear HS HN HZ hgt hwp
    rintro W5 h5
    refine wp_region_grow 13 [(29, .val (.int .i64 ((P : Int) - 1))), (30, .val (.int .i64 0)), (31, .val (.int .i64 ((P : Int) - 1))), (32, .val (.int .i64 0)), (33, .val (.pointer (some ⟨p6, 2, none⟩))), (34, .val (.pointer (some ⟨p6, 2, none⟩))), (35, .val (.int .u64 (dgl r 0 : Nat))), (36, .val (.int .i64 ((P : Int) - 1))), (37, .val (.int .i64 ((e : Nat) : Int))), (38, .val (.int .u64 ((2 : Int) ^ e))), (39, .val (.int .u64 (dgl s 0 : Nat))), (40, .val (.pointer (some ⟨p6, 2, none⟩))), (41, .val (.pointer (some ⟨p6, 2, none⟩)))]
      (fun W => RvSt a w W ∧ NB W p6 ng lo r ∧ ∀ i, W.frozen? ⟨p6, i, none⟩ = false) mixedOk (by kernel_rfl) (by kernel_rfl) (⟨h5.1.below (Below.refl _ _).drew, h5.2.1.below (Below.refl _ _).drew, fun i => ((Below.refl _ _).drew.frozen (p := ⟨p6, i, none⟩) h5.2.1.lt).trans (h5.2.2 i)⟩) (fun W W' h hb => ⟨h.1.below hb, h.2.1.below hb, fun i => (hb.frozen (p := ⟨p6, i, none⟩) h.2.1.lt).trans (h.2.2 i)⟩) ?_ ?_
    · refine gSt (gStep_run rfl (gRun_move 7 29 (.inl rfl) rfl (by decide +kernel) (fun v w h => h))) ?_
      refine gSt (gStep_run rfl ?_) ?_
      · intro ρ W hC hc hf hL
        have e29 : ρ (.tmp 29) = .int .i64 ((P : Int) - 1) := hL 29 (by decide +kernel)
        have l0 := HQ.out
        simp [go_sem, hc, hf, e29, l0]
        exact ⟨Below.refl _ _, rfl⟩
      refine gSt (gStep_run rfl (gRun_move 7 31 (.inl rfl) rfl (by decide +kernel) (fun v w h => h))) ?_
      refine gSt (gStep_run rfl ?_) ?_
      · intro ρ W hC hc hf hL
        have e31 : ρ (.tmp 31) = .int .i64 ((P : Int) - 1) := hL 31 (by decide +kernel)
        have l0 := HQ.out
        simp [go_sem, hc, hf, e31, l0]
        exact ⟨Below.refl _ _, rfl⟩
      refine gSt (gStep_run rfl ?_) ?_
      · intro ρ W hC hc hf hL
        have e6 : ρ (.tmp 6) = .pointer (some ⟨p6, 0, none⟩) := hL 6 (by decide +kernel)
        simp [go_sem, hc, hf, e6]
        exact ⟨Below.refl _ _, rfl⟩
      refine gSt (gStep_run rfl ?_) ?_
      · intro ρ W hC hc hf hL
        have e32 : ρ (.tmp 32) = .int .i64 0 := hL 32 (by decide +kernel)
        have e33 : ρ (.tmp 33) = .pointer (some ⟨p6, 2, none⟩) := hL 33 (by decide +kernel)
        simp [go_sem, hc, hf, e32, e33]
        exact ⟨Below.refl _ _, rfl⟩
      refine gSt (gStep_run rfl ?_) ?_
      · intro ρ W hC hc hf hL
        have e34 : ρ (.tmp 34) = .pointer (some ⟨p6, 2, none⟩) := hL 34 (by decide +kernel)
        have l0 := hC.2.1.x0
        simp [go_sem, hc, hf, e34, l0]
        exact ⟨Below.refl _ _, rfl⟩
      refine gSt (gStep_run rfl (gRun_move 7 36 (.inl rfl) rfl (by decide +kernel) (fun v w h => h))) ?_
      refine gSt (gStep_run rfl ?_) ?_
      · intro ρ W hC hc hf hL
        have e36 : ρ (.tmp 36) = .int .i64 ((P : Int) - 1) := hL 36 (by decide +kernel)
        have l0 := HM.out
        simp [go_sem, hc, hf, e36, l0]
        exact ⟨Below.refl _ _, rfl⟩
      refine gSt (gStep_run rfl ?_) ?_
      · intro ρ W hC hc hf hL
        have e37 : ρ (.tmp 37) = .int .i64 ((e : Nat) : Int) := hL 37 (by decide +kernel)
        have l0 := HSH.out
        have h0 : (0 : Int) ≤ (e : Int) := by omega
        have h6 := HE6.out
        simp [go_sem, hc, hf, e37, l0, h0, h6]
        exact ⟨Below.refl _ _, rfl⟩
      refine gSt (gStep_run rfl ?_) ?_
      · intro ρ W hC hc hf hL
        have e35 : ρ (.tmp 35) = .int .u64 (dgl r 0 : Nat) := hL 35 (by decide +kernel)
        have e38 : ρ (.tmp 38) = .int .u64 ((2 : Int) ^ e) := hL 38 (by decide +kernel)
        have l0 := HAD.out
        simp [go_sem, hc, hf, e35, e38, l0]
        exact ⟨Below.refl _ _, rfl⟩
      refine gSt (gStep_run rfl ?_) ?_
      · intro ρ W hC hc hf hL
        have e6 : ρ (.tmp 6) = .pointer (some ⟨p6, 0, none⟩) := hL 6 (by decide +kernel)
        simp [go_sem, hc, hf, e6]
        exact ⟨Below.refl _ _, rfl⟩
      refine gSt (gStep_run rfl ?_) ?_
      · intro ρ W hC hc hf hL
        have e30 : ρ (.tmp 30) = .int .i64 0 := hL 30 (by decide +kernel)
        have e40 : ρ (.tmp 40) = .pointer (some ⟨p6, 2, none⟩) := hL 40 (by decide +kernel)
        simp [go_sem, hc, hf, e30, e40]
        exact ⟨Below.refl _ _, rfl⟩
      exact gSt0
    · intro W hC
      refine gFi 29 rfl ?_
      rintro _ rfl
      refine gFi 30 rfl ?_
      rintro _ rfl
      refine gFi 31 rfl ?_
      rintro _ rfl
      refine gFi 32 rfl ?_
      rintro _ rfl
      refine gFi 33 rfl ?_
      rintro _ rfl
      refine gFi 34 rfl ?_
      rintro _ rfl
      refine gFi 35 rfl ?_
      rintro _ rfl
      refine gFi 36 rfl ?_
      rintro _ rfl
      refine gFi 37 rfl ?_
      rintro _ rfl
      refine gFi 38 rfl ?_
      rintro _ rfl
      refine gFi 39 rfl ?_
      rintro _ rfl
      refine gFi 40 rfl ?_
      rintro _ rfl
      refine gFi 41 rfl ?_
      rintro _ rfl
      refine gFi0 ?_
      simp only [List.drop_succ_cons, List.drop_zero, Act.put, List.setIfInBounds_toArray, List.set_cons_succ, List.set_cons_zero]
      have l0 := hC.2.1.x0
      have hf6 := hC.2.2
      have hl6 := hC.2.1.lt
      have HN0 := hide hC.2.1
      have HR0 := hide hC.1
      have HS2 := hide (show RvSt a w (W.setCell ⟨p6, 2, none⟩ (.int .u64 (dgl s 0 : Nat))) ∧ NB (W.setCell ⟨p6, 2, none⟩ (.int .u64 (dgl s 0 : Nat))) p6 ng lo s ∧ ∀ i, (W.setCell ⟨p6, 2, none⟩ (.int .u64 (dgl s 0 : Nat))).frozen? ⟨p6, i, none⟩ = false from
        ⟨hC.1.under ((Below.refl (w.heap.size + 1 + 1) W).setCell (p := ⟨p6, 2, none⟩) HP6.out _) (by omega), nb_setx0 hC.2.1 HOT.out, fun i => by simpa [go_sem] using hC.2.2 i⟩)
      clear hC h5
      go_upto_region 6 with fail
      refine wp_gen (fun W => RvSt a w W ∧ NB W p6 ng lo s ∧ ∀ i, W.frozen? ⟨p6, i, none⟩ = false) HS2.out ?_
      clear HS2 HN0 HR0 l0 hf6 hl6
      rintro W6 h6
      have le := h6.2.1.e
      have hf6 := h6.2.2
      have hl6 := h6.2.1.lt
      have hw : IntKind.i64.wrap (lo + (fd : Int)) = lo + (fd : Int) := by rw [IntKind.wrap_i64]; have := HLO.out; omega
      have hw2 : IntKind.i64.wrap (lo + (fd : Int) - 1) = lo + (fd : Int) - 1 := by rw [IntKind.wrap_i64]; have := HLO.out; omega
      have HS3 := hide (show RvSt a w (W6.setCell ⟨p6, 1, none⟩ (.int .i64 (lo + (fd : Int) - 1))) ∧ NB (W6.setCell ⟨p6, 1, none⟩ (.int .i64 (lo + (fd : Int) - 1))) p6 ng (lo + (fd : Int) - 1) s from
        ⟨h6.1.under ((Below.refl (w.heap.size + 1 + 1) W6).setCell (p := ⟨p6, 1, none⟩) HP6.out _) (by omega), nb_sete h6.2.1 _⟩)
      clear h6
      go_upto_region 7 with fail
      refine wp_gen (fun W => RvSt a w W ∧ NB W p6 ng (lo + (fd : Int) - 1) s) HS3.out ?_
      clear HS3 le hf6 hl6 hw hw2
      rintro W7 ⟨g1, g2⟩
      have HS := hide g1
      have HN := hide g2
      clear g1 g2
      have hrf := HS.out.fr
      have rn := HS.out.r.n
      have re := HS.out.r.e
      have r0 := HS.out.r.x0
      have r1 := HS.out.r.x1
      have r2 := HS.out.r.x2
      have r3 := HS.out.r.x3
      have r4 := HS.out.r.x4
      have r5 := HS.out.r.x5
      have r6 := HS.out.r.x6
      have r7 := HS.out.r.x7
      have hrl := HS.out.r.lt
      have ln := HN.out.n
      have le := HN.out.e
      have l0 := HN.out.x0
      have l1 := HN.out.x1
      have l2 := HN.out.x2
      have l3 := HN.out.x3
      have l4 := HN.out.x4
      have l5 := HN.out.x5
      have l6 := HN.out.x6
      have l7 := HN.out.x7
      have HB := hide HS.out.bel
      clear HS HN
      go_wp2
      exact bodyPost_ret (v := .agg #[.bool (ng), .int .i64 (lo + (fd : Int) - 1), .int .u64 (dgl (s) 0 : Nat), .int .u64 (dgl (s) 1 : Nat), .int .u64 (dgl (s) 2 : Nat), .int .u64 (dgl (s) 3 : Nat), .int .u64 (dgl (s) 4 : Nat), .int .u64 (dgl (s) 5 : Nat), .int .u64 (dgl (s) 6 : Nat), .int .u64 (dgl (s) 7 : Nat)]) (by simp [results, Tryd.results37, go_sem, hrl, rn, re, r0, r1, r2, r3, r4, r5, r6, r7]) rfl ⟨rfl, ((((((((((HB.out.setCell (p := ⟨w.heap.size + 1, 0, none⟩) (Nat.le_succ _) _).setCell (p := ⟨w.heap.size + 1, 1, none⟩) (Nat.le_succ _) _).setCell (p := ⟨w.heap.size + 1, 2, none⟩) (Nat.le_succ _) _).setCell (p := ⟨w.heap.size + 1, 3, none⟩) (Nat.le_succ _) _).setCell (p := ⟨w.heap.size + 1, 4, none⟩) (Nat.le_succ _) _).setCell (p := ⟨w.heap.size + 1, 5, none⟩) (Nat.le_succ _) _).setCell (p := ⟨w.heap.size + 1, 6, none⟩) (Nat.le_succ _) _).setCell (p := ⟨w.heap.size + 1, 7, none⟩) (Nat.le_succ _) _).setCell (p := ⟨w.heap.size + 1, 8, none⟩) (Nat.le_succ _) _).setCell (p := ⟨w.heap.size + 1, 9, none⟩) (Nat.le_succ _) _)⟩
      

set_option maxHeartbeats 4000000 in
theorem rval_H (f em lo : Int) (a r s fd P e : Nat) (ng : Bool)
    (HFD : Hid (∀ w, Calls Tryd.prog 23 #[.int .i64 f, .agg #[.int .u64 (dgl (a) 1 : Nat), .int .u64 (dgl (a) 0 : Nat)]] w fun e w' => e = .returned (.int .i64 (fd : Nat)) ∧ Below w.heap.size w w'))
    (HNG : Hid (∀ w, Calls Tryd.prog 17 #[.int .i64 f, .agg #[.int .u64 (dgl (a) 1 : Nat), .int .u64 (dgl (a) 0 : Nat)]] w fun e w' => e = .returned (.bool ng) ∧ Below w.heap.size w w'))
    (HFR : Hid (∀ w, Calls Tryd.prog 24 #[.int .i64 f, .agg #[.int .u64 (dgl (a) 1 : Nat), .int .u64 (dgl (a) 0 : Nat)]] w fun e w' => e = .returned (.agg #[.int .u64 (dgl (r) 0 : Nat), .int .u64 (dgl (r) 1 : Nat), .int .u64 (dgl (r) 2 : Nat), .int .u64 (dgl (r) 3 : Nat), .int .u64 (dgl (r) 4 : Nat), .int .u64 (dgl (r) 5 : Nat), .int .u64 (dgl (r) 6 : Nat), .int .u64 (dgl (r) 7 : Nat)]) ∧ Below w.heap.size w w'))
    (HEM : Hid (∀ w, Calls Tryd.prog 82 #[.int .i64 f] w fun e w' => e = .returned (.int .i64 em) ∧ w' = w))
    (HPR : Hid (∀ w, Calls Tryd.prog 31 #[.int .i64 f] w fun e w' => e = .returned (.int .i64 (P : Nat)) ∧ w' = w))
    (hem : -20000 ≤ em ∧ em ≤ 0) (hP : 2 ≤ P ∧ P ≤ 128) (HLO : Hid (em - (P : Int) + 1 = lo))
    (hfd : 1 ≤ fd ∧ fd ≤ 40000) (HQ : Hid (((P : Int) - 1).tdiv 64 = 1)) (HM : Hid (((P : Int) - 1).tmod 64 = ((e : Nat) : Int))) (HSH : Hid (IntKind.u64.wrap ((2 : Int) ^ e) = (2 : Int) ^ e)) (HE6 : Hid ((e : Int) < 64)) (HAD : Hid (IntKind.u64.wrap (((dgl r 1 : Nat) : Int) + (2 : Int) ^ e) = ((dgl s 1 : Nat) : Int))) (HOT : Hid (∀ j, j ≠ 1 → dgl s j = dgl r j)) (w : World) :
    Calls Tryd.prog 37 #[.int .i64 f, .agg #[.int .u64 (dgl (a) 1 : Nat), .int .u64 (dgl (a) 0 : Nat)]] w fun e w' => e = .returned (.agg #[.bool (ng), .int .i64 (lo + (fd : Int) - 1), .int .u64 (dgl (s) 0 : Nat), .int .u64 (dgl (s) 1 : Nat), .int .u64 (dgl (s) 2 : Nat), .int .u64 (dgl (s) 3 : Nat), .int .u64 (dgl (s) 4 : Nat), .int .u64 (dgl (s) 5 : Nat), .int .u64 (dgl (s) 6 : Nat), .int .u64 (dgl (s) 7 : Nat)]) ∧ Below w.heap.size w w' := by
  have HS := hide (rvSt_start a w)
  go_enter Tryd.func37, Tryd.ntmps37
  go_upto_region 1 with fail
  refine wp_gen (fun W => RvSt a w W) HS.out ?_
  clear HS
  rintro W1 g1
  have HS := hide g1
  have l0 := g1.wa.h
  have l1 := g1.wa.l
  clear g1
  go_wp2_with fail
  refine (HFD.out _).mono ?_
  rintro e_ w1 ⟨rfl, hb1⟩
  replace HS := hide (HS.out.below hb1)
  clear hb1 l0 l1
  go_upto_region 2 with fail
  refine wp_gen (fun W => RvSt a w W) HS.out ?_
  clear HS
  rintro W2 h2
  refine wp_region_storeK 15 [14] [11, 12, 13, 14, 15, 16, 17, 18, 19, 20, 21, 22, 23, 6] (fun bs => [(11, .val (.int .i64 f)), (12, .val (.agg #[.int .u64 (dgl (a) 1 : Nat), .int .u64 (dgl (a) 0 : Nat)])), (13, .val (.bool ng)), (14, .val (.int .i64 f)), (15, .val (.agg #[.int .u64 (dgl (a) 1 : Nat), .int .u64 (dgl (a) 0 : Nat)])), (16, .val (.agg #[.int .u64 (dgl (r) 0 : Nat), .int .u64 (dgl (r) 1 : Nat), .int .u64 (dgl (r) 2 : Nat), .int .u64 (dgl (r) 3 : Nat), .int .u64 (dgl (r) 4 : Nat), .int .u64 (dgl (r) 5 : Nat), .int .u64 (dgl (r) 6 : Nat), .int .u64 (dgl (r) 7 : Nat)])), (17, .val (.int .i64 f)), (18, .val (.int .i64 em)), (19, .val (.int .i64 f)), (20, .val (.int .i64 (P : Nat))), (21, .val (.int .i64 (em - (P : Int)))), (22, .val (.int .i64 lo)), (23, .val (.agg #[.bool (ng), .int .i64 (lo), .int .u64 (dgl (r) 0 : Nat), .int .u64 (dgl (r) 1 : Nat), .int .u64 (dgl (r) 2 : Nat), .int .u64 (dgl (r) 3 : Nat), .int .u64 (dgl (r) 4 : Nat), .int .u64 (dgl (r) 5 : Nat), .int .u64 (dgl (r) 6 : Nat), .int .u64 (dgl (r) 7 : Nat)])), (6, bif bs.headD false then SlotIs.nbox (w.heap.size + 1 + 1) ng lo r else SlotIs.nbox (w.heap.size + 1 + 1) false 0 0)])
    (fun _ W => RvSt a w W) (fun bs => rfl) mixedOk (by kernel_rfl) (by kernel_rfl) (by kernel_rfl) (h2.below (Below.refl _ _).drew) (fun bs W W' h hb => h.below hb) ?_ ?_
  · refine kSt rfl (fun φ hφ => gStep_run rfl (gRun_move 0 11 (.inl rfl) rfl (by decide +kernel) (fun v w h => h))) ?_
    refine kSt rfl (fun φ hφ => gStep_run rfl ?_) ?_
    · intro ρ W hC hc hf hL
      have e3 : ρ (.tmp 3) = .pointer (some ⟨w.heap.size, 0, none⟩) := hL 3 (by decide +kernel)
      have l0 := hC.wa.h
      have l1 := hC.wa.l
      simp [go_sem, hc, hf, e3, l0, l1]
      exact ⟨Below.refl _ _, rfl⟩
    refine kSt rfl (fun φ hφ => gStep_run rfl ?_) ?_
    · intro ρ W hC hc hf hL
      have e11 : ρ (.tmp 11) = .int .i64 f := hL 11 (by decide +kernel)
      have e12 : ρ (.tmp 12) = .agg #[.int .u64 (dgl (a) 1 : Nat), .int .u64 (dgl (a) 0 : Nat)] := hL 12 (by decide +kernel)
      simp [go_sem, hc, hf, e11, e12]
      refine (HNG.out W).mono ?_
      rintro e w' ⟨rfl, hb⟩
      exact ⟨_, rfl, by first | exact hb | (subst hb; exact Below.refl _ _), rfl⟩
    refine kSt rfl (fun φ hφ => gStep_run rfl (gRun_move 0 14 (.inl rfl) rfl (by decide +kernel) (fun v w h => h))) ?_
    refine kSt rfl (fun φ hφ => gStep_run rfl ?_) ?_
    · intro ρ W hC hc hf hL
      have e3 : ρ (.tmp 3) = .pointer (some ⟨w.heap.size, 0, none⟩) := hL 3 (by decide +kernel)
      have l0 := hC.wa.h
      have l1 := hC.wa.l
      simp [go_sem, hc, hf, e3, l0, l1]
      exact ⟨Below.refl _ _, rfl⟩
    refine kSt rfl (fun φ hφ => gStep_run rfl ?_) ?_
    · intro ρ W hC hc hf hL
      have e14 : ρ (.tmp 14) = .int .i64 f := hL 14 (by decide +kernel)
      have e15 : ρ (.tmp 15) = .agg #[.int .u64 (dgl (a) 1 : Nat), .int .u64 (dgl (a) 0 : Nat)] := hL 15 (by decide +kernel)
      simp [go_sem, hc, hf, e14, e15]
      refine (HFR.out W).mono ?_
      rintro e w' ⟨rfl, hb⟩
      exact ⟨_, rfl, by first | exact hb | (subst hb; exact Below.refl _ _), rfl⟩
    refine kSt rfl (fun φ hφ => gStep_run rfl (gRun_move 0 17 (.inl rfl) rfl (by decide +kernel) (fun v w h => h))) ?_
    refine kSt rfl (fun φ hφ => gStep_run rfl ?_) ?_
    · intro ρ W hC hc hf hL
      have e17 : ρ (.tmp 17) = .int .i64 f := hL 17 (by decide +kernel)
      simp [go_sem, hc, hf, e17]
      refine (HEM.out W).mono ?_
      rintro e w' ⟨rfl, hb⟩
      exact ⟨_, rfl, by first | exact hb | (subst hb; exact Below.refl _ _), rfl⟩
    refine kSt rfl (fun φ hφ => gStep_run rfl (gRun_move 0 19 (.inl rfl) rfl (by decide +kernel) (fun v w h => h))) ?_
    refine kSt rfl (fun φ hφ => gStep_run rfl ?_) ?_
    · intro ρ W hC hc hf hL
      have e19 : ρ (.tmp 19) = .int .i64 f := hL 19 (by decide +kernel)
      simp [go_sem, hc, hf, e19]
      refine (HPR.out W).mono ?_
      rintro e w' ⟨rfl, hb⟩
      exact ⟨_, rfl, by first | exact hb | (subst hb; exact Below.refl _ _), rfl⟩
    refine kSt rfl (fun φ hφ => gStep_run rfl ?_) ?_
    · intro ρ W hC hc hf hL
      have e18 : ρ (.tmp 18) = .int .i64 em := hL 18 (by decide +kernel)
      have e20 : ρ (.tmp 20) = .int .i64 (P : Nat) := hL 20 (by decide +kernel)
      have l0 : IntKind.i64.wrap (em - (P : Int)) = em - (P : Int) := by rw [IntKind.wrap_i64]; omega
      simp [go_sem, hc, hf, e18, e20, l0]
      exact ⟨Below.refl _ _, rfl⟩
    refine kSt rfl (fun φ hφ => gStep_run rfl ?_) ?_
    · intro ρ W hC hc hf hL
      have e21 : ρ (.tmp 21) = .int .i64 (em - (P : Int)) := hL 21 (by decide +kernel)
      have l1 : IntKind.i64.wrap (em - (P : Int) + 1) = em - (P : Int) + 1 := by rw [IntKind.wrap_i64]; omega
      have l0 := HLO.out
      rw [l0] at l1
      simp [go_sem, hc, hf, e21, l0, l1]
      exact ⟨Below.refl _ _, rfl⟩
    refine kSt rfl (fun φ hφ => gStep_run rfl ?_) ?_
    · intro ρ W hC hc hf hL
      have e13 : ρ (.tmp 13) = .bool ng := hL 13 (by decide +kernel)
      have e16 : ρ (.tmp 16) = .agg #[.int .u64 (dgl (r) 0 : Nat), .int .u64 (dgl (r) 1 : Nat), .int .u64 (dgl (r) 2 : Nat), .int .u64 (dgl (r) 3 : Nat), .int .u64 (dgl (r) 4 : Nat), .int .u64 (dgl (r) 5 : Nat), .int .u64 (dgl (r) 6 : Nat), .int .u64 (dgl (r) 7 : Nat)] := hL 16 (by decide +kernel)
      have e22 : ρ (.tmp 22) = .int .i64 lo := hL 22 (by decide +kernel)
      simp [go_sem, hc, hf, e13, e16, e22]
      exact ⟨Below.refl _ _, rfl⟩
    refine kSt rfl (fun φ hφ => gStep_run rfl ?_) ?_
    · intro ρ W hC hc hf hL
      have hφ0 : φ 14 = false := hφ 14 (by simp) (by kernel_rfl)
      simp [go_sem, hc, hf]
      refine ⟨below_allocs _ _, ?_⟩
      show (bif φ 14 then SlotIs.nbox (w.heap.size + 1 + 1) ng lo r else SlotIs.nbox (w.heap.size + 1 + 1) false 0 0).R _ _
      rw [hφ0]
      exact ⟨_, rfl, hC.r.lt, nb_zero _ _, fun i => by simp [go_sem]⟩
    refine kStS rfl ⟨rfl, rfl, ?_⟩ ?_
    · intro φ ρ W hφ hC hc hL
      have b6 := hL 6 (by decide +kernel)
      have e23 : ρ (.tmp 23) = .agg #[.bool (ng), .int .i64 (lo), .int .u64 (dgl (r) 0 : Nat), .int .u64 (dgl (r) 1 : Nat), .int .u64 (dgl (r) 2 : Nat), .int .u64 (dgl (r) 3 : Nat), .int .u64 (dgl (r) 4 : Nat), .int .u64 (dgl (r) 5 : Nat), .int .u64 (dgl (r) 6 : Nat), .int .u64 (dgl (r) 7 : Nat)] := hL 23 (by decide +kernel)
      have b6 : (bif φ 14 then SlotIs.nbox (w.heap.size + 1 + 1) ng lo r else SlotIs.nbox (w.heap.size + 1 + 1) false 0 0).R (ρ (.tmp 6)) W := hL 6 (by decide +kernel)
      rw [hφ] at b6
      obtain ⟨p6, e6, q6, l6, z6⟩ := b6
      have yn := l6.n
      have ye := l6.e
      have y0 := l6.x0
      have y1 := l6.x1
      have y2 := l6.x2
      have y3 := l6.x3
      have y4 := l6.x4
      have y5 := l6.x5
      have y6 := l6.x6
      have y7 := l6.x7
      have hzl := l6.lt
      refine gUpon_of ((((((((((W.setCell ⟨p6, 0, none⟩ (.bool (ng))).setCell ⟨p6, 1, none⟩ (.int .i64 (lo))).setCell ⟨p6, 2, none⟩ (.int .u64 (dgl (r) 0 : Nat))).setCell ⟨p6, 3, none⟩ (.int .u64 (dgl (r) 1 : Nat))).setCell ⟨p6, 4, none⟩ (.int .u64 (dgl (r) 2 : Nat))).setCell ⟨p6, 5, none⟩ (.int .u64 (dgl (r) 3 : Nat))).setCell ⟨p6, 6, none⟩ (.int .u64 (dgl (r) 4 : Nat))).setCell ⟨p6, 7, none⟩ (.int .u64 (dgl (r) 5 : Nat))).setCell ⟨p6, 8, none⟩ (.int .u64 (dgl (r) 6 : Nat))).setCell ⟨p6, 9, none⟩ (.int .u64 (dgl (r) 7 : Nat))) ?_ (fun _ => ?_)
      · simp [go_sem, hc, e23, e6, hzl, z6, yn, ye, y0, y1, y2, y3, y4, y5, y6, y7, gUpon]
      have hs10 := below_set10 (Below.refl (w.heap.size + 1 + 1) W) p6 q6 ng lo r
      refine ⟨hC.under hs10 (by omega), fun t => ?_⟩
      refine (tbl_imp rfl (fun _ => val_imp) (tbl_imp rfl (fun _ => val_imp) (tbl_imp rfl (fun _ => val_imp) (tbl_imp rfl (fun _ => val_imp) (tbl_imp rfl (fun _ => val_imp) (tbl_imp rfl (fun _ => val_imp) (tbl_imp rfl (fun _ => val_imp) (tbl_imp rfl (fun _ => val_imp) (tbl_imp rfl (fun _ => val_imp) (tbl_imp rfl (fun _ => val_imp) (tbl_imp rfl (fun _ => val_imp) (tbl_imp rfl (fun _ => val_imp) (tbl_imp rfl (fun _ => val_imp) (tbl_imp rfl (fun ht h => ?_) tbl_nil_imp))))))))))))))
      subst ht
      show (bif (φ 14 || true) then SlotIs.nbox (w.heap.size + 1 + 1) ng lo r else SlotIs.nbox (w.heap.size + 1 + 1) false 0 0).R _ _
      rw [Bool.or_true]
      exact ⟨p6, e6, q6, nb_set l6 ng lo r, fun i => by simpa [go_sem] using z6 i⟩
    exact kSt0
  · intro W hC
    refine gFi 11 rfl ?_
    rintro _ rfl
    refine gFi 12 rfl ?_
    rintro _ rfl
    refine gFi 13 rfl ?_
    rintro _ rfl
    refine gFi 14 rfl ?_
    rintro _ rfl
    refine gFi 15 rfl ?_
    rintro _ rfl
    refine gFi 16 rfl ?_
    rintro _ rfl
    refine gFi 17 rfl ?_
    rintro _ rfl
    refine gFi 18 rfl ?_
    rintro _ rfl
    refine gFi 19 rfl ?_
    rintro _ rfl
    refine gFi 20 rfl ?_
    rintro _ rfl
    refine gFi 21 rfl ?_
    rintro _ rfl
    refine gFi 22 rfl ?_
    rintro _ rfl
    refine gFi 23 rfl ?_
    rintro _ rfl
    refine gFi 6 rfl ?_
    rintro u6 b6
    refine gFiN rfl ?_
    refine gFi0 ?_
    simp only [List.drop_succ_cons, List.drop_zero, Act.put, List.setIfInBounds_toArray, List.set_cons_succ, List.set_cons_zero]
    obtain ⟨p6, rfl, q6, l6, z6⟩ := b6
    have HS := hide hC
    have HN := hide l6
    have HP6 := hide q6
    have HZ := hide z6
    clear hC l6 q6 z6 h2
    have hgt : (0 : Int) < (fd : Int) := by omega
    go_wp2_with fail
    refine (HPR.out _).mono ?_
    rintro e_ wl ⟨rfl, hw⟩
    subst wl
    have hwp : IntKind.i64.wrap ((P : Int) - 1) = (P : Int) - 1 := by rw [IntKind.wrap_i64]; omega
    go_upto_region 5 with fail
    refine wp_gen (fun W => RvSt a w W ∧ NB W p6 ng lo r ∧ ∀ i, W.frozen? ⟨p6, i, none⟩ = false) ⟨HS.out, HN.out, HZ.out⟩ ?_
    clear HS HN HZ hgt hwp
    rintro W5 h5
    refine wp_region_grow 13 [(29, .val (.int .i64 ((P : Int) - 1))), (30, .val (.int .i64 1)), (31, .val (.int .i64 ((P : Int) - 1))), (32, .val (.int .i64 1)), (33, .val (.pointer (some ⟨p6, 2, none⟩))), (34, .val (.pointer (some ⟨p6, 3, none⟩))), (35, .val (.int .u64 (dgl r 1 : Nat))), (36, .val (.int .i64 ((P : Int) - 1))), (37, .val (.int .i64 ((e : Nat) : Int))), (38, .val (.int .u64 ((2 : Int) ^ e))), (39, .val (.int .u64 (dgl s 1 : Nat))), (40, .val (.pointer (some ⟨p6, 2, none⟩))), (41, .val (.pointer (some ⟨p6, 3, none⟩)))]
      (fun W => RvSt a w W ∧ NB W p6 ng lo r ∧ ∀ i, W.frozen? ⟨p6, i, none⟩ = false) mixedOk (by kernel_rfl) (by kernel_rfl) (⟨h5.1.below (Below.refl _ _).drew, h5.2.1.below (Below.refl _ _).drew, fun i => ((Below.refl _ _).drew.frozen (p := ⟨p6, i, none⟩) h5.2.1.lt).trans (h5.2.2 i)⟩) (fun W W' h hb => ⟨h.1.below hb, h.2.1.below hb, fun i => (hb.frozen (p := ⟨p6, i, none⟩) h.2.1.lt).trans (h.2.2 i)⟩) ?_ ?_
    · refine gSt (gStep_run rfl (gRun_move 7 29 (.inl rfl) rfl (by decide +kernel) (fun v w h => h))) ?_
      refine gSt (gStep_run rfl ?_) ?_
      · intro ρ W hC hc hf hL
        have e29 : ρ (.tmp 29) = .int .i64 ((P : Int) - 1) := hL 29 (by decide +kernel)
        have l0 := HQ.out
        simp [go_sem, hc, hf, e29, l0]
        exact ⟨Below.refl _ _, rfl⟩
      refine gSt (gStep_run rfl (gRun_move 7 31 (.inl rfl) rfl (by decide +kernel) (fun v w h => h))) ?_
      refine gSt (gStep_run rfl ?_) ?_
      · intro ρ W hC hc hf hL
        have e31 : ρ (.tmp 31) = .int .i64 ((P : Int) - 1) := hL 31 (by decide +kernel)
        have l0 := HQ.out
        simp [go_sem, hc, hf, e31, l0]
        exact ⟨Below.refl _ _, rfl⟩
      refine gSt (gStep_run rfl ?_) ?_
      · intro ρ W hC hc hf hL
        have e6 : ρ (.tmp 6) = .pointer (some ⟨p6, 0, none⟩) := hL 6 (by decide +kernel)
        simp [go_sem, hc, hf, e6]
        exact ⟨Below.refl _ _, rfl⟩
      refine gSt (gStep_run rfl ?_) ?_
      · intro ρ W hC hc hf hL
        have e32 : ρ (.tmp 32) = .int .i64 1 := hL 32 (by decide +kernel)
        have e33 : ρ (.tmp 33) = .pointer (some ⟨p6, 2, none⟩) := hL 33 (by decide +kernel)
        simp [go_sem, hc, hf, e32, e33]
        exact ⟨Below.refl _ _, rfl⟩
      refine gSt (gStep_run rfl ?_) ?_
      · intro ρ W hC hc hf hL
        have e34 : ρ (.tmp 34) = .pointer (some ⟨p6, 3, none⟩) := hL 34 (by decide +kernel)
        have l0 := hC.2.1.x1
        simp [go_sem, hc, hf, e34, l0]
        exact ⟨Below.refl _ _, rfl⟩
      refine gSt (gStep_run rfl (gRun_move 7 36 (.inl rfl) rfl (by decide +kernel) (fun v w h => h))) ?_
      refine gSt (gStep_run rfl ?_) ?_
      · intro ρ W hC hc hf hL
        have e36 : ρ (.tmp 36) = .int .i64 ((P : Int) - 1) := hL 36 (by decide +kernel)
        have l0 := HM.out
        simp [go_sem, hc, hf, e36, l0]
        exact ⟨Below.refl _ _, rfl⟩
      refine gSt (gStep_run rfl ?_) ?_
      · intro ρ W hC hc hf hL
        have e37 : ρ (.tmp 37) = .int .i64 ((e : Nat) : Int) := hL 37 (by decide +kernel)
        have l0 := HSH.out
        have h0 : (0 : Int) ≤ (e : Int) := by omega
        have h6 := HE6.out
        simp [go_sem, hc, hf, e37, l0, h0, h6]
        exact ⟨Below.refl _ _, rfl⟩
      refine gSt (gStep_run rfl ?_) ?_
      · intro ρ W hC hc hf hL
        have e35 : ρ (.tmp 35) = .int .u64 (dgl r 1 : Nat) := hL 35 (by decide +kernel)
        have e38 : ρ (.tmp 38) = .int .u64 ((2 : Int) ^ e) := hL 38 (by decide +kernel)
        have l0 := HAD.out
        simp [go_sem, hc, hf, e35, e38, l0]
        exact ⟨Below.refl _ _, rfl⟩
      refine gSt (gStep_run rfl ?_) ?_
      · intro ρ W hC hc hf hL
        have e6 : ρ (.tmp 6) = .pointer (some ⟨p6, 0, none⟩) := hL 6 (by decide +kernel)
        simp [go_sem, hc, hf, e6]
        exact ⟨Below.refl _ _, rfl⟩
      refine gSt (gStep_run rfl ?_) ?_
      · intro ρ W hC hc hf hL
        have e30 : ρ (.tmp 30) = .int .i64 1 := hL 30 (by decide +kernel)
        have e40 : ρ (.tmp 40) = .pointer (some ⟨p6, 2, none⟩) := hL 40 (by decide +kernel)
        simp [go_sem, hc, hf, e30, e40]
        exact ⟨Below.refl _ _, rfl⟩
      exact gSt0
    · intro W hC
      refine gFi 29 rfl ?_
      rintro _ rfl
      refine gFi 30 rfl ?_
      rintro _ rfl
      refine gFi 31 rfl ?_
      rintro _ rfl
      refine gFi 32 rfl ?_
      rintro _ rfl
      refine gFi 33 rfl ?_
      rintro _ rfl
      refine gFi 34 rfl ?_
      rintro _ rfl
      refine gFi 35 rfl ?_
      rintro _ rfl
      refine gFi 36 rfl ?_
      rintro _ rfl
      refine gFi 37 rfl ?_
      rintro _ rfl
      refine gFi 38 rfl ?_
      rintro _ rfl
      refine gFi 39 rfl ?_
      rintro _ rfl
      refine gFi 40 rfl ?_
      rintro _ rfl
      refine gFi 41 rfl ?_
      rintro _ rfl
      refine gFi0 ?_
      simp only [List.drop_succ_cons, List.drop_zero, Act.put, List.setIfInBounds_toArray, List.set_cons_succ, List.set_cons_zero]
      have l0 := hC.2.1.x1
      have hf6 := hC.2.2
      have hl6 := hC.2.1.lt
      have HN0 := hide hC.2.1
      have HR0 := hide hC.1
      have HS2 := hide (show RvSt a w (W.setCell ⟨p6, 3, none⟩ (.int .u64 (dgl s 1 : Nat))) ∧ NB (W.setCell ⟨p6, 3, none⟩ (.int .u64 (dgl s 1 : Nat))) p6 ng lo s ∧ ∀ i, (W.setCell ⟨p6, 3, none⟩ (.int .u64 (dgl s 1 : Nat))).frozen? ⟨p6, i, none⟩ = false from
        ⟨hC.1.under ((Below.refl (w.heap.size + 1 + 1) W).setCell (p := ⟨p6, 3, none⟩) HP6.out _) (by omega), nb_setx1 hC.2.1 HOT.out, fun i => by simpa [go_sem] using hC.2.2 i⟩)
      clear hC h5
      go_upto_region 6 with fail
      refine wp_gen (fun W => RvSt a w W ∧ NB W p6 ng lo s ∧ ∀ i, W.frozen? ⟨p6, i, none⟩ = false) HS2.out ?_
      clear HS2 HN0 HR0 l0 hf6 hl6
      rintro W6 h6
      have le := h6.2.1.e
      have hf6 := h6.2.2
      have hl6 := h6.2.1.lt
      have hw : IntKind.i64.wrap (lo + (fd : Int)) = lo + (fd : Int) := by rw [IntKind.wrap_i64]; have := HLO.out; omega
      have hw2 : IntKind.i64.wrap (lo + (fd : Int) - 1) = lo + (fd : Int) - 1 := by rw [IntKind.wrap_i64]; have := HLO.out; omega
      have HS3 := hide (show RvSt a w (W6.setCell ⟨p6, 1, none⟩ (.int .i64 (lo + (fd : Int) - 1))) ∧ NB (W6.setCell ⟨p6, 1, none⟩ (.int .i64 (lo + (fd : Int) - 1))) p6 ng (lo + (fd : Int) - 1) s from
        ⟨h6.1.under ((Below.refl (w.heap.size + 1 + 1) W6).setCell (p := ⟨p6, 1, none⟩) HP6.out _) (by omega), nb_sete h6.2.1 _⟩)
      clear h6
      go_upto_region 7 with fail
      refine wp_gen (fun W => RvSt a w W ∧ NB W p6 ng (lo + (fd : Int) - 1) s) HS3.out ?_
      clear HS3 le hf6 hl6 hw hw2
      rintro W7 ⟨g1, g2⟩
      have HS := hide g1
      have HN := hide g2
      clear g1 g2
      have hrf := HS.out.fr
      have rn := HS.out.r.n
      have re := HS.out.r.e
      have r0 := HS.out.r.x0
      have r1 := HS.out.r.x1
      have r2 := HS.out.r.x2
      have r3 := HS.out.r.x3
      have r4 := HS.out.r.x4
      have r5 := HS.out.r.x5
      have r6 := HS.out.r.x6
      have r7 := HS.out.r.x7
      have hrl := HS.out.r.lt
      have ln := HN.out.n
      have le := HN.out.e
      have l0 := HN.out.x0
      have l1 := HN.out.x1
      have l2 := HN.out.x2
      have l3 := HN.out.x3
      have l4 := HN.out.x4
      have l5 := HN.out.x5
      have l6 := HN.out.x6
      have l7 := HN.out.x7
      have HB := hide HS.out.bel
      clear HS HN
      go_wp2
      exact bodyPost_ret (v := .agg #[.bool (ng), .int .i64 (lo + (fd : Int) - 1), .int .u64 (dgl (s) 0 : Nat), .int .u64 (dgl (s) 1 : Nat), .int .u64 (dgl (s) 2 : Nat), .int .u64 (dgl (s) 3 : Nat), .int .u64 (dgl (s) 4 : Nat), .int .u64 (dgl (s) 5 : Nat), .int .u64 (dgl (s) 6 : Nat), .int .u64 (dgl (s) 7 : Nat)]) (by simp [results, Tryd.results37, go_sem, hrl, rn, re, r0, r1, r2, r3, r4, r5, r6, r7]) rfl ⟨rfl, ((((((((((HB.out.setCell (p := ⟨w.heap.size + 1, 0, none⟩) (Nat.le_succ _) _).setCell (p := ⟨w.heap.size + 1, 1, none⟩) (Nat.le_succ _) _).setCell (p := ⟨w.heap.size + 1, 2, none⟩) (Nat.le_succ _) _).setCell (p := ⟨w.heap.size + 1, 3, none⟩) (Nat.le_succ _) _).setCell (p := ⟨w.heap.size + 1, 4, none⟩) (Nat.le_succ _) _).setCell (p := ⟨w.heap.size + 1, 5, none⟩) (Nat.le_succ _) _).setCell (p := ⟨w.heap.size + 1, 6, none⟩) (Nat.le_succ _) _).setCell (p := ⟨w.heap.size + 1, 7, none⟩) (Nat.le_succ _) _).setCell (p := ⟨w.heap.size + 1, 8, none⟩) (Nat.le_succ _) _).setCell (p := ⟨w.heap.size + 1, 9, none⟩) (Nat.le_succ _) _)⟩
      

end Go.Proofs.YtidfegilddlglaaDoor

