/- Contracts and laws: ClsA. -/
import Derived.Test.YtidfegilddlglaaDoorXFmtK
import Derived.Deep.DeepCutAuto
/- Contracts: class.ones, taken. -/
set_option linter.unusedVariables false
set_option linter.unusedSimpArgs false
set_option maxRecDepth 8000
namespace Go.Proofs.YtidfegilddlglaaDoor
open Go.RowKit Plain

theorem ones_1 (w : World) : Calls Tryd.prog 52 #[.agg #[.int .i64 16, .int .i64 11, .int .i64 15, .int .i64 (-14), .int .i64 5]] w fun e w' => e = .returned (.int .i64 ((31 : Nat) : Int)) ∧ Below w.heap.size w w' := by
  go_enter Tryd.func52, Tryd.ntmps52
  go_wp2
  go_ret
  exact ⟨rfl, below_allocs _ _⟩

theorem ones_2 (w : World) : Calls Tryd.prog 52 #[.agg #[.int .i64 32, .int .i64 24, .int .i64 127, .int .i64 (-126), .int .i64 8]] w fun e w' => e = .returned (.int .i64 ((255 : Nat) : Int)) ∧ Below w.heap.size w w' := by
  go_enter Tryd.func52, Tryd.ntmps52
  go_wp2
  go_ret
  exact ⟨rfl, below_allocs _ _⟩

theorem ones_3 (w : World) : Calls Tryd.prog 52 #[.agg #[.int .i64 64, .int .i64 53, .int .i64 1023, .int .i64 (-1022), .int .i64 11]] w fun e w' => e = .returned (.int .i64 ((2047 : Nat) : Int)) ∧ Below w.heap.size w w' := by
  go_enter Tryd.func52, Tryd.ntmps52
  go_wp2
  go_ret
  exact ⟨rfl, below_allocs _ _⟩

theorem ones_4 (w : World) : Calls Tryd.prog 52 #[.agg #[.int .i64 128, .int .i64 113, .int .i64 16383, .int .i64 (-16382), .int .i64 15]] w fun e w' => e = .returned (.int .i64 ((32767 : Nat) : Int)) ∧ Below w.heap.size w w' := by
  go_enter Tryd.func52, Tryd.ntmps52
  go_wp2
  go_ret
  exact ⟨rfl, below_allocs _ _⟩

/-- What taken goes by: the record, the word's number, the result. -/
structure TkSt (w : World) (k : Nat → Int) (a : Nat) (W : World) : Prop where
  rk : ∀ i, i < 5 → W.cell? ⟨w.heap.size, i, none⟩ = some (.int .i64 (k i))
  la : LiesF W (w.heap.size + 1) (dgl a)
  r0 : W.cell? ⟨w.heap.size + 1 + 1, 0, none⟩ = some (.bool false)
  r1 : W.cell? ⟨w.heap.size + 1 + 1, 1, none⟩ = some (.int .i64 0)
  r2 : ∀ i, i < 8 → W.cell? ⟨w.heap.size + 1 + 1, i + 2, none⟩ = some (.int .u64 0)
  rf : ∀ i, W.frozen? ⟨w.heap.size + 1 + 1, i, none⟩ = false
  lt : w.heap.size + 1 + 1 < W.heap.size
  bel : Below w.heap.size w W
theorem TkSt.under {w : World} {k : Nat → Int} {a : Nat} {W W' : World} (h : TkSt w k a W) {C : Nat} (hb : Below C W W') (hc : w.heap.size + 1 + 1 < C) : TkSt w k a W' :=
  ⟨fun i hi => (hb.cell (p := ⟨w.heap.size, i, none⟩) (show w.heap.size < C by omega)).trans (h.rk i hi), lies_box h.la hb (by omega), (hb.cell (p := ⟨w.heap.size + 1 + 1, 0, none⟩) hc).trans h.r0,
    (hb.cell (p := ⟨w.heap.size + 1 + 1, 1, none⟩) hc).trans h.r1, fun i hi => (hb.cell (p := ⟨w.heap.size + 1 + 1, i + 2, none⟩) hc).trans (h.r2 i hi), fun i => (hb.frozen (p := ⟨w.heap.size + 1 + 1, i, none⟩) hc).trans (h.rf i),
    Nat.lt_of_lt_of_le h.lt hb.size, h.bel.trans (hb.mono (by omega))⟩
theorem TkSt.below {w : World} {k : Nat → Int} {a : Nat} {W W' : World} (h : TkSt w k a W) (hb : Below W.heap.size W W') : TkSt w k a W' := h.under hb h.lt
theorem tkSt_start (w : World) (k : Nat → Int) (a : Nat) : TkSt w k a (((w.alloc (.cells #[.int .i64 (k 0), .int .i64 (k 1), .int .i64 (k 2), .int .i64 (k 3), .int .i64 (k 4)] 69)).alloc (.cells #[.int .u64 (dgl (a) 0 : Nat), .int .u64 (dgl (a) 1 : Nat), .int .u64 (dgl (a) 2 : Nat), .int .u64 (dgl (a) 3 : Nat), .int .u64 (dgl (a) 4 : Nat), .int .u64 (dgl (a) 5 : Nat), .int .u64 (dgl (a) 6 : Nat), .int .u64 (dgl (a) 7 : Nat)] 28)).alloc (.cells #[.bool false, .int .i64 0, .int .u64 0, .int .u64 0, .int .u64 0, .int .u64 0, .int .u64 0, .int .u64 0, .int .u64 0, .int .u64 0] 71)) := by
  have h1 := below_allocs (w.alloc (.cells #[.int .i64 (k 0), .int .i64 (k 1), .int .i64 (k 2), .int .i64 (k 3), .int .i64 (k 4)] 69)) (.cells #[.int .u64 (dgl (a) 0 : Nat), .int .u64 (dgl (a) 1 : Nat), .int .u64 (dgl (a) 2 : Nat), .int .u64 (dgl (a) 3 : Nat), .int .u64 (dgl (a) 4 : Nat), .int .u64 (dgl (a) 5 : Nat), .int .u64 (dgl (a) 6 : Nat), .int .u64 (dgl (a) 7 : Nat)] 28)
  have h2 := below_allocs ((w.alloc (.cells #[.int .i64 (k 0), .int .i64 (k 1), .int .i64 (k 2), .int .i64 (k 3), .int .i64 (k 4)] 69)).alloc (.cells #[.int .u64 (dgl (a) 0 : Nat), .int .u64 (dgl (a) 1 : Nat), .int .u64 (dgl (a) 2 : Nat), .int .u64 (dgl (a) 3 : Nat), .int .u64 (dgl (a) 4 : Nat), .int .u64 (dgl (a) 5 : Nat), .int .u64 (dgl (a) 6 : Nat), .int .u64 (dgl (a) 7 : Nat)] 28)) (.cells #[.bool false, .int .i64 0, .int .u64 0, .int .u64 0, .int .u64 0, .int .u64 0, .int .u64 0, .int .u64 0, .int .u64 0, .int .u64 0] 71)
  have hl := (liesF_new (w.alloc (.cells #[.int .i64 (k 0), .int .i64 (k 1), .int .i64 (k 2), .int .i64 (k 3), .int .i64 (k 4)] 69)) (dgl a) 28).alloc (.cells #[.bool false, .int .i64 0, .int .u64 0, .int .u64 0, .int .u64 0, .int .u64 0, .int .u64 0, .int .u64 0, .int .u64 0, .int .u64 0] 71)
  have h3 := below_trans h1 h2
  rw [World.size_alloc] at hl h3
  refine ⟨fun i hi => (h3.cell (p := ⟨w.heap.size, i, none⟩) (show w.heap.size < w.heap.size + 1 by omega)).trans (rec5_new w k _ i hi), hl, by simp [go_sem], by simp [go_sem], fun i hi => ?_, fun i => by simp [go_sem], by simp, below_trans (below_allocs _ _) (below_trans (below_allocs _ _) (below_allocs _ _))⟩
  match i, hi with
  | 0, _ | 1, _ | 2, _ | 3, _ | 4, _ | 5, _ | 6, _ | 7, _ => simp [go_sem]

set_option maxHeartbeats 2000000 in
theorem taken_walk (k : Nat → Int) (a u v r m fd : Nat) (ng rs bo : Bool) (hw0 : IntKind.i64.wrap (k 0 - 1) = k 0 - 1) (hw1 : IntKind.i64.wrap (k 1 - 1) = k 1 - 1) (hfd : bits .and .i64 (IntKind.i64.wrap (dgl u 0 : Nat)) ((m : Nat) : Int) = ((fd : Nat) : Int))
    (HSR : Hid (∀ w, Calls Tryd.prog 93 #[.agg #[.int .u64 (dgl (a) 0 : Nat), .int .u64 (dgl (a) 1 : Nat), .int .u64 (dgl (a) 2 : Nat), .int .u64 (dgl (a) 3 : Nat), .int .u64 (dgl (a) 4 : Nat), .int .u64 (dgl (a) 5 : Nat), .int .u64 (dgl (a) 6 : Nat), .int .u64 (dgl (a) 7 : Nat)], .int .i64 (k 1 - 1)] w fun e w' => e = .returned (.tuple #[.agg #[.int .u64 (dgl (u) 0 : Nat), .int .u64 (dgl (u) 1 : Nat), .int .u64 (dgl (u) 2 : Nat), .int .u64 (dgl (u) 3 : Nat), .int .u64 (dgl (u) 4 : Nat), .int .u64 (dgl (u) 5 : Nat), .int .u64 (dgl (u) 6 : Nat), .int .u64 (dgl (u) 7 : Nat)], .bool rs]) ∧ Below w.heap.size w w'))
    (HSL : Hid (∀ w, Calls Tryd.prog 69 #[.agg #[.int .u64 (dgl (u) 0 : Nat), .int .u64 (dgl (u) 1 : Nat), .int .u64 (dgl (u) 2 : Nat), .int .u64 (dgl (u) 3 : Nat), .int .u64 (dgl (u) 4 : Nat), .int .u64 (dgl (u) 5 : Nat), .int .u64 (dgl (u) 6 : Nat), .int .u64 (dgl (u) 7 : Nat)], .int .i64 (k 1 - 1)] w fun e w' => e = .returned (.agg #[.int .u64 (dgl (v) 0 : Nat), .int .u64 (dgl (v) 1 : Nat), .int .u64 (dgl (v) 2 : Nat), .int .u64 (dgl (v) 3 : Nat), .int .u64 (dgl (v) 4 : Nat), .int .u64 (dgl (v) 5 : Nat), .int .u64 (dgl (v) 6 : Nat), .int .u64 (dgl (v) 7 : Nat)]) ∧ Below w.heap.size w w'))
    (HSU : Hid (∀ w, Calls Tryd.prog 85 #[.agg #[.int .u64 (dgl (a) 0 : Nat), .int .u64 (dgl (a) 1 : Nat), .int .u64 (dgl (a) 2 : Nat), .int .u64 (dgl (a) 3 : Nat), .int .u64 (dgl (a) 4 : Nat), .int .u64 (dgl (a) 5 : Nat), .int .u64 (dgl (a) 6 : Nat), .int .u64 (dgl (a) 7 : Nat)], .agg #[.int .u64 (dgl (v) 0 : Nat), .int .u64 (dgl (v) 1 : Nat), .int .u64 (dgl (v) 2 : Nat), .int .u64 (dgl (v) 3 : Nat), .int .u64 (dgl (v) 4 : Nat), .int .u64 (dgl (v) 5 : Nat), .int .u64 (dgl (v) 6 : Nat), .int .u64 (dgl (v) 7 : Nat)]] w fun e w' => e = .returned (.tuple #[.agg #[.int .u64 (dgl (r) 0 : Nat), .int .u64 (dgl (r) 1 : Nat), .int .u64 (dgl (r) 2 : Nat), .int .u64 (dgl (r) 3 : Nat), .int .u64 (dgl (r) 4 : Nat), .int .u64 (dgl (r) 5 : Nat), .int .u64 (dgl (r) 6 : Nat), .int .u64 (dgl (r) 7 : Nat)], .bool bo]) ∧ Below w.heap.size w w'))
    (HBI : Hid (∀ w, Calls Tryd.prog 53 #[.agg #[.int .u64 (dgl (a) 0 : Nat), .int .u64 (dgl (a) 1 : Nat), .int .u64 (dgl (a) 2 : Nat), .int .u64 (dgl (a) 3 : Nat), .int .u64 (dgl (a) 4 : Nat), .int .u64 (dgl (a) 5 : Nat), .int .u64 (dgl (a) 6 : Nat), .int .u64 (dgl (a) 7 : Nat)], .int .i64 (k 0 - 1)] w fun e w' => e = .returned (.bool ng) ∧ Below w.heap.size w w'))
    (HON : Hid (∀ w, Calls Tryd.prog 52 #[.agg #[.int .i64 (k 0), .int .i64 (k 1), .int .i64 (k 2), .int .i64 (k 3), .int .i64 (k 4)]] w fun e w' => e = .returned (.int .i64 ((m : Nat) : Int)) ∧ Below w.heap.size w w')) (w : World) :
    Calls Tryd.prog 95 #[.agg #[.int .i64 (k 0), .int .i64 (k 1), .int .i64 (k 2), .int .i64 (k 3), .int .i64 (k 4)], .agg #[.int .u64 (dgl (a) 0 : Nat), .int .u64 (dgl (a) 1 : Nat), .int .u64 (dgl (a) 2 : Nat), .int .u64 (dgl (a) 3 : Nat), .int .u64 (dgl (a) 4 : Nat), .int .u64 (dgl (a) 5 : Nat), .int .u64 (dgl (a) 6 : Nat), .int .u64 (dgl (a) 7 : Nat)]] w fun e w' => e = .returned (.agg #[.bool ng, .int .i64 ((fd : Nat)), .int .u64 (dgl r 0 : Nat), .int .u64 (dgl r 1 : Nat), .int .u64 (dgl r 2 : Nat), .int .u64 (dgl r 3 : Nat), .int .u64 (dgl r 4 : Nat), .int .u64 (dgl r 5 : Nat), .int .u64 (dgl r 6 : Nat), .int .u64 (dgl r 7 : Nat)]) ∧ Below w.heap.size w w' := by
  have HST := hide (tkSt_start w k a)
  go_enter Tryd.func95, Tryd.ntmps95
  go_wp2_with fail
  refine (HSR.out _).mono ?_
  rintro e w1 ⟨rfl, hb1⟩
  replace HST := hide (HST.out.below hb1)
  clear hb1
  go_upto_region 2 with fail
  refine wp_gen (fun W => TkSt w k a W ∧ LiesF W w1.heap.size (dgl u)) ⟨HST.out.below (below_allocs _ _), liesF_new _ _ _⟩ ?_
  rintro W1 h1
  have HN := hide HST.out.lt
  clear HST
  generalize w1.heap.size = p5 at *
  refine wp_region_storeK 12 [11] [18, 19, 20, 21, 22, 23, 24, 17, 25, 26, 7] (fun bs => [(18, .val (.agg #[.int .u64 (dgl (a) 0 : Nat), .int .u64 (dgl (a) 1 : Nat), .int .u64 (dgl (a) 2 : Nat), .int .u64 (dgl (a) 3 : Nat), .int .u64 (dgl (a) 4 : Nat), .int .u64 (dgl (a) 5 : Nat), .int .u64 (dgl (a) 6 : Nat), .int .u64 (dgl (a) 7 : Nat)])), (19, .val (.agg #[.int .u64 (dgl (u) 0 : Nat), .int .u64 (dgl (u) 1 : Nat), .int .u64 (dgl (u) 2 : Nat), .int .u64 (dgl (u) 3 : Nat), .int .u64 (dgl (u) 4 : Nat), .int .u64 (dgl (u) 5 : Nat), .int .u64 (dgl (u) 6 : Nat), .int .u64 (dgl (u) 7 : Nat)])), (20, .val (.pointer (some ⟨w.heap.size, 1, none⟩))), (21, .val (.int .i64 (k 1))), (22, .val (.int .i64 (k 1 - 1))), (23, .val (.agg #[.int .u64 (dgl (v) 0 : Nat), .int .u64 (dgl (v) 1 : Nat), .int .u64 (dgl (v) 2 : Nat), .int .u64 (dgl (v) 3 : Nat), .int .u64 (dgl (v) 4 : Nat), .int .u64 (dgl (v) 5 : Nat), .int .u64 (dgl (v) 6 : Nat), .int .u64 (dgl (v) 7 : Nat)])), (24, .val (.tuple #[.agg #[.int .u64 (dgl (r) 0 : Nat), .int .u64 (dgl (r) 1 : Nat), .int .u64 (dgl (r) 2 : Nat), .int .u64 (dgl (r) 3 : Nat), .int .u64 (dgl (r) 4 : Nat), .int .u64 (dgl (r) 5 : Nat), .int .u64 (dgl (r) 6 : Nat), .int .u64 (dgl (r) 7 : Nat)], .bool bo])), (17, .val (.tuple #[.agg #[.int .u64 (dgl (r) 0 : Nat), .int .u64 (dgl (r) 1 : Nat), .int .u64 (dgl (r) 2 : Nat), .int .u64 (dgl (r) 3 : Nat), .int .u64 (dgl (r) 4 : Nat), .int .u64 (dgl (r) 5 : Nat), .int .u64 (dgl (r) 6 : Nat), .int .u64 (dgl (r) 7 : Nat)], .bool bo])), (25, .val (.agg #[.int .u64 (dgl (r) 0 : Nat), .int .u64 (dgl (r) 1 : Nat), .int .u64 (dgl (r) 2 : Nat), .int .u64 (dgl (r) 3 : Nat), .int .u64 (dgl (r) 4 : Nat), .int .u64 (dgl (r) 5 : Nat), .int .u64 (dgl (r) 6 : Nat), .int .u64 (dgl (r) 7 : Nat)])), (26, .val (.bool bo)), (7, bif bs.headD false then SlotIs.box (p5 + 1) (dgl r) else SlotIs.box (p5 + 1) (fun _ => 0))])
    (fun _ W => TkSt w k a W ∧ LiesF W p5 (dgl u)) (fun bs => rfl) mixedOk (by kernel_rfl) (by kernel_rfl) (by kernel_rfl) (⟨h1.1.below (Below.refl _ _).drew, h1.2.below (Below.refl _ _).drew⟩) (fun bs W W' h hb => ⟨h.1.below hb, h.2.below hb⟩) ?_ ?_
  · refine kSt rfl (fun φ hφ => gStep_run rfl ?_) ?_
    · intro ρ W hC hc hf hL
      have e3 : ρ (.tmp 3) = .pointer (some ⟨w.heap.size + 1, 0, none⟩) := hL 3 (by decide +kernel)
      have hl := hC.1.la.1
      simp [go_sem, hc, hf, e3, hl]
      exact ⟨Below.refl _ _, rfl⟩
    refine kSt rfl (fun φ hφ => gStep_run rfl ?_) ?_
    · intro ρ W hC hc hf hL
      have e5 : ρ (.tmp 5) = .pointer (some ⟨p5, 0, none⟩) := hL 5 (by decide +kernel)
      have hl := hC.2.1
      simp [go_sem, hc, hf, e5, hl]
      exact ⟨Below.refl _ _, rfl⟩
    refine kSt rfl (fun φ hφ => gStep_run rfl ?_) ?_
    · intro ρ W hC hc hf hL
      have e2 : ρ (.tmp 2) = .pointer (some ⟨w.heap.size, 0, none⟩) := hL 2 (by decide +kernel)
      simp [go_sem, hc, hf, e2]
      exact ⟨Below.refl _ _, rfl⟩
    refine kSt rfl (fun φ hφ => gStep_run rfl ?_) ?_
    · intro ρ W hC hc hf hL
      have e20 : ρ (.tmp 20) = .pointer (some ⟨w.heap.size, 1, none⟩) := hL 20 (by decide +kernel)
      have hl := hC.1.rk 1 (by decide)
      simp [go_sem, hc, hf, e20, hl]
      exact ⟨Below.refl _ _, rfl⟩
    refine kSt rfl (fun φ hφ => gStep_run rfl ?_) ?_
    · intro ρ W hC hc hf hL
      have e21 : ρ (.tmp 21) = .int .i64 (k 1) := hL 21 (by decide +kernel)
      simp [go_sem, hc, hf, e21, hw1]
      exact ⟨Below.refl _ _, rfl⟩
    refine kSt rfl (fun φ hφ => gStep_run rfl ?_) ?_
    · intro ρ W hC hc hf hL
      have e19 : ρ (.tmp 19) = .agg #[.int .u64 (dgl (u) 0 : Nat), .int .u64 (dgl (u) 1 : Nat), .int .u64 (dgl (u) 2 : Nat), .int .u64 (dgl (u) 3 : Nat), .int .u64 (dgl (u) 4 : Nat), .int .u64 (dgl (u) 5 : Nat), .int .u64 (dgl (u) 6 : Nat), .int .u64 (dgl (u) 7 : Nat)] := hL 19 (by decide +kernel)
      have e22 : ρ (.tmp 22) = .int .i64 (k 1 - 1) := hL 22 (by decide +kernel)
      simp [go_sem, hc, hf, e19, e22]
      refine (HSL.out W).mono ?_
      rintro e w' ⟨rfl, hb⟩
      exact ⟨_, rfl, by first | exact hb | (subst hb; exact Below.refl _ _), rfl⟩
    refine kSt rfl (fun φ hφ => gStep_run rfl ?_) ?_
    · intro ρ W hC hc hf hL
      have e18 : ρ (.tmp 18) = .agg #[.int .u64 (dgl (a) 0 : Nat), .int .u64 (dgl (a) 1 : Nat), .int .u64 (dgl (a) 2 : Nat), .int .u64 (dgl (a) 3 : Nat), .int .u64 (dgl (a) 4 : Nat), .int .u64 (dgl (a) 5 : Nat), .int .u64 (dgl (a) 6 : Nat), .int .u64 (dgl (a) 7 : Nat)] := hL 18 (by decide +kernel)
      have e23 : ρ (.tmp 23) = .agg #[.int .u64 (dgl (v) 0 : Nat), .int .u64 (dgl (v) 1 : Nat), .int .u64 (dgl (v) 2 : Nat), .int .u64 (dgl (v) 3 : Nat), .int .u64 (dgl (v) 4 : Nat), .int .u64 (dgl (v) 5 : Nat), .int .u64 (dgl (v) 6 : Nat), .int .u64 (dgl (v) 7 : Nat)] := hL 23 (by decide +kernel)
      simp [go_sem, hc, hf, e18, e23]
      refine (HSU.out W).mono ?_
      rintro e w' ⟨rfl, hb⟩
      exact ⟨_, rfl, by first | exact hb | (subst hb; exact Below.refl _ _), rfl⟩
    refine kSt rfl (fun φ hφ => gStep_run rfl (gRun_move 24 17 (.inl rfl) rfl (by decide +kernel) (fun v w h => h))) ?_
    refine kSt rfl (fun φ hφ => gStep_run rfl ?_) ?_
    · intro ρ W hC hc hf hL
      have e17 : ρ (.tmp 17) = .tuple #[.agg #[.int .u64 (dgl (r) 0 : Nat), .int .u64 (dgl (r) 1 : Nat), .int .u64 (dgl (r) 2 : Nat), .int .u64 (dgl (r) 3 : Nat), .int .u64 (dgl (r) 4 : Nat), .int .u64 (dgl (r) 5 : Nat), .int .u64 (dgl (r) 6 : Nat), .int .u64 (dgl (r) 7 : Nat)], .bool bo] := hL 17 (by decide +kernel)
      simp [go_sem, hc, hf, e17]
      exact ⟨Below.refl _ _, rfl⟩
    refine kSt rfl (fun φ hφ => gStep_run rfl ?_) ?_
    · intro ρ W hC hc hf hL
      have e17 : ρ (.tmp 17) = .tuple #[.agg #[.int .u64 (dgl (r) 0 : Nat), .int .u64 (dgl (r) 1 : Nat), .int .u64 (dgl (r) 2 : Nat), .int .u64 (dgl (r) 3 : Nat), .int .u64 (dgl (r) 4 : Nat), .int .u64 (dgl (r) 5 : Nat), .int .u64 (dgl (r) 6 : Nat), .int .u64 (dgl (r) 7 : Nat)], .bool bo] := hL 17 (by decide +kernel)
      simp [go_sem, hc, hf, e17]
      exact ⟨Below.refl _ _, rfl⟩
    refine kSt rfl (fun φ hφ => gStep_run rfl ?_) ?_
    · intro ρ W hC hc hf hL
      have hφ0 : φ 11 = false := hφ 11 (by simp) (by kernel_rfl)
      simp [go_sem, hc, hf]
      refine ⟨below_allocs _ _, ?_⟩
      show (bif φ 11 then SlotIs.box (p5 + 1) (dgl r) else SlotIs.box (p5 + 1) (fun _ => 0)).R _ _
      rw [hφ0]
      exact ⟨_, rfl, hC.2.2, liesF_new _ (fun _ => 0) _, fun i => by simp [go_sem]⟩
    refine kStS rfl ⟨rfl, rfl, ?_⟩ ?_
    · intro φ ρ W hφ hC hc hL
      have b7 := hL 7 (by decide +kernel)
      have e25 : ρ (.tmp 25) = .agg #[.int .u64 (dgl (r) 0 : Nat), .int .u64 (dgl (r) 1 : Nat), .int .u64 (dgl (r) 2 : Nat), .int .u64 (dgl (r) 3 : Nat), .int .u64 (dgl (r) 4 : Nat), .int .u64 (dgl (r) 5 : Nat), .int .u64 (dgl (r) 6 : Nat), .int .u64 (dgl (r) 7 : Nat)] := hL 25 (by decide +kernel)
      have b7 : (bif φ 11 then SlotIs.box (p5 + 1) (dgl r) else SlotIs.box (p5 + 1) (fun _ => 0)).R (ρ (.tmp 7)) W := hL 7 (by decide +kernel)
      rw [hφ] at b7
      obtain ⟨p7, e7, q7, l7, z7⟩ := b7
      have hz := l7.1
      have hzl := l7.2
      refine gUpon_of ((((((((W.setCell ⟨p7, 0, none⟩ (.int .u64 (dgl r 0 : Nat))).setCell ⟨p7, 1, none⟩ (.int .u64 (dgl r 1 : Nat))).setCell ⟨p7, 2, none⟩ (.int .u64 (dgl r 2 : Nat))).setCell ⟨p7, 3, none⟩ (.int .u64 (dgl r 3 : Nat))).setCell ⟨p7, 4, none⟩ (.int .u64 (dgl r 4 : Nat))).setCell ⟨p7, 5, none⟩ (.int .u64 (dgl r 5 : Nat))).setCell ⟨p7, 6, none⟩ (.int .u64 (dgl r 6 : Nat))).setCell ⟨p7, 7, none⟩ (.int .u64 (dgl r 7 : Nat))) ?_ (fun _ => ?_)
      · simp [go_sem, hc, e25, e7, hz, hzl, z7, gUpon]
      have hs8 := below_set8 (Below.refl (p5 + 1) W) p7 q7 (.int .u64 (dgl r 0 : Nat)) (.int .u64 (dgl r 1 : Nat)) (.int .u64 (dgl r 2 : Nat)) (.int .u64 (dgl r 3 : Nat)) (.int .u64 (dgl r 4 : Nat)) (.int .u64 (dgl r 5 : Nat)) (.int .u64 (dgl r 6 : Nat)) (.int .u64 (dgl r 7 : Nat))
      have hN := HN.out
      refine ⟨⟨hC.1.under hs8 (by omega), lies_box hC.2 hs8 (by omega)⟩, fun t => ?_⟩
      refine (tbl_imp rfl (fun _ => val_imp) (tbl_imp rfl (fun _ => val_imp) (tbl_imp rfl (fun _ => val_imp) (tbl_imp rfl (fun _ => val_imp) (tbl_imp rfl (fun _ => val_imp) (tbl_imp rfl (fun _ => val_imp) (tbl_imp rfl (fun _ => val_imp) (tbl_imp rfl (fun _ => val_imp) (tbl_imp rfl (fun _ => val_imp) (tbl_imp rfl (fun _ => val_imp) (tbl_imp rfl (fun ht h => ?_) tbl_nil_imp)))))))))))
      subst ht
      show (bif (φ 11 || true) then SlotIs.box (p5 + 1) (dgl r) else SlotIs.box (p5 + 1) (fun _ => 0)).R _ _
      rw [Bool.or_true]
      exact ⟨p7, e7, q7, set8_same W p7 (dgl r) (fun _ => 0) l7, fun i => by simpa [go_sem] using z7 i⟩
    exact kSt0
  · intro W hC
    refine gFi 18 rfl ?_
    rintro _ rfl
    refine gFi 19 rfl ?_
    rintro _ rfl
    refine gFi 20 rfl ?_
    rintro _ rfl
    refine gFi 21 rfl ?_
    rintro _ rfl
    refine gFi 22 rfl ?_
    rintro _ rfl
    refine gFi 23 rfl ?_
    rintro _ rfl
    refine gFi 24 rfl ?_
    rintro _ rfl
    refine gFi 17 rfl ?_
    rintro _ rfl
    refine gFi 25 rfl ?_
    rintro _ rfl
    refine gFi 26 rfl ?_
    rintro _ rfl
    refine gFi 7 rfl ?_
    rintro _ ⟨p7, rfl, q7, l7, z7⟩
    refine gFiN rfl ?_
    refine gFi0 ?_
    simp only [List.drop_succ_cons, List.drop_zero, Act.put, List.setIfInBounds_toArray, List.set_cons_succ, List.set_cons_zero]
    have HC := hide hC
    have HL := hide l7
    clear hC h1 l7
    go_upto_region 3 with fail
    refine wp_gen (fun W => TkSt w k a W ∧ LiesF W p5 (dgl u) ∧ LiesF W p7 (dgl r)) ⟨HC.out.1, HC.out.2, HL.out⟩ ?_
    clear HC HL z7
    rintro W2 h2
    refine wp_region_grow 13 [(27, .val (.agg #[.int .u64 (dgl (a) 0 : Nat), .int .u64 (dgl (a) 1 : Nat), .int .u64 (dgl (a) 2 : Nat), .int .u64 (dgl (a) 3 : Nat), .int .u64 (dgl (a) 4 : Nat), .int .u64 (dgl (a) 5 : Nat), .int .u64 (dgl (a) 6 : Nat), .int .u64 (dgl (a) 7 : Nat)])), (28, .val (.pointer (some ⟨w.heap.size, 0, none⟩))), (29, .val (.int .i64 (k 0))), (30, .val (.int .i64 (k 0 - 1))), (31, .val (.bool ng)), (32, .val (.pointer (some ⟨p5, 0, none⟩))), (33, .val (.int .u64 (dgl u 0 : Nat))), (34, .val (.int .i64 (IntKind.i64.wrap (dgl u 0 : Nat)))), (35, .val (.agg #[.int .i64 (k 0), .int .i64 (k 1), .int .i64 (k 2), .int .i64 (k 3), .int .i64 (k 4)])), (36, .val (.int .i64 ((m : Nat) : Int))), (37, .val (.int .i64 ((fd : Nat) : Int))), (38, .val (.agg #[.int .u64 (dgl (r) 0 : Nat), .int .u64 (dgl (r) 1 : Nat), .int .u64 (dgl (r) 2 : Nat), .int .u64 (dgl (r) 3 : Nat), .int .u64 (dgl (r) 4 : Nat), .int .u64 (dgl (r) 5 : Nat), .int .u64 (dgl (r) 6 : Nat), .int .u64 (dgl (r) 7 : Nat)])), (39, .val (.agg #[.bool ng, .int .i64 ((fd : Nat)), .int .u64 (dgl r 0 : Nat), .int .u64 (dgl r 1 : Nat), .int .u64 (dgl r 2 : Nat), .int .u64 (dgl r 3 : Nat), .int .u64 (dgl r 4 : Nat), .int .u64 (dgl r 5 : Nat), .int .u64 (dgl r 6 : Nat), .int .u64 (dgl r 7 : Nat)]))]
      (fun W => TkSt w k a W ∧ LiesF W p5 (dgl u) ∧ LiesF W p7 (dgl r)) mixedOk (by kernel_rfl) (by kernel_rfl) (⟨h2.1.below (Below.refl _ _).drew, h2.2.1.below (Below.refl _ _).drew, h2.2.2.below (Below.refl _ _).drew⟩) (fun W W' h hb => ⟨h.1.below hb, h.2.1.below hb, h.2.2.below hb⟩) ?_ ?_
    · refine gSt (gStep_run rfl ?_) ?_
      · intro ρ W hC hc hf hL
        have e3 : ρ (.tmp 3) = .pointer (some ⟨w.heap.size + 1, 0, none⟩) := hL 3 (by decide +kernel)
        have hl := hC.1.la.1
        simp [go_sem, hc, hf, e3, hl]
        exact ⟨Below.refl _ _, rfl⟩
      refine gSt (gStep_run rfl ?_) ?_
      · intro ρ W hC hc hf hL
        have e2 : ρ (.tmp 2) = .pointer (some ⟨w.heap.size, 0, none⟩) := hL 2 (by decide +kernel)
        simp [go_sem, hc, hf, e2]
        exact ⟨Below.refl _ _, rfl⟩
      refine gSt (gStep_run rfl ?_) ?_
      · intro ρ W hC hc hf hL
        have e28 : ρ (.tmp 28) = .pointer (some ⟨w.heap.size, 0, none⟩) := hL 28 (by decide +kernel)
        have hl := hC.1.rk 0 (by decide)
        simp [go_sem, hc, hf, e28, hl]
        exact ⟨Below.refl _ _, rfl⟩
      refine gSt (gStep_run rfl ?_) ?_
      · intro ρ W hC hc hf hL
        have e29 : ρ (.tmp 29) = .int .i64 (k 0) := hL 29 (by decide +kernel)
        simp [go_sem, hc, hf, e29, hw0]
        exact ⟨Below.refl _ _, rfl⟩
      refine gSt (gStep_run rfl ?_) ?_
      · intro ρ W hC hc hf hL
        have e27 : ρ (.tmp 27) = .agg #[.int .u64 (dgl (a) 0 : Nat), .int .u64 (dgl (a) 1 : Nat), .int .u64 (dgl (a) 2 : Nat), .int .u64 (dgl (a) 3 : Nat), .int .u64 (dgl (a) 4 : Nat), .int .u64 (dgl (a) 5 : Nat), .int .u64 (dgl (a) 6 : Nat), .int .u64 (dgl (a) 7 : Nat)] := hL 27 (by decide +kernel)
        have e30 : ρ (.tmp 30) = .int .i64 (k 0 - 1) := hL 30 (by decide +kernel)
        simp [go_sem, hc, hf, e27, e30]
        refine (HBI.out W).mono ?_
        rintro e w' ⟨rfl, hb⟩
        exact ⟨_, rfl, by first | exact hb | (subst hb; exact Below.refl _ _), rfl⟩
      refine gSt (gStep_run rfl ?_) ?_
      · intro ρ W hC hc hf hL
        have e5 : ρ (.tmp 5) = .pointer (some ⟨p5, 0, none⟩) := hL 5 (by decide +kernel)
        simp [go_sem, hc, hf, e5]
        exact ⟨Below.refl _ _, rfl⟩
      refine gSt (gStep_run rfl ?_) ?_
      · intro ρ W hC hc hf hL
        have e32 : ρ (.tmp 32) = .pointer (some ⟨p5, 0, none⟩) := hL 32 (by decide +kernel)
        have hl := hC.2.1.1 0 (by decide)
        simp [go_sem, hc, hf, e32, hl]
        exact ⟨Below.refl _ _, rfl⟩
      refine gSt (gStep_run rfl ?_) ?_
      · intro ρ W hC hc hf hL
        have e33 : ρ (.tmp 33) = .int .u64 (dgl u 0 : Nat) := hL 33 (by decide +kernel)
        simp [go_sem, hc, hf, e33]
        exact ⟨Below.refl _ _, rfl⟩
      refine gSt (gStep_run rfl ?_) ?_
      · intro ρ W hC hc hf hL
        have e2 : ρ (.tmp 2) = .pointer (some ⟨w.heap.size, 0, none⟩) := hL 2 (by decide +kernel)
        have g0 := hC.1.rk 0 (by decide)
        have g1 := hC.1.rk 1 (by decide)
        have g2 := hC.1.rk 2 (by decide)
        have g3 := hC.1.rk 3 (by decide)
        have g4 := hC.1.rk 4 (by decide)
        simp [go_sem, hc, hf, e2, g0, g1, g2, g3, g4]
        exact ⟨Below.refl _ _, rfl⟩
      refine gSt (gStep_run rfl ?_) ?_
      · intro ρ W hC hc hf hL
        have e35 : ρ (.tmp 35) = .agg #[.int .i64 (k 0), .int .i64 (k 1), .int .i64 (k 2), .int .i64 (k 3), .int .i64 (k 4)] := hL 35 (by decide +kernel)
        simp [go_sem, hc, hf, e35]
        refine (HON.out W).mono ?_
        rintro e w' ⟨rfl, hb⟩
        exact ⟨_, rfl, by first | exact hb | (subst hb; exact Below.refl _ _), rfl⟩
      refine gSt (gStep_run rfl ?_) ?_
      · intro ρ W hC hc hf hL
        have e34 : ρ (.tmp 34) = .int .i64 (IntKind.i64.wrap (dgl u 0 : Nat)) := hL 34 (by decide +kernel)
        have e36 : ρ (.tmp 36) = .int .i64 ((m : Nat) : Int) := hL 36 (by decide +kernel)
        simp [go_sem, hc, hf, e34, e36, hfd]
        exact ⟨Below.refl _ _, rfl⟩
      refine gSt (gStep_run rfl ?_) ?_
      · intro ρ W hC hc hf hL
        have e7 : ρ (.tmp 7) = .pointer (some ⟨p7, 0, none⟩) := hL 7 (by decide +kernel)
        have hl := hC.2.2.1
        simp [go_sem, hc, hf, e7, hl]
        exact ⟨Below.refl _ _, rfl⟩
      refine gSt (gStep_run rfl ?_) ?_
      · intro ρ W hC hc hf hL
        have e31 : ρ (.tmp 31) = .bool ng := hL 31 (by decide +kernel)
        have e37 : ρ (.tmp 37) = .int .i64 ((fd : Nat) : Int) := hL 37 (by decide +kernel)
        have e38 : ρ (.tmp 38) = .agg #[.int .u64 (dgl (r) 0 : Nat), .int .u64 (dgl (r) 1 : Nat), .int .u64 (dgl (r) 2 : Nat), .int .u64 (dgl (r) 3 : Nat), .int .u64 (dgl (r) 4 : Nat), .int .u64 (dgl (r) 5 : Nat), .int .u64 (dgl (r) 6 : Nat), .int .u64 (dgl (r) 7 : Nat)] := hL 38 (by decide +kernel)
        simp [go_sem, hc, hf, e31, e37, e38]
        exact ⟨Below.refl _ _, rfl⟩
      exact gSt0
    · intro W hC
      refine gFi 27 rfl ?_
      rintro _ rfl
      refine gFi 28 rfl ?_
      rintro _ rfl
      refine gFi 29 rfl ?_
      rintro _ rfl
      refine gFi 30 rfl ?_
      rintro _ rfl
      refine gFi 31 rfl ?_
      rintro _ rfl
      refine gFi 32 rfl ?_
      rintro _ rfl
      refine gFi 33 rfl ?_
      rintro _ rfl
      refine gFi 34 rfl ?_
      rintro _ rfl
      refine gFi 35 rfl ?_
      rintro _ rfl
      refine gFi 36 rfl ?_
      rintro _ rfl
      refine gFi 37 rfl ?_
      rintro _ rfl
      refine gFi 38 rfl ?_
      rintro _ rfl
      refine gFi 39 rfl ?_
      rintro _ rfl
      refine gFi0 ?_
      simp only [List.drop_succ_cons, List.drop_zero, Act.put, List.setIfInBounds_toArray, List.set_cons_succ, List.set_cons_zero]
      have r0 := hC.1.r0
      have r1 := hC.1.r1
      have q0 := hC.1.r2 0 (by decide)
      have q1 := hC.1.r2 1 (by decide)
      have q2 := hC.1.r2 2 (by decide)
      have q3 := hC.1.r2 3 (by decide)
      have q4 := hC.1.r2 4 (by decide)
      have q5 := hC.1.r2 5 (by decide)
      have q6 := hC.1.r2 6 (by decide)
      have q7 := hC.1.r2 7 (by decide)
      simp only [Nat.reduceAdd] at q0 q1 q2 q3 q4 q5 q6 q7
      have hrf := hC.1.rf
      have hlt := hC.1.lt
      have HB := hide hC.1.bel
      clear hC h2
      go_wp2
      exact bodyPost_ret (v := .agg #[.bool ng, .int .i64 ((fd : Nat)), .int .u64 (dgl r 0 : Nat), .int .u64 (dgl r 1 : Nat), .int .u64 (dgl r 2 : Nat), .int .u64 (dgl r 3 : Nat), .int .u64 (dgl r 4 : Nat), .int .u64 (dgl r 5 : Nat), .int .u64 (dgl r 6 : Nat), .int .u64 (dgl r 7 : Nat)]) (by simp [results, Tryd.results95, go_sem, r0, r1, q0, q1, q2, q3, q4, q5, q6, q7, hlt]) rfl ⟨rfl, ((((((((((HB.out.setCell (p := ⟨w.heap.size + 1 + 1, 0, none⟩) (by simp; omega) _).setCell (p := ⟨w.heap.size + 1 + 1, 1, none⟩) (by simp; omega) _).setCell (p := ⟨w.heap.size + 1 + 1, 2, none⟩) (by simp; omega) _).setCell (p := ⟨w.heap.size + 1 + 1, 3, none⟩) (by simp; omega) _).setCell (p := ⟨w.heap.size + 1 + 1, 4, none⟩) (by simp; omega) _).setCell (p := ⟨w.heap.size + 1 + 1, 5, none⟩) (by simp; omega) _).setCell (p := ⟨w.heap.size + 1 + 1, 6, none⟩) (by simp; omega) _).setCell (p := ⟨w.heap.size + 1 + 1, 7, none⟩) (by simp; omega) _).setCell (p := ⟨w.heap.size + 1 + 1, 8, none⟩) (by simp; omega) _).setCell (p := ⟨w.heap.size + 1 + 1, 9, none⟩) (by simp; omega) _)⟩

end Go.Proofs.YtidfegilddlglaaDoor

