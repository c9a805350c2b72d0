/- Contracts and laws: RdxG. -/
import Derived.Test.YtmbbhagjfgjhgaaPartAO
/- Contracts: radix2.Fraction. -/
set_option linter.unusedVariables false
set_option linter.unusedSimpArgs false
set_option maxRecDepth 8000
namespace Go.Proofs.Ytmbbhagjfgjhgaa
open Go.RowKit Plain

theorem box_other {B p : Nat} {f g : Nat → Nat} {v : Value} {W : World} (h : (SlotIs.box B f).R v W) (hne : v ≠ .pointer (some ⟨p, 0, none⟩)) : (SlotIs.box B f).R v ((((((((W.setCell ⟨p, 0, none⟩ (.int .u64 (g 0 : Nat))).setCell ⟨p, 1, none⟩ (.int .u64 (g 1 : Nat))).setCell ⟨p, 2, none⟩ (.int .u64 (g 2 : Nat))).setCell ⟨p, 3, none⟩ (.int .u64 (g 3 : Nat))).setCell ⟨p, 4, none⟩ (.int .u64 (g 4 : Nat))).setCell ⟨p, 5, none⟩ (.int .u64 (g 5 : Nat))).setCell ⟨p, 6, none⟩ (.int .u64 (g 6 : Nat))).setCell ⟨p, 7, none⟩ (.int .u64 (g 7 : Nat))) := by
  obtain ⟨b, rfl, h2, h3, h4⟩ := h
  have hb : b ≠ p := fun he => hne (by rw [he])
  exact ⟨b, rfl, h2, lies_ne h3 hb, fun i => by simpa [go_sem] using h4 i⟩
/-- What Fraction goes by: its arguments, its first result. -/
structure FrSt (n d x : Nat) (w W : World) : Prop where
  la : LiesF W w.heap.size (dgl n)
  lb : LiesF W (w.heap.size + 1) (dgl d)
  lr : LiesF W (w.heap.size + 2) (dgl x)
  fr : ∀ i, W.frozen? ⟨w.heap.size + 2, i, none⟩ = false
  bel : Below w.heap.size w W
theorem FrSt.under {n d x : Nat} {w W W' : World} (h : FrSt n d x w W) {C : Nat} (hb : Below C W W') (hc : w.heap.size + 2 < C) : FrSt n d x w W' :=
  ⟨lies_box h.la hb (by omega), lies_box h.lb hb (by omega), lies_box h.lr hb hc, fun i => (hb.frozen (p := ⟨w.heap.size + 2, i, none⟩) hc).trans (h.fr i), h.bel.trans (hb.mono (by omega))⟩
theorem FrSt.below {n d x : Nat} {w W W' : World} (h : FrSt n d x w W) (hb : Below W.heap.size W W') : FrSt n d x w W' := h.under hb h.lr.2
theorem FrSt.set8 {n d x : Nat} {w W : World} (h : FrSt n d x w W) (z : Nat) : FrSt n d z w ((((((((W.setCell ⟨w.heap.size + 2, 0, none⟩ (.int .u64 (dgl z 0 : Nat))).setCell ⟨w.heap.size + 2, 1, none⟩ (.int .u64 (dgl z 1 : Nat))).setCell ⟨w.heap.size + 2, 2, none⟩ (.int .u64 (dgl z 2 : Nat))).setCell ⟨w.heap.size + 2, 3, none⟩ (.int .u64 (dgl z 3 : Nat))).setCell ⟨w.heap.size + 2, 4, none⟩ (.int .u64 (dgl z 4 : Nat))).setCell ⟨w.heap.size + 2, 5, none⟩ (.int .u64 (dgl z 5 : Nat))).setCell ⟨w.heap.size + 2, 6, none⟩ (.int .u64 (dgl z 6 : Nat))).setCell ⟨w.heap.size + 2, 7, none⟩ (.int .u64 (dgl z 7 : Nat))) :=
  ⟨lies_ne h.la (by omega), lies_ne h.lb (by omega), set8_same W _ (dgl z) (dgl x) h.lr, fun i => by simpa [go_sem] using h.fr i, below_set8 h.bel _ (by omega) _ _ _ _ _ _ _ _⟩
theorem frSt_start (n d : Nat) (w : World) (e1 e2 e3 : TypeId) : FrSt n d 0 w (((w.alloc (.cells #[.int .u64 (dgl (n) 0 : Nat), .int .u64 (dgl (n) 1 : Nat), .int .u64 (dgl (n) 2 : Nat), .int .u64 (dgl (n) 3 : Nat), .int .u64 (dgl (n) 4 : Nat), .int .u64 (dgl (n) 5 : Nat), .int .u64 (dgl (n) 6 : Nat), .int .u64 (dgl (n) 7 : Nat)] e1)).alloc (.cells #[.int .u64 (dgl (d) 0 : Nat), .int .u64 (dgl (d) 1 : Nat), .int .u64 (dgl (d) 2 : Nat), .int .u64 (dgl (d) 3 : Nat), .int .u64 (dgl (d) 4 : Nat), .int .u64 (dgl (d) 5 : Nat), .int .u64 (dgl (d) 6 : Nat), .int .u64 (dgl (d) 7 : Nat)] e2)).alloc (.cells #[.int .u64 0, .int .u64 0, .int .u64 0, .int .u64 0, .int .u64 0, .int .u64 0, .int .u64 0, .int .u64 0] e3)) := by
  have h := twSt_start n d w e1 e2
  have h3 := liesF_new ((w.alloc (.cells #[.int .u64 (dgl (n) 0 : Nat), .int .u64 (dgl (n) 1 : Nat), .int .u64 (dgl (n) 2 : Nat), .int .u64 (dgl (n) 3 : Nat), .int .u64 (dgl (n) 4 : Nat), .int .u64 (dgl (n) 5 : Nat), .int .u64 (dgl (n) 6 : Nat), .int .u64 (dgl (n) 7 : Nat)] e1)).alloc (.cells #[.int .u64 (dgl (d) 0 : Nat), .int .u64 (dgl (d) 1 : Nat), .int .u64 (dgl (d) 2 : Nat), .int .u64 (dgl (d) 3 : Nat), .int .u64 (dgl (d) 4 : Nat), .int .u64 (dgl (d) 5 : Nat), .int .u64 (dgl (d) 6 : Nat), .int .u64 (dgl (d) 7 : Nat)] e2)) (fun _ => 0) e3
  rw [World.size_alloc, World.size_alloc] at h3
  have h4 := h.below (below_allocs _ (.cells #[.int .u64 0, .int .u64 0, .int .u64 0, .int .u64 0, .int .u64 0, .int .u64 0, .int .u64 0, .int .u64 0] e3))
  exact ⟨h4.la, h4.lb, by rw [dgl_z]; exact h3, fun i => by simp [go_sem], h4.bel⟩

set_option maxHeartbeats 2000000 in
theorem fraction_O (n d : Nat) (by_ : Int) (h : by_ < 0 ∨ 100 < by_) (w : World) :
    Calls Try.prog 28 #[.agg #[.int .u64 (dgl (n) 0 : Nat), .int .u64 (dgl (n) 1 : Nat), .int .u64 (dgl (n) 2 : Nat), .int .u64 (dgl (n) 3 : Nat), .int .u64 (dgl (n) 4 : Nat), .int .u64 (dgl (n) 5 : Nat), .int .u64 (dgl (n) 6 : Nat), .int .u64 (dgl (n) 7 : Nat)], .agg #[.int .u64 (dgl (d) 0 : Nat), .int .u64 (dgl (d) 1 : Nat), .int .u64 (dgl (d) 2 : Nat), .int .u64 (dgl (d) 3 : Nat), .int .u64 (dgl (d) 4 : Nat), .int .u64 (dgl (d) 5 : Nat), .int .u64 (dgl (d) 6 : Nat), .int .u64 (dgl (d) 7 : Nat)], .int .i64 by_] w fun e w' => e = .returned (.tuple #[.agg #[.int .u64 0, .int .u64 0, .int .u64 0, .int .u64 0, .int .u64 0, .int .u64 0, .int .u64 0, .int .u64 0], .bool false, .int .i64 4]) ∧ Below w.heap.size w w' := by
  have HS := hide (frSt_start n d w 24 24 24)
  rcases h with h | h
  · go_enter Try.func28, Try.ntmps28
    go_upto_region 1 with fail
    refine wp_gen (fun W => FrSt n d 0 w W) HS.out ?_
    clear HS
    rintro W1 h1
    have hr1 := h1.lr.1
    have hrl1 := h1.lr.2
    have hrf1 := h1.fr
    have HBE := hide h1.bel
    clear h1
    go_wp2
    exact bodyPost_ret (v := .tuple #[.agg #[.int .u64 0, .int .u64 0, .int .u64 0, .int .u64 0, .int .u64 0, .int .u64 0, .int .u64 0, .int .u64 0], .bool false, .int .i64 4]) (by simp [results, Try.results28, go_sem, hr1, hrl1]) rfl ⟨rfl, below_set8 HBE.out _ (by omega) _ _ _ _ _ _ _ _⟩
  · have h0 : ¬ by_ < 0 := by omega
    go_enter Try.func28, Try.ntmps28
    go_upto_region 1 with fail
    refine wp_gen (fun W => FrSt n d 0 w W) HS.out ?_
    clear HS
    rintro W1 h1
    have hr1 := h1.lr.1
    have hrl1 := h1.lr.2
    have hrf1 := h1.fr
    have HBE := hide h1.bel
    clear h1
    go_wp2
    exact bodyPost_ret (v := .tuple #[.agg #[.int .u64 0, .int .u64 0, .int .u64 0, .int .u64 0, .int .u64 0, .int .u64 0, .int .u64 0, .int .u64 0], .bool false, .int .i64 4]) (by simp [results, Try.results28, go_sem, hr1, hrl1]) rfl ⟨rfl, below_set8 HBE.out _ (by omega) _ _ _ _ _ _ _ _⟩

set_option maxHeartbeats 4000000 in
theorem fraction_walk (n d X q r : Nat) (by_ m : Int) (z : Bool) (h0 : ¬ by_ < 0) (h1' : ¬ 100 < by_) (HZ : Hid (∀ w, (Op.equalIn 10000 24 (.agg #[.int .u64 (dgl (r) 0 : Nat), .int .u64 (dgl (r) 1 : Nat), .int .u64 (dgl (r) 2 : Nat), .int .u64 (dgl (r) 3 : Nat), .int .u64 (dgl (r) 4 : Nat), .int .u64 (dgl (r) 5 : Nat), .int .u64 (dgl (r) 6 : Nat), .int .u64 (dgl (r) 7 : Nat)]) (.agg #[.int .u64 0, .int .u64 0, .int .u64 0, .int .u64 0, .int .u64 0, .int .u64 0, .int .u64 0, .int .u64 0])).run Try.prog w = .ok z w))
    (HSH : Hid (∀ w, Calls Try.prog 48 #[.agg #[.int .u64 (dgl (n) 0 : Nat), .int .u64 (dgl (n) 1 : Nat), .int .u64 (dgl (n) 2 : Nat), .int .u64 (dgl (n) 3 : Nat), .int .u64 (dgl (n) 4 : Nat), .int .u64 (dgl (n) 5 : Nat), .int .u64 (dgl (n) 6 : Nat), .int .u64 (dgl (n) 7 : Nat)], .int .i64 by_] w fun e w' => e = .returned (.agg #[.int .u64 (dgl (X) 0 : Nat), .int .u64 (dgl (X) 1 : Nat), .int .u64 (dgl (X) 2 : Nat), .int .u64 (dgl (X) 3 : Nat), .int .u64 (dgl (X) 4 : Nat), .int .u64 (dgl (X) 5 : Nat), .int .u64 (dgl (X) 6 : Nat), .int .u64 (dgl (X) 7 : Nat)]) ∧ Below w.heap.size w w'))
    (HDV : Hid (∀ w, Calls Try.prog 13 #[.agg #[.int .u64 (dgl (X) 0 : Nat), .int .u64 (dgl (X) 1 : Nat), .int .u64 (dgl (X) 2 : Nat), .int .u64 (dgl (X) 3 : Nat), .int .u64 (dgl (X) 4 : Nat), .int .u64 (dgl (X) 5 : Nat), .int .u64 (dgl (X) 6 : Nat), .int .u64 (dgl (X) 7 : Nat)], .agg #[.int .u64 (dgl (d) 0 : Nat), .int .u64 (dgl (d) 1 : Nat), .int .u64 (dgl (d) 2 : Nat), .int .u64 (dgl (d) 3 : Nat), .int .u64 (dgl (d) 4 : Nat), .int .u64 (dgl (d) 5 : Nat), .int .u64 (dgl (d) 6 : Nat), .int .u64 (dgl (d) 7 : Nat)]] w fun e w' => e = .returned (.tuple #[.agg #[.int .u64 (dgl (q) 0 : Nat), .int .u64 (dgl (q) 1 : Nat), .int .u64 (dgl (q) 2 : Nat), .int .u64 (dgl (q) 3 : Nat), .int .u64 (dgl (q) 4 : Nat), .int .u64 (dgl (q) 5 : Nat), .int .u64 (dgl (q) 6 : Nat), .int .u64 (dgl (q) 7 : Nat)], .agg #[.int .u64 (dgl (r) 0 : Nat), .int .u64 (dgl (r) 1 : Nat), .int .u64 (dgl (r) 2 : Nat), .int .u64 (dgl (r) 3 : Nat), .int .u64 (dgl (r) 4 : Nat), .int .u64 (dgl (r) 5 : Nat), .int .u64 (dgl (r) 6 : Nat), .int .u64 (dgl (r) 7 : Nat)], .int .i64 m]) ∧ Below w.heap.size w w')) (w : World) :
    Calls Try.prog 28 #[.agg #[.int .u64 (dgl (n) 0 : Nat), .int .u64 (dgl (n) 1 : Nat), .int .u64 (dgl (n) 2 : Nat), .int .u64 (dgl (n) 3 : Nat), .int .u64 (dgl (n) 4 : Nat), .int .u64 (dgl (n) 5 : Nat), .int .u64 (dgl (n) 6 : Nat), .int .u64 (dgl (n) 7 : Nat)], .agg #[.int .u64 (dgl (d) 0 : Nat), .int .u64 (dgl (d) 1 : Nat), .int .u64 (dgl (d) 2 : Nat), .int .u64 (dgl (d) 3 : Nat), .int .u64 (dgl (d) 4 : Nat), .int .u64 (dgl (d) 5 : Nat), .int .u64 (dgl (d) 6 : Nat), .int .u64 (dgl (d) 7 : Nat)], .int .i64 by_] w fun e w' => e = .returned (.tuple #[.agg #[.int .u64 (dgl (q) 0 : Nat), .int .u64 (dgl (q) 1 : Nat), .int .u64 (dgl (q) 2 : Nat), .int .u64 (dgl (q) 3 : Nat), .int .u64 (dgl (q) 4 : Nat), .int .u64 (dgl (q) 5 : Nat), .int .u64 (dgl (q) 6 : Nat), .int .u64 (dgl (q) 7 : Nat)], .bool (!z), .int .i64 m]) ∧ Below w.heap.size w w' := by
  have HS := hide (frSt_start n d w 24 24 24)
  go_enter Try.func28, Try.ntmps28
  go_upto_region 3 with fail
  refine wp_gen (fun W => FrSt n d 0 w W) HS.out ?_
  clear HS h0 h1'
  rintro W1 h1
  refine wp_region_storeJ 14 [11, 12] [9, 10] [20, 21, 22, 23, 24, 19, 25, 26, 27, 9, 10, 11] (fun bs => [(20, .val (.agg #[.int .u64 (dgl (n) 0 : Nat), .int .u64 (dgl (n) 1 : Nat), .int .u64 (dgl (n) 2 : Nat), .int .u64 (dgl (n) 3 : Nat), .int .u64 (dgl (n) 4 : Nat), .int .u64 (dgl (n) 5 : Nat), .int .u64 (dgl (n) 6 : Nat), .int .u64 (dgl (n) 7 : Nat)])), (21, .val (.int .i64 by_)), (22, .val (.agg #[.int .u64 (dgl (X) 0 : Nat), .int .u64 (dgl (X) 1 : Nat), .int .u64 (dgl (X) 2 : Nat), .int .u64 (dgl (X) 3 : Nat), .int .u64 (dgl (X) 4 : Nat), .int .u64 (dgl (X) 5 : Nat), .int .u64 (dgl (X) 6 : Nat), .int .u64 (dgl (X) 7 : Nat)])), (23, .val (.agg #[.int .u64 (dgl (d) 0 : Nat), .int .u64 (dgl (d) 1 : Nat), .int .u64 (dgl (d) 2 : Nat), .int .u64 (dgl (d) 3 : Nat), .int .u64 (dgl (d) 4 : Nat), .int .u64 (dgl (d) 5 : Nat), .int .u64 (dgl (d) 6 : Nat), .int .u64 (dgl (d) 7 : Nat)])), (24, .val (.tuple #[.agg #[.int .u64 (dgl (q) 0 : Nat), .int .u64 (dgl (q) 1 : Nat), .int .u64 (dgl (q) 2 : Nat), .int .u64 (dgl (q) 3 : Nat), .int .u64 (dgl (q) 4 : Nat), .int .u64 (dgl (q) 5 : Nat), .int .u64 (dgl (q) 6 : Nat), .int .u64 (dgl (q) 7 : Nat)], .agg #[.int .u64 (dgl (r) 0 : Nat), .int .u64 (dgl (r) 1 : Nat), .int .u64 (dgl (r) 2 : Nat), .int .u64 (dgl (r) 3 : Nat), .int .u64 (dgl (r) 4 : Nat), .int .u64 (dgl (r) 5 : Nat), .int .u64 (dgl (r) 6 : Nat), .int .u64 (dgl (r) 7 : Nat)], .int .i64 m])), (19, .val (.tuple #[.agg #[.int .u64 (dgl (q) 0 : Nat), .int .u64 (dgl (q) 1 : Nat), .int .u64 (dgl (q) 2 : Nat), .int .u64 (dgl (q) 3 : Nat), .int .u64 (dgl (q) 4 : Nat), .int .u64 (dgl (q) 5 : Nat), .int .u64 (dgl (q) 6 : Nat), .int .u64 (dgl (q) 7 : Nat)], .agg #[.int .u64 (dgl (r) 0 : Nat), .int .u64 (dgl (r) 1 : Nat), .int .u64 (dgl (r) 2 : Nat), .int .u64 (dgl (r) 3 : Nat), .int .u64 (dgl (r) 4 : Nat), .int .u64 (dgl (r) 5 : Nat), .int .u64 (dgl (r) 6 : Nat), .int .u64 (dgl (r) 7 : Nat)], .int .i64 m])), (25, .val (.agg #[.int .u64 (dgl (q) 0 : Nat), .int .u64 (dgl (q) 1 : Nat), .int .u64 (dgl (q) 2 : Nat), .int .u64 (dgl (q) 3 : Nat), .int .u64 (dgl (q) 4 : Nat), .int .u64 (dgl (q) 5 : Nat), .int .u64 (dgl (q) 6 : Nat), .int .u64 (dgl (q) 7 : Nat)])), (26, .val (.agg #[.int .u64 (dgl (r) 0 : Nat), .int .u64 (dgl (r) 1 : Nat), .int .u64 (dgl (r) 2 : Nat), .int .u64 (dgl (r) 3 : Nat), .int .u64 (dgl (r) 4 : Nat), .int .u64 (dgl (r) 5 : Nat), .int .u64 (dgl (r) 6 : Nat), .int .u64 (dgl (r) 7 : Nat)])), (27, .val (.int .i64 m)), (9, bif bs.headD false then SlotIs.box (w.heap.size + 3) (dgl q) else SlotIs.box (w.heap.size + 3) (fun _ => 0)), (10, bif bs.tail.headD false then SlotIs.box (w.heap.size + 3) (dgl r) else SlotIs.box (w.heap.size + 3) (fun _ => 0)), (11, .val (.int .i64 m))])
    (fun _ W => FrSt n d 0 w W) (fun bs => rfl) mixedOk (by kernel_rfl) (by kernel_rfl) (by kernel_rfl) (apart_start (by kernel_rfl)) (h1.below (Below.refl _ _).drew) (fun bs W W' h hb => h.below hb) ?_ ?_
  · refine jSt rfl rfl (fun φ hφ => gStep_run rfl ?_) ?_
    · intro ρ W hC hc hf hL
      have e3 : ρ (.tmp 3) = .pointer (some ⟨w.heap.size, 0, none⟩) := hL 3 (by decide +kernel)
      have hl := hC.la.1
      simp [go_sem, hc, hf, e3, hl]
      exact ⟨Below.refl _ _, rfl⟩
    refine jSt rfl rfl (fun φ hφ => gStep_run rfl (gRun_move 2 21 (.inl rfl) rfl (by decide +kernel) (fun v w h => h))) ?_
    refine jSt rfl rfl (fun φ hφ => gStep_run rfl ?_) ?_
    · intro ρ W hC hc hf hL
      have e20 : ρ (.tmp 20) = .agg #[.int .u64 (dgl (n) 0 : Nat), .int .u64 (dgl (n) 1 : Nat), .int .u64 (dgl (n) 2 : Nat), .int .u64 (dgl (n) 3 : Nat), .int .u64 (dgl (n) 4 : Nat), .int .u64 (dgl (n) 5 : Nat), .int .u64 (dgl (n) 6 : Nat), .int .u64 (dgl (n) 7 : Nat)] := hL 20 (by decide +kernel)
      have e21 : ρ (.tmp 21) = .int .i64 by_ := hL 21 (by decide +kernel)
      simp [go_sem, hc, hf, e20, e21]
      refine (HSH.out W).mono ?_
      rintro e w' ⟨rfl, hb⟩
      exact ⟨_, rfl, by first | exact hb | (subst hb; exact Below.refl _ _), rfl⟩
    refine jSt rfl rfl (fun φ hφ => gStep_run rfl ?_) ?_
    · intro ρ W hC hc hf hL
      have e4 : ρ (.tmp 4) = .pointer (some ⟨w.heap.size + 1, 0, none⟩) := hL 4 (by decide +kernel)
      have hl := hC.lb.1
      simp [go_sem, hc, hf, e4, hl]
      exact ⟨Below.refl _ _, rfl⟩
    refine jSt rfl rfl (fun φ hφ => gStep_run rfl ?_) ?_
    · intro ρ W hC hc hf hL
      have e22 : ρ (.tmp 22) = .agg #[.int .u64 (dgl (X) 0 : Nat), .int .u64 (dgl (X) 1 : Nat), .int .u64 (dgl (X) 2 : Nat), .int .u64 (dgl (X) 3 : Nat), .int .u64 (dgl (X) 4 : Nat), .int .u64 (dgl (X) 5 : Nat), .int .u64 (dgl (X) 6 : Nat), .int .u64 (dgl (X) 7 : Nat)] := hL 22 (by decide +kernel)
      have e23 : ρ (.tmp 23) = .agg #[.int .u64 (dgl (d) 0 : Nat), .int .u64 (dgl (d) 1 : Nat), .int .u64 (dgl (d) 2 : Nat), .int .u64 (dgl (d) 3 : Nat), .int .u64 (dgl (d) 4 : Nat), .int .u64 (dgl (d) 5 : Nat), .int .u64 (dgl (d) 6 : Nat), .int .u64 (dgl (d) 7 : Nat)] := hL 23 (by decide +kernel)
      simp [go_sem, hc, hf, e22, e23]
      refine (HDV.out W).mono ?_
      rintro e w' ⟨rfl, hb⟩
      exact ⟨_, rfl, by first | exact hb | (subst hb; exact Below.refl _ _), rfl⟩
    refine jSt rfl rfl (fun φ hφ => gStep_run rfl (gRun_move 24 19 (.inl rfl) rfl (by decide +kernel) (fun v w h => h))) ?_
    refine jSt rfl rfl (fun φ hφ => gStep_run rfl ?_) ?_
    · intro ρ W hC hc hf hL
      have e19 : ρ (.tmp 19) = .tuple #[.agg #[.int .u64 (dgl (q) 0 : Nat), .int .u64 (dgl (q) 1 : Nat), .int .u64 (dgl (q) 2 : Nat), .int .u64 (dgl (q) 3 : Nat), .int .u64 (dgl (q) 4 : Nat), .int .u64 (dgl (q) 5 : Nat), .int .u64 (dgl (q) 6 : Nat), .int .u64 (dgl (q) 7 : Nat)], .agg #[.int .u64 (dgl (r) 0 : Nat), .int .u64 (dgl (r) 1 : Nat), .int .u64 (dgl (r) 2 : Nat), .int .u64 (dgl (r) 3 : Nat), .int .u64 (dgl (r) 4 : Nat), .int .u64 (dgl (r) 5 : Nat), .int .u64 (dgl (r) 6 : Nat), .int .u64 (dgl (r) 7 : Nat)], .int .i64 m] := hL 19 (by decide +kernel)
      simp [go_sem, hc, hf, e19]
      exact ⟨Below.refl _ _, rfl⟩
    refine jSt rfl rfl (fun φ hφ => gStep_run rfl ?_) ?_
    · intro ρ W hC hc hf hL
      have e19 : ρ (.tmp 19) = .tuple #[.agg #[.int .u64 (dgl (q) 0 : Nat), .int .u64 (dgl (q) 1 : Nat), .int .u64 (dgl (q) 2 : Nat), .int .u64 (dgl (q) 3 : Nat), .int .u64 (dgl (q) 4 : Nat), .int .u64 (dgl (q) 5 : Nat), .int .u64 (dgl (q) 6 : Nat), .int .u64 (dgl (q) 7 : Nat)], .agg #[.int .u64 (dgl (r) 0 : Nat), .int .u64 (dgl (r) 1 : Nat), .int .u64 (dgl (r) 2 : Nat), .int .u64 (dgl (r) 3 : Nat), .int .u64 (dgl (r) 4 : Nat), .int .u64 (dgl (r) 5 : Nat), .int .u64 (dgl (r) 6 : Nat), .int .u64 (dgl (r) 7 : Nat)], .int .i64 m] := hL 19 (by decide +kernel)
      simp [go_sem, hc, hf, e19]
      exact ⟨Below.refl _ _, rfl⟩
    refine jSt rfl rfl (fun φ hφ => gStep_run rfl ?_) ?_
    · intro ρ W hC hc hf hL
      have e19 : ρ (.tmp 19) = .tuple #[.agg #[.int .u64 (dgl (q) 0 : Nat), .int .u64 (dgl (q) 1 : Nat), .int .u64 (dgl (q) 2 : Nat), .int .u64 (dgl (q) 3 : Nat), .int .u64 (dgl (q) 4 : Nat), .int .u64 (dgl (q) 5 : Nat), .int .u64 (dgl (q) 6 : Nat), .int .u64 (dgl (q) 7 : Nat)], .agg #[.int .u64 (dgl (r) 0 : Nat), .int .u64 (dgl (r) 1 : Nat), .int .u64 (dgl (r) 2 : Nat), .int .u64 (dgl (r) 3 : Nat), .int .u64 (dgl (r) 4 : Nat), .int .u64 (dgl (r) 5 : Nat), .int .u64 (dgl (r) 6 : Nat), .int .u64 (dgl (r) 7 : Nat)], .int .i64 m] := hL 19 (by decide +kernel)
      simp [go_sem, hc, hf, e19]
      exact ⟨Below.refl _ _, rfl⟩
    refine jStF rfl rfl (fun φ hφ => ⟨rfl, ?_⟩) ?_
    · intro ρ W hC hc hL
      have hφ0 : φ 11 = false := hφ 11 (by simp) (by kernel_rfl)
      simp [go_sem, hc]
      refine ⟨⟨below_allocs _ _, ?_⟩, fun b hb => by cases hb; simp⟩
      show (bif φ 11 then SlotIs.box (w.heap.size + 3) (dgl q) else SlotIs.box (w.heap.size + 3) (fun _ => 0)).R _ _
      rw [hφ0]
      exact ⟨_, rfl, hC.lr.2, liesF_new _ (fun _ => 0) _, fun i => by simp [go_sem]⟩
    refine jStF rfl rfl (fun φ hφ => ⟨rfl, ?_⟩) ?_
    · intro ρ W hC hc hL
      have hφ0 : φ 12 = false := hφ 12 (by simp) (by kernel_rfl)
      simp [go_sem, hc]
      refine ⟨⟨below_allocs _ _, ?_⟩, fun b hb => by cases hb; simp⟩
      show (bif φ 12 then SlotIs.box (w.heap.size + 3) (dgl r) else SlotIs.box (w.heap.size + 3) (fun _ => 0)).R _ _
      rw [hφ0]
      exact ⟨_, rfl, hC.lr.2, liesF_new _ (fun _ => 0) _, fun i => by simp [go_sem]⟩
    refine jStS rfl ⟨rfl, rfl, ?_⟩ ?_
    · intro φ ρ W hφ hC hc hap hL
      have b9 := hL 9 (by decide +kernel)
      have e25 : ρ (.tmp 25) = .agg #[.int .u64 (dgl (q) 0 : Nat), .int .u64 (dgl (q) 1 : Nat), .int .u64 (dgl (q) 2 : Nat), .int .u64 (dgl (q) 3 : Nat), .int .u64 (dgl (q) 4 : Nat), .int .u64 (dgl (q) 5 : Nat), .int .u64 (dgl (q) 6 : Nat), .int .u64 (dgl (q) 7 : Nat)] := hL 25 (by decide +kernel)
      have b9 : (bif φ 11 then SlotIs.box (w.heap.size + 3) (dgl q) else SlotIs.box (w.heap.size + 3) (fun _ => 0)).R (ρ (.tmp 9)) W := hL 9 (by decide +kernel)
      rw [hφ] at b9
      obtain ⟨pp, ep, qp, lp, zp⟩ := b9
      have hz := lp.1
      have hzl := lp.2
      refine gUpon_of ((((((((W.setCell ⟨pp, 0, none⟩ (.int .u64 (dgl q 0 : Nat))).setCell ⟨pp, 1, none⟩ (.int .u64 (dgl q 1 : Nat))).setCell ⟨pp, 2, none⟩ (.int .u64 (dgl q 2 : Nat))).setCell ⟨pp, 3, none⟩ (.int .u64 (dgl q 3 : Nat))).setCell ⟨pp, 4, none⟩ (.int .u64 (dgl q 4 : Nat))).setCell ⟨pp, 5, none⟩ (.int .u64 (dgl q 5 : Nat))).setCell ⟨pp, 6, none⟩ (.int .u64 (dgl q 6 : Nat))).setCell ⟨pp, 7, none⟩ (.int .u64 (dgl q 7 : Nat))) ?_ (fun _ => ?_)
      · simp [go_sem, hc, e25, ep, hz, hzl, zp, gUpon]
      have hs8 := below_set8 (Below.refl (w.heap.size + 3) W) pp qp (.int .u64 (dgl q 0 : Nat)) (.int .u64 (dgl q 1 : Nat)) (.int .u64 (dgl q 2 : Nat)) (.int .u64 (dgl q 3 : Nat)) (.int .u64 (dgl q 4 : Nat)) (.int .u64 (dgl q 5 : Nat)) (.int .u64 (dgl q 6 : Nat)) (.int .u64 (dgl q 7 : Nat))
      have hne : ρ (.tmp 10) ≠ .pointer (some ⟨pp, 0, none⟩) := hap.2 9 (by decide) 10 (by decide) (by decide) pp ep
      refine ⟨hC.under hs8 (by omega), hs8.size, fun t => ?_⟩
      refine (tbl_imp rfl (fun _ => val_imp) (tbl_imp rfl (fun _ => val_imp) (tbl_imp rfl (fun _ => val_imp) (tbl_imp rfl (fun _ => val_imp) (tbl_imp rfl (fun _ => val_imp) (tbl_imp rfl (fun _ => val_imp) (tbl_imp rfl (fun _ => val_imp) (tbl_imp rfl (fun _ => val_imp) (tbl_imp rfl (fun _ => val_imp) (tbl_imp rfl (fun ht h => ?_) (tbl_imp rfl (fun ht h => ?_) (tbl_imp rfl (fun _ => val_imp) tbl_nil_imp))))))))))))
      · subst ht
        show (bif (φ 11 || true) then SlotIs.box (w.heap.size + 3) (dgl q) else SlotIs.box (w.heap.size + 3) (fun _ => 0)).R _ _
        rw [Bool.or_true]
        exact ⟨pp, ep, qp, set8_same W pp (dgl q) (fun _ => 0) lp, fun i => by simpa [go_sem] using zp i⟩
      · subst ht
        show (bif (φ 12 || false) then SlotIs.box (w.heap.size + 3) (dgl r) else SlotIs.box (w.heap.size + 3) (fun _ => 0)).R _ _
        rw [Bool.or_false]
        replace h : (bif φ 12 then SlotIs.box (w.heap.size + 3) (dgl r) else SlotIs.box (w.heap.size + 3) (fun _ => 0)).R (ρ (.tmp 10)) W := h
        cases hφ2 : φ 12
        · rw [hφ2] at h; exact box_other h hne
        · rw [hφ2] at h; exact box_other h hne
    refine jStS rfl ⟨rfl, rfl, ?_⟩ ?_
    · intro φ ρ W hφ hC hc hap hL
      have b10 := hL 10 (by decide +kernel)
      have e26 : ρ (.tmp 26) = .agg #[.int .u64 (dgl (r) 0 : Nat), .int .u64 (dgl (r) 1 : Nat), .int .u64 (dgl (r) 2 : Nat), .int .u64 (dgl (r) 3 : Nat), .int .u64 (dgl (r) 4 : Nat), .int .u64 (dgl (r) 5 : Nat), .int .u64 (dgl (r) 6 : Nat), .int .u64 (dgl (r) 7 : Nat)] := hL 26 (by decide +kernel)
      have b10 : (bif φ 12 then SlotIs.box (w.heap.size + 3) (dgl r) else SlotIs.box (w.heap.size + 3) (fun _ => 0)).R (ρ (.tmp 10)) W := hL 10 (by decide +kernel)
      rw [hφ] at b10
      obtain ⟨pp, ep, qp, lp, zp⟩ := b10
      have hz := lp.1
      have hzl := lp.2
      refine gUpon_of ((((((((W.setCell ⟨pp, 0, none⟩ (.int .u64 (dgl r 0 : Nat))).setCell ⟨pp, 1, none⟩ (.int .u64 (dgl r 1 : Nat))).setCell ⟨pp, 2, none⟩ (.int .u64 (dgl r 2 : Nat))).setCell ⟨pp, 3, none⟩ (.int .u64 (dgl r 3 : Nat))).setCell ⟨pp, 4, none⟩ (.int .u64 (dgl r 4 : Nat))).setCell ⟨pp, 5, none⟩ (.int .u64 (dgl r 5 : Nat))).setCell ⟨pp, 6, none⟩ (.int .u64 (dgl r 6 : Nat))).setCell ⟨pp, 7, none⟩ (.int .u64 (dgl r 7 : Nat))) ?_ (fun _ => ?_)
      · simp [go_sem, hc, e26, ep, hz, hzl, zp, gUpon]
      have hs8 := below_set8 (Below.refl (w.heap.size + 3) W) pp qp (.int .u64 (dgl r 0 : Nat)) (.int .u64 (dgl r 1 : Nat)) (.int .u64 (dgl r 2 : Nat)) (.int .u64 (dgl r 3 : Nat)) (.int .u64 (dgl r 4 : Nat)) (.int .u64 (dgl r 5 : Nat)) (.int .u64 (dgl r 6 : Nat)) (.int .u64 (dgl r 7 : Nat))
      have hne : ρ (.tmp 9) ≠ .pointer (some ⟨pp, 0, none⟩) := hap.2 10 (by decide) 9 (by decide) (by decide) pp ep
      refine ⟨hC.under hs8 (by omega), hs8.size, fun t => ?_⟩
      refine (tbl_imp rfl (fun _ => val_imp) (tbl_imp rfl (fun _ => val_imp) (tbl_imp rfl (fun _ => val_imp) (tbl_imp rfl (fun _ => val_imp) (tbl_imp rfl (fun _ => val_imp) (tbl_imp rfl (fun _ => val_imp) (tbl_imp rfl (fun _ => val_imp) (tbl_imp rfl (fun _ => val_imp) (tbl_imp rfl (fun _ => val_imp) (tbl_imp rfl (fun ht h => ?_) (tbl_imp rfl (fun ht h => ?_) (tbl_imp rfl (fun _ => val_imp) tbl_nil_imp))))))))))))
      · subst ht
        show (bif (φ 11 || false) then SlotIs.box (w.heap.size + 3) (dgl q) else SlotIs.box (w.heap.size + 3) (fun _ => 0)).R _ _
        rw [Bool.or_false]
        replace h : (bif φ 11 then SlotIs.box (w.heap.size + 3) (dgl q) else SlotIs.box (w.heap.size + 3) (fun _ => 0)).R (ρ (.tmp 9)) W := h
        cases hφ2 : φ 11
        · rw [hφ2] at h; exact box_other h hne
        · rw [hφ2] at h; exact box_other h hne
      · subst ht
        show (bif (φ 12 || true) then SlotIs.box (w.heap.size + 3) (dgl r) else SlotIs.box (w.heap.size + 3) (fun _ => 0)).R _ _
        rw [Bool.or_true]
        exact ⟨pp, ep, qp, set8_same W pp (dgl r) (fun _ => 0) lp, fun i => by simpa [go_sem] using zp i⟩
    refine jSt rfl rfl (fun φ hφ => gStep_run rfl (gRun_move 27 11 (.inr rfl) rfl (by decide +kernel) (fun v w h => h))) ?_
    exact jSt0
  · intro W hC
    refine gFi 20 rfl ?_
    rintro _ rfl
    refine gFi 21 rfl ?_
    rintro _ rfl
    refine gFi 22 rfl ?_
    rintro _ rfl
    refine gFi 23 rfl ?_
    rintro _ rfl
    refine gFi 24 rfl ?_
    rintro _ rfl
    refine gFi 19 rfl ?_
    rintro _ rfl
    refine gFi 25 rfl ?_
    rintro _ rfl
    refine gFi 26 rfl ?_
    rintro _ rfl
    refine gFi 27 rfl ?_
    rintro _ rfl
    refine gFi 9 rfl ?_
    rintro _ ⟨p9, rfl, q9, l9, z9⟩
    refine gFi 10 rfl ?_
    rintro _ ⟨p10, rfl, q10, l10, z10⟩
    refine gFiN rfl ?_
    refine gFiN rfl ?_
    refine gFi 11 rfl ?_
    rintro _ rfl
    refine gFi0 ?_
    simp only [List.drop_succ_cons, List.drop_zero, Act.put, List.setIfInBounds_toArray, List.set_cons_succ, List.set_cons_zero]
    have HS3 := hide (show FrSt n d 0 w W ∧ LiesF W p9 (dgl q) ∧ LiesF W p10 (dgl r) from ⟨hC, l9, l10⟩)
    have HNE := hide (show w.heap.size + 3 ≤ p9 ∧ w.heap.size + 3 ≤ p10 from ⟨q9, q10⟩)
    clear hC l9 l10 q9 q10 z9 z10 h1
    go_upto_region 4 with fail
    refine wp_region_storeK 8 [5] [28, 29, 30, 31, 32, 7, 8] (fun bs => [(28, .val (.agg #[.int .u64 (dgl (q) 0 : Nat), .int .u64 (dgl (q) 1 : Nat), .int .u64 (dgl (q) 2 : Nat), .int .u64 (dgl (q) 3 : Nat), .int .u64 (dgl (q) 4 : Nat), .int .u64 (dgl (q) 5 : Nat), .int .u64 (dgl (q) 6 : Nat), .int .u64 (dgl (q) 7 : Nat)])), (29, .val (.agg #[.int .u64 (dgl (r) 0 : Nat), .int .u64 (dgl (r) 1 : Nat), .int .u64 (dgl (r) 2 : Nat), .int .u64 (dgl (r) 3 : Nat), .int .u64 (dgl (r) 4 : Nat), .int .u64 (dgl (r) 5 : Nat), .int .u64 (dgl (r) 6 : Nat), .int .u64 (dgl (r) 7 : Nat)])), (30, .val (.agg #[.int .u64 0, .int .u64 0, .int .u64 0, .int .u64 0, .int .u64 0, .int .u64 0, .int .u64 0, .int .u64 0])), (31, .val (.bool (!z))), (32, .val (.int .i64 m)), (7, .val (.bool (!z))), (8, .val (.int .i64 m))])
      (fun bs W => (∀ c, bs.headD false = c → FrSt n d (bif c then q else 0) w W) ∧ LiesF W p9 (dgl q) ∧ LiesF W p10 (dgl r)) (fun bs => rfl) mixedOk (by kernel_rfl) (by kernel_rfl) (by kernel_rfl) (⟨fun c hc => by subst hc; exact HS3.out.1.below (Below.refl _ _).drew, HS3.out.2.1.below (Below.refl _ _).drew, HS3.out.2.2.below (Below.refl _ _).drew⟩) (fun bs W W' h hb => ⟨fun c hc => (h.1 c hc).below hb, h.2.1.below hb, h.2.2.below hb⟩) ?_ ?_
    · refine kSt rfl (fun φ hφ => gStep_run rfl ?_) ?_
      · intro ρ W hC hc hf hL
        have e9 : ρ (.tmp 9) = .pointer (some ⟨p9, 0, none⟩) := hL 9 (by decide +kernel)
        have hl := hC.2.1.1
        simp [go_sem, hc, hf, e9, hl]
        exact ⟨Below.refl _ _, rfl⟩
      refine kSt rfl (fun φ hφ => gStep_run rfl ?_) ?_
      · intro ρ W hC hc hf hL
        have e10 : ρ (.tmp 10) = .pointer (some ⟨p10, 0, none⟩) := hL 10 (by decide +kernel)
        have hl := hC.2.2.1
        simp [go_sem, hc, hf, e10, hl]
        exact ⟨Below.refl _ _, rfl⟩
      refine kSt rfl (fun φ hφ => gStep_run rfl ?_) ?_
      · intro ρ W hC hc hf hL
        simp [go_sem, hc, hf]
        exact ⟨Below.refl _ _, rfl⟩
      refine kSt rfl (fun φ hφ => gStep_run rfl ?_) ?_
      · intro ρ W hC hc hf hL
        have e29 : ρ (.tmp 29) = .agg #[.int .u64 (dgl (r) 0 : Nat), .int .u64 (dgl (r) 1 : Nat), .int .u64 (dgl (r) 2 : Nat), .int .u64 (dgl (r) 3 : Nat), .int .u64 (dgl (r) 4 : Nat), .int .u64 (dgl (r) 5 : Nat), .int .u64 (dgl (r) 6 : Nat), .int .u64 (dgl (r) 7 : Nat)] := hL 29 (by decide +kernel)
        have e30 : ρ (.tmp 30) = .agg #[.int .u64 0, .int .u64 0, .int .u64 0, .int .u64 0, .int .u64 0, .int .u64 0, .int .u64 0, .int .u64 0] := hL 30 (by decide +kernel)
        have hz1 := HZ.out W
        simp [go_sem, hc, hf, e29, e30, hz1]
        exact ⟨Below.refl _ _, rfl⟩
      refine kSt rfl (fun φ hφ => gStep_run rfl (gRun_move 11 32 (.inl rfl) rfl (by decide +kernel) (fun v w h => h))) ?_
      refine kStS rfl ⟨rfl, rfl, ?_⟩ ?_
      · intro φ ρ W hφ hC hc hL
        have e6 : ρ (.tmp 6) = .pointer (some ⟨w.heap.size + 2, 0, none⟩) := hL 6 (by decide +kernel)
        have e28 : ρ (.tmp 28) = .agg #[.int .u64 (dgl (q) 0 : Nat), .int .u64 (dgl (q) 1 : Nat), .int .u64 (dgl (q) 2 : Nat), .int .u64 (dgl (q) 3 : Nat), .int .u64 (dgl (q) 4 : Nat), .int .u64 (dgl (q) 5 : Nat), .int .u64 (dgl (q) 6 : Nat), .int .u64 (dgl (q) 7 : Nat)] := hL 28 (by decide +kernel)
        have g : FrSt n d 0 w W := hC.1 false (by simp [hφ])
        have hz := g.lr.1
        have hzl := g.lr.2
        have hzf := g.fr
        have hne := HNE.out
        refine gUpon_of ((((((((W.setCell ⟨w.heap.size + 2, 0, none⟩ (.int .u64 (dgl q 0 : Nat))).setCell ⟨w.heap.size + 2, 1, none⟩ (.int .u64 (dgl q 1 : Nat))).setCell ⟨w.heap.size + 2, 2, none⟩ (.int .u64 (dgl q 2 : Nat))).setCell ⟨w.heap.size + 2, 3, none⟩ (.int .u64 (dgl q 3 : Nat))).setCell ⟨w.heap.size + 2, 4, none⟩ (.int .u64 (dgl q 4 : Nat))).setCell ⟨w.heap.size + 2, 5, none⟩ (.int .u64 (dgl q 5 : Nat))).setCell ⟨w.heap.size + 2, 6, none⟩ (.int .u64 (dgl q 6 : Nat))).setCell ⟨w.heap.size + 2, 7, none⟩ (.int .u64 (dgl q 7 : Nat))) ?_ (fun _ => ?_)
        · simp [go_sem, hc, e6, e28, hz, hzl, hzf, gUpon]
        refine ⟨⟨fun c hc => ?_, lies_ne hC.2.1 (by omega), lies_ne hC.2.2 (by omega)⟩, fun t => ?_⟩
        · have hc1 : c = true := by rw [← hc]; simp
          subst hc1
          exact g.set8 q
        refine (tbl_imp rfl (fun _ => val_imp) (tbl_imp rfl (fun _ => val_imp) (tbl_imp rfl (fun _ => val_imp) (tbl_imp rfl (fun _ => val_imp) (tbl_imp rfl (fun _ => val_imp) (tbl_imp rfl (fun _ => val_imp) (tbl_imp rfl (fun _ => val_imp) tbl_nil_imp)))))))
      refine kSt rfl (fun φ hφ => gStep_run rfl (gRun_move 31 7 (.inr rfl) rfl (by decide +kernel) (fun v w h => h))) ?_
      refine kSt rfl (fun φ hφ => gStep_run rfl (gRun_move 32 8 (.inr rfl) rfl (by decide +kernel) (fun v w h => h))) ?_
      exact kSt0
    · intro W hC
      refine gFi 28 rfl ?_
      rintro _ rfl
      refine gFi 29 rfl ?_
      rintro _ rfl
      refine gFi 30 rfl ?_
      rintro _ rfl
      refine gFi 31 rfl ?_
      rintro _ rfl
      refine gFi 32 rfl ?_
      rintro _ rfl
      refine gFiN rfl ?_
      refine gFi 7 rfl ?_
      rintro _ rfl
      refine gFi 8 rfl ?_
      rintro _ rfl
      refine gFi0 ?_
      simp only [List.drop_succ_cons, List.drop_zero, Act.put, List.setIfInBounds_toArray, List.set_cons_succ, List.set_cons_zero]
      have g := hC.1 true rfl
      have hr1 := g.lr.1
      have hrl1 := g.lr.2
      have HBE := hide g.bel
      clear hC g
      go_wp2
      exact bodyPost_ret (v := .tuple #[.agg #[.int .u64 (dgl (q) 0 : Nat), .int .u64 (dgl (q) 1 : Nat), .int .u64 (dgl (q) 2 : Nat), .int .u64 (dgl (q) 3 : Nat), .int .u64 (dgl (q) 4 : Nat), .int .u64 (dgl (q) 5 : Nat), .int .u64 (dgl (q) 6 : Nat), .int .u64 (dgl (q) 7 : Nat)], .bool (!z), .int .i64 m]) (by simp [results, Try.results28, go_sem, hr1, hrl1]) rfl ⟨rfl, HBE.out⟩
    

theorem fraction_any (n d k : Nat) (hn : n < QQ) (hd : d < QQ) (hk : k ≤ 100) (x y : Nat) (hx : x = if mayN (n * 2 ^ k % QQ) d = 0 then n * 2 ^ k % QQ / d else 0) (hy : y = if mayN (n * 2 ^ k % QQ) d = 0 then n * 2 ^ k % QQ % d else 0) (w : World) :
    Calls Try.prog 28 #[.agg #[.int .u64 (dgl (n) 0 : Nat), .int .u64 (dgl (n) 1 : Nat), .int .u64 (dgl (n) 2 : Nat), .int .u64 (dgl (n) 3 : Nat), .int .u64 (dgl (n) 4 : Nat), .int .u64 (dgl (n) 5 : Nat), .int .u64 (dgl (n) 6 : Nat), .int .u64 (dgl (n) 7 : Nat)], .agg #[.int .u64 (dgl (d) 0 : Nat), .int .u64 (dgl (d) 1 : Nat), .int .u64 (dgl (d) 2 : Nat), .int .u64 (dgl (d) 3 : Nat), .int .u64 (dgl (d) 4 : Nat), .int .u64 (dgl (d) 5 : Nat), .int .u64 (dgl (d) 6 : Nat), .int .u64 (dgl (d) 7 : Nat)], .int .i64 (k : Nat)] w fun e w' => e = .returned (.tuple #[.agg #[.int .u64 (dgl (x) 0 : Nat), .int .u64 (dgl (x) 1 : Nat), .int .u64 (dgl (x) 2 : Nat), .int .u64 (dgl (x) 3 : Nat), .int .u64 (dgl (x) 4 : Nat), .int .u64 (dgl (x) 5 : Nat), .int .u64 (dgl (x) 6 : Nat), .int .u64 (dgl (x) 7 : Nat)], .bool (!decide (y = 0)), .int .i64 ((mayN (n * 2 ^ k % QQ) d : Nat) : Int)]) ∧ Below w.heap.size w w' := by
  have hX : n * 2 ^ k % QQ < QQ := Nat.mod_lt _ (by omega)
  have hyq : y < QQ := by
    rw [hy]
    split
    · exact Nat.lt_of_le_of_lt (Nat.mod_le _ _) hX
    · omega
  have HSH : ∀ w, Calls Try.prog 48 #[.agg #[.int .u64 (dgl (n) 0 : Nat), .int .u64 (dgl (n) 1 : Nat), .int .u64 (dgl (n) 2 : Nat), .int .u64 (dgl (n) 3 : Nat), .int .u64 (dgl (n) 4 : Nat), .int .u64 (dgl (n) 5 : Nat), .int .u64 (dgl (n) 6 : Nat), .int .u64 (dgl (n) 7 : Nat)], .int .i64 (k : Nat)] w fun e w' => e = .returned (.agg #[.int .u64 (dgl (n * 2 ^ k % QQ) 0 : Nat), .int .u64 (dgl (n * 2 ^ k % QQ) 1 : Nat), .int .u64 (dgl (n * 2 ^ k % QQ) 2 : Nat), .int .u64 (dgl (n * 2 ^ k % QQ) 3 : Nat), .int .u64 (dgl (n * 2 ^ k % QQ) 4 : Nat), .int .u64 (dgl (n * 2 ^ k % QQ) 5 : Nat), .int .u64 (dgl (n * 2 ^ k % QQ) 6 : Nat), .int .u64 (dgl (n * 2 ^ k % QQ) 7 : Nat)]) ∧ Below w.heap.size w w' := fun w => by
    have h := wideShl_any n (k : Nat) hn w
    rw [show roomI (k : Nat) = ((k : Nat) : Int) by unfold roomI; omega, sh_up] at h
    rw [w8_mod (show n * 2 ^ k % QQ % QQ = (n * 2 ^ k) % QQ from Nat.mod_mod _ _)]
    exact h
  generalize n * 2 ^ k % QQ = X at *
  exact fraction_walk n d X x y _ _ _ (by omega) (by omega) (fun w => wide_eqz hyq w) HSH (fun w => divide_any X d hX hd x y hx hy w) w

end Go.Proofs.Ytmbbhagjfgjhgaa

