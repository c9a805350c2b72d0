/- Contracts and laws: SrrE, SrrF. -/
import Derived.Test.YtbngaajhdaciaaaPartAU
import Derived.Test.YtbngaajhdaciaaaPartAT
/- Contracts: srtroot.Root. -/
set_option linter.unusedVariables false
set_option linter.unusedSimpArgs false
set_option maxRecDepth 8000
namespace Go.Proofs.Ytbngaajhdaciaaa
open Go.RowKit Plain

theorem rt_start (n : Nat) (w : World) (e1 e2 e3 : TypeId) : LiesF (((w.alloc (.cells #[.int .u64 (dgl (n) 0 : Nat), .int .u64 (dgl (n) 1 : Nat), .int .u64 (dgl (n) 2 : Nat), .int .u64 (dgl (n) 3 : Nat), .int .u64 (dgl (n) 4 : Nat), .int .u64 (dgl (n) 5 : Nat), .int .u64 (dgl (n) 6 : Nat), .int .u64 (dgl (n) 7 : Nat)] e1)).alloc (.cells #[.int .u64 0, .int .u64 0, .int .u64 0, .int .u64 0, .int .u64 0, .int .u64 0, .int .u64 0, .int .u64 0] e2)).alloc (.cells #[.int .u64 0, .int .u64 0, .int .u64 0, .int .u64 0, .int .u64 0, .int .u64 0, .int .u64 0, .int .u64 0] e3)) w.heap.size (dgl n) ∧ R2St (w.heap.size + 1) (w.heap.size + 2) 0 0 w (((w.alloc (.cells #[.int .u64 (dgl (n) 0 : Nat), .int .u64 (dgl (n) 1 : Nat), .int .u64 (dgl (n) 2 : Nat), .int .u64 (dgl (n) 3 : Nat), .int .u64 (dgl (n) 4 : Nat), .int .u64 (dgl (n) 5 : Nat), .int .u64 (dgl (n) 6 : Nat), .int .u64 (dgl (n) 7 : Nat)] e1)).alloc (.cells #[.int .u64 0, .int .u64 0, .int .u64 0, .int .u64 0, .int .u64 0, .int .u64 0, .int .u64 0, .int .u64 0] e2)).alloc (.cells #[.int .u64 0, .int .u64 0, .int .u64 0, .int .u64 0, .int .u64 0, .int .u64 0, .int .u64 0, .int .u64 0] e3)) := by
  have h2 := r2_new w _ (below_allocs w (.cells #[.int .u64 (dgl (n) 0 : Nat), .int .u64 (dgl (n) 1 : Nat), .int .u64 (dgl (n) 2 : Nat), .int .u64 (dgl (n) 3 : Nat), .int .u64 (dgl (n) 4 : Nat), .int .u64 (dgl (n) 5 : Nat), .int .u64 (dgl (n) 6 : Nat), .int .u64 (dgl (n) 7 : Nat)] e1)) e2 e3
  rw [World.size_alloc] at h2
  exact ⟨((liesF_new w (dgl n) e1).alloc _).alloc _, h2⟩

set_option maxHeartbeats 2000000 in
theorem rootB_no' (n : Nat) (ez : Int) (HNO : Hid (∀ w, Calls Try.prog 15 #[.agg #[.int .u64 (dgl (n) 0 : Nat), .int .u64 (dgl (n) 1 : Nat), .int .u64 (dgl (n) 2 : Nat), .int .u64 (dgl (n) 3 : Nat), .int .u64 (dgl (n) 4 : Nat), .int .u64 (dgl (n) 5 : Nat), .int .u64 (dgl (n) 6 : Nat), .int .u64 (dgl (n) 7 : Nat)]] w fun e w' => e = .returned (.tuple #[.agg #[.int .u64 0, .int .u64 0, .int .u64 0, .int .u64 0, .int .u64 0, .int .u64 0, .int .u64 0, .int .u64 0], .int .i64 0, .bool false]) ∧ Below w.heap.size w w'))
    (HUN : Hid (∀ w, Calls Try.prog 25 #[.agg #[.int .u64 (dgl (n) 0 : Nat), .int .u64 (dgl (n) 1 : Nat), .int .u64 (dgl (n) 2 : Nat), .int .u64 (dgl (n) 3 : Nat), .int .u64 (dgl (n) 4 : Nat), .int .u64 (dgl (n) 5 : Nat), .int .u64 (dgl (n) 6 : Nat), .int .u64 (dgl (n) 7 : Nat)]] w fun e w' => e = .returned (.int .i64 ez) ∧ Below w.heap.size w w')) (w : World) :
    Calls Try.prog 7 #[.agg #[.int .u64 (dgl (n) 0 : Nat), .int .u64 (dgl (n) 1 : Nat), .int .u64 (dgl (n) 2 : Nat), .int .u64 (dgl (n) 3 : Nat), .int .u64 (dgl (n) 4 : Nat), .int .u64 (dgl (n) 5 : Nat), .int .u64 (dgl (n) 6 : Nat), .int .u64 (dgl (n) 7 : Nat)]] w fun e w' => e = .returned (.tuple #[.agg #[.int .u64 0, .int .u64 0, .int .u64 0, .int .u64 0, .int .u64 0, .int .u64 0, .int .u64 0, .int .u64 0], .agg #[.int .u64 0, .int .u64 0, .int .u64 0, .int .u64 0, .int .u64 0, .int .u64 0, .int .u64 0, .int .u64 0], .int .i64 ez]) ∧ Below w.heap.size w w' := by
  have HS := hide (rt_start n w 24 24 24)
  go_enter Try.func7, Try.ntmps7
  have hl := HS.out.1.1
  go_wp2_with fail
  refine (HNO.out _).mono ?_
  rintro e w2 ⟨rfl, hb2⟩
  replace HS := hide (show LiesF w2 w.heap.size (dgl n) ∧ R2St (w.heap.size + 1) (w.heap.size + 2) 0 0 w w2 from ⟨HS.out.1.below hb2, HS.out.2.below hb2⟩)
  clear hb2 hl HNO
  go_upto_region 2 with fail
  refine wp_gen (fun W => LiesF W w.heap.size (dgl n) ∧ R2St (w.heap.size + 1) (w.heap.size + 2) 0 0 w W) ⟨HS.out.1.below (below_allocs _ _), HS.out.2.below (below_allocs _ _)⟩ ?_
  clear HS
  rintro W4 h4
  have HS := hide h4
  have hl := h4.1.1
  clear h4
  go_wp2_with fail
  refine (HUN.out _).mono ?_
  rintro e w5 ⟨rfl, hb5⟩
  replace HS := hide (HS.out.2.below hb5)
  clear hb5 hl HUN
  have hr1 := HS.out.lx.1
  have hrl1 := HS.out.lx.2
  have hrf1 := HS.out.fx
  have hr2 := HS.out.ly.1
  have hrl2 := HS.out.ly.2
  have hrf2 := HS.out.fy
  have HBE := hide HS.out.bel
  clear HS
  go_wp2
  exact bodyPost_ret (v := .tuple #[.agg #[.int .u64 0, .int .u64 0, .int .u64 0, .int .u64 0, .int .u64 0, .int .u64 0, .int .u64 0, .int .u64 0], .agg #[.int .u64 0, .int .u64 0, .int .u64 0, .int .u64 0, .int .u64 0, .int .u64 0, .int .u64 0, .int .u64 0], .int .i64 ez]) (by simp [results, Try.results7, go_sem, hr1, hrl1, hr2, hrl2]) rfl ⟨rfl, below_set8 (below_set8 HBE.out _ (by omega) _ _ _ _ _ _ _ _) _ (by omega) _ _ _ _ _ _ _ _⟩

set_option maxHeartbeats 8000000 in
theorem rootB_P (n X x y S sq R b m : Nat) (ov2 ov3 ov4 : Bool) (hbm : (b : Int).tdiv 2 = (m : Int)) (hm : m ≤ 128) (hb : b ≤ 256) (HNO : Hid (∀ w, Calls Try.prog 15 #[.agg #[.int .u64 (dgl (n) 0 : Nat), .int .u64 (dgl (n) 1 : Nat), .int .u64 (dgl (n) 2 : Nat), .int .u64 (dgl (n) 3 : Nat), .int .u64 (dgl (n) 4 : Nat), .int .u64 (dgl (n) 5 : Nat), .int .u64 (dgl (n) 6 : Nat), .int .u64 (dgl (n) 7 : Nat)]] w fun e w' => e = .returned (.tuple #[.agg #[.int .u64 (dgl (X) 0 : Nat), .int .u64 (dgl (X) 1 : Nat), .int .u64 (dgl (X) 2 : Nat), .int .u64 (dgl (X) 3 : Nat), .int .u64 (dgl (X) 4 : Nat), .int .u64 (dgl (X) 5 : Nat), .int .u64 (dgl (X) 6 : Nat), .int .u64 (dgl (X) 7 : Nat)], .int .i64 (b : Nat), .bool true]) ∧ Below w.heap.size w w'))
    (HWK : Hid (∀ w, Calls Try.prog 26 #[.agg #[.int .u64 (dgl (X) 0 : Nat), .int .u64 (dgl (X) 1 : Nat), .int .u64 (dgl (X) 2 : Nat), .int .u64 (dgl (X) 3 : Nat), .int .u64 (dgl (X) 4 : Nat), .int .u64 (dgl (X) 5 : Nat), .int .u64 (dgl (X) 6 : Nat), .int .u64 (dgl (X) 7 : Nat)], .int .i64 64, .func (.func 27) #[] #[]] w fun e w' => e = .returned (.tuple #[.agg #[.int .u64 (dgl (x) 0 : Nat), .int .u64 (dgl (x) 1 : Nat), .int .u64 (dgl (x) 2 : Nat), .int .u64 (dgl (x) 3 : Nat), .int .u64 (dgl (x) 4 : Nat), .int .u64 (dgl (x) 5 : Nat), .int .u64 (dgl (x) 6 : Nat), .int .u64 (dgl (x) 7 : Nat)], .agg #[.int .u64 (dgl (y) 0 : Nat), .int .u64 (dgl (y) 1 : Nat), .int .u64 (dgl (y) 2 : Nat), .int .u64 (dgl (y) 3 : Nat), .int .u64 (dgl (y) 4 : Nat), .int .u64 (dgl (y) 5 : Nat), .int .u64 (dgl (y) 6 : Nat), .int .u64 (dgl (y) 7 : Nat)]]) ∧ Below w.heap.size w w'))
    (HMI : Hid (∀ w, Calls Try.prog 28 #[.agg #[.int .u64 (dgl (y) 0 : Nat), .int .u64 (dgl (y) 1 : Nat), .int .u64 (dgl (y) 2 : Nat), .int .u64 (dgl (y) 3 : Nat), .int .u64 (dgl (y) 4 : Nat), .int .u64 (dgl (y) 5 : Nat), .int .u64 (dgl (y) 6 : Nat), .int .u64 (dgl (y) 7 : Nat)]] w fun e w' => e = .returned (.bool false) ∧ Below w.heap.size w w'))
    (HSR : Hid (∀ w, Calls Try.prog 31 #[.agg #[.int .u64 (dgl (x) 0 : Nat), .int .u64 (dgl (x) 1 : Nat), .int .u64 (dgl (x) 2 : Nat), .int .u64 (dgl (x) 3 : Nat), .int .u64 (dgl (x) 4 : Nat), .int .u64 (dgl (x) 5 : Nat), .int .u64 (dgl (x) 6 : Nat), .int .u64 (dgl (x) 7 : Nat)], .int .i64 (m : Nat)] w fun e w' => e = .returned (.tuple #[.agg #[.int .u64 (dgl (S) 0 : Nat), .int .u64 (dgl (S) 1 : Nat), .int .u64 (dgl (S) 2 : Nat), .int .u64 (dgl (S) 3 : Nat), .int .u64 (dgl (S) 4 : Nat), .int .u64 (dgl (S) 5 : Nat), .int .u64 (dgl (S) 6 : Nat), .int .u64 (dgl (S) 7 : Nat)], .bool ov2]) ∧ Below w.heap.size w w'))
    (HSQ : Hid (∀ w, Calls Try.prog 32 #[.agg #[.int .u64 (dgl (S) 0 : Nat), .int .u64 (dgl (S) 1 : Nat), .int .u64 (dgl (S) 2 : Nat), .int .u64 (dgl (S) 3 : Nat), .int .u64 (dgl (S) 4 : Nat), .int .u64 (dgl (S) 5 : Nat), .int .u64 (dgl (S) 6 : Nat), .int .u64 (dgl (S) 7 : Nat)]] w fun e w' => e = .returned (.tuple #[.agg #[.int .u64 (dgl (sq) 0 : Nat), .int .u64 (dgl (sq) 1 : Nat), .int .u64 (dgl (sq) 2 : Nat), .int .u64 (dgl (sq) 3 : Nat), .int .u64 (dgl (sq) 4 : Nat), .int .u64 (dgl (sq) 5 : Nat), .int .u64 (dgl (sq) 6 : Nat), .int .u64 (dgl (sq) 7 : Nat)], .bool ov3]) ∧ Below w.heap.size w w'))
    (HSB : Hid (∀ w, Calls Try.prog 29 #[.agg #[.int .u64 (dgl (n) 0 : Nat), .int .u64 (dgl (n) 1 : Nat), .int .u64 (dgl (n) 2 : Nat), .int .u64 (dgl (n) 3 : Nat), .int .u64 (dgl (n) 4 : Nat), .int .u64 (dgl (n) 5 : Nat), .int .u64 (dgl (n) 6 : Nat), .int .u64 (dgl (n) 7 : Nat)], .agg #[.int .u64 (dgl (sq) 0 : Nat), .int .u64 (dgl (sq) 1 : Nat), .int .u64 (dgl (sq) 2 : Nat), .int .u64 (dgl (sq) 3 : Nat), .int .u64 (dgl (sq) 4 : Nat), .int .u64 (dgl (sq) 5 : Nat), .int .u64 (dgl (sq) 6 : Nat), .int .u64 (dgl (sq) 7 : Nat)]] w fun e w' => e = .returned (.tuple #[.agg #[.int .u64 (dgl (R) 0 : Nat), .int .u64 (dgl (R) 1 : Nat), .int .u64 (dgl (R) 2 : Nat), .int .u64 (dgl (R) 3 : Nat), .int .u64 (dgl (R) 4 : Nat), .int .u64 (dgl (R) 5 : Nat), .int .u64 (dgl (R) 6 : Nat), .int .u64 (dgl (R) 7 : Nat)], .bool ov4]) ∧ Below w.heap.size w w')) (w : World) :
    Calls Try.prog 7 #[.agg #[.int .u64 (dgl (n) 0 : Nat), .int .u64 (dgl (n) 1 : Nat), .int .u64 (dgl (n) 2 : Nat), .int .u64 (dgl (n) 3 : Nat), .int .u64 (dgl (n) 4 : Nat), .int .u64 (dgl (n) 5 : Nat), .int .u64 (dgl (n) 6 : Nat), .int .u64 (dgl (n) 7 : Nat)]] w fun e w' => e = .returned (.tuple #[.agg #[.int .u64 (dgl (S) 0 : Nat), .int .u64 (dgl (S) 1 : Nat), .int .u64 (dgl (S) 2 : Nat), .int .u64 (dgl (S) 3 : Nat), .int .u64 (dgl (S) 4 : Nat), .int .u64 (dgl (S) 5 : Nat), .int .u64 (dgl (S) 6 : Nat), .int .u64 (dgl (S) 7 : Nat)], .agg #[.int .u64 (dgl (R) 0 : Nat), .int .u64 (dgl (R) 1 : Nat), .int .u64 (dgl (R) 2 : Nat), .int .u64 (dgl (R) 3 : Nat), .int .u64 (dgl (R) 4 : Nat), .int .u64 (dgl (R) 5 : Nat), .int .u64 (dgl (R) 6 : Nat), .int .u64 (dgl (R) 7 : Nat)], .int .i64 0]) ∧ Below w.heap.size w w' := by
  have HS := hide (rt_start n w 24 24 24)
  go_enter Try.func7, Try.ntmps7
  have hl := HS.out.1.1
  go_wp2_with fail
  refine (HNO.out _).mono ?_
  rintro e w2 ⟨rfl, hb2⟩
  replace HS := hide (show LiesF w2 w.heap.size (dgl n) ∧ R2St (w.heap.size + 1) (w.heap.size + 2) 0 0 w w2 from ⟨HS.out.1.below hb2, HS.out.2.below hb2⟩)
  clear hb2 hl HNO
  go_upto_region 2 with fail
  refine wp_gen (fun W => (LiesF W w.heap.size (dgl n) ∧ R2St (w.heap.size + 1) (w.heap.size + 2) 0 0 w W) ∧ LiesF W w2.heap.size (dgl X)) ⟨⟨HS.out.1.below (below_allocs _ _), HS.out.2.below (below_allocs _ _)⟩, liesF_new w2 (dgl X) _⟩ ?_
  clear HS
  generalize w2.heap.size = p5 at *
  rintro W4 h4
  have HS := hide h4.1
  have hl := h4.2.1
  clear h4
  go_wp2_with fail
  refine (HWK.out _).mono ?_
  rintro e w5 ⟨rfl, hb5⟩
  replace HS := hide (show LiesF w5 w.heap.size (dgl n) ∧ R2St (w.heap.size + 1) (w.heap.size + 2) 0 0 w w5 from ⟨HS.out.1.below hb5, HS.out.2.below hb5⟩)
  clear hb5 hl HWK
  have HP8 := hide HS.out.2.ly.2
  go_upto_region 5 with fail
  have hbw := below_trans (below_allocs w5 (.cells #[.int .u64 (dgl (x) 0 : Nat), .int .u64 (dgl (x) 1 : Nat), .int .u64 (dgl (x) 2 : Nat), .int .u64 (dgl (x) 3 : Nat), .int .u64 (dgl (x) 4 : Nat), .int .u64 (dgl (x) 5 : Nat), .int .u64 (dgl (x) 6 : Nat), .int .u64 (dgl (x) 7 : Nat)] 24)) (below_allocs _ (.cells #[.int .u64 (dgl (y) 0 : Nat), .int .u64 (dgl (y) 1 : Nat), .int .u64 (dgl (y) 2 : Nat), .int .u64 (dgl (y) 3 : Nat), .int .u64 (dgl (y) 4 : Nat), .int .u64 (dgl (y) 5 : Nat), .int .u64 (dgl (y) 6 : Nat), .int .u64 (dgl (y) 7 : Nat)] 24))
  refine wp_gen (fun W => (LiesF W w.heap.size (dgl n) ∧ R2St (w.heap.size + 1) (w.heap.size + 2) 0 0 w W ∧ LiesF W w5.heap.size (dgl x) ∧ ∀ i, W.frozen? ⟨w5.heap.size, i, none⟩ = false) ∧ LiesF W (w5.heap.size + 1) (dgl y)) ⟨⟨HS.out.1.below hbw, HS.out.2.below hbw, (liesF_new w5 (dgl x) _).alloc _, fun i => by simp [go_sem]⟩, by
    have h := liesF_new (w5.alloc (.cells #[.int .u64 (dgl (x) 0 : Nat), .int .u64 (dgl (x) 1 : Nat), .int .u64 (dgl (x) 2 : Nat), .int .u64 (dgl (x) 3 : Nat), .int .u64 (dgl (x) 4 : Nat), .int .u64 (dgl (x) 5 : Nat), .int .u64 (dgl (x) 6 : Nat), .int .u64 (dgl (x) 7 : Nat)] 24)) (dgl y) 24
    rwa [World.size_alloc] at h⟩ ?_
  clear HS hbw
  obtain ⟨p9, hp9⟩ : ∃ p9, w5.heap.size + 1 = p9 := ⟨_, rfl⟩
  rw [hp9]
  clear hp9
  generalize w5.heap.size = p8 at *
  rintro W5 h5
  have HS := hide h5.1
  have hl9 := h5.2.1
  clear h5
  go_wp2_with fail
  refine (HMI.out _).mono ?_
  rintro e w6 ⟨rfl, hb6⟩
  replace HS := hide (show LiesF w6 w.heap.size (dgl n) ∧ R2St (w.heap.size + 1) (w.heap.size + 2) 0 0 w w6 ∧ LiesF w6 p8 (dgl x) ∧ ∀ i, w6.frozen? ⟨p8, i, none⟩ = false from ⟨HS.out.1.below hb6, HS.out.2.1.below hb6, HS.out.2.2.1.below hb6, fun i => (hb6.frozen (p := ⟨p8, i, none⟩) HS.out.2.2.1.2).trans (HS.out.2.2.2 i)⟩)
  clear hb6 hl9 HMI
  have hl8 := HS.out.2.2.1.1
  go_wp2_with fail
  refine (HSR.out _).mono ?_
  rintro e w7 ⟨rfl, hb7⟩
  replace HS := hide (show LiesF w7 w.heap.size (dgl n) ∧ R2St (w.heap.size + 1) (w.heap.size + 2) 0 0 w w7 ∧ LiesF w7 p8 (dgl x) ∧ ∀ i, w7.frozen? ⟨p8, i, none⟩ = false from ⟨HS.out.1.below hb7, HS.out.2.1.below hb7, HS.out.2.2.1.below hb7, fun i => (hb7.frozen (p := ⟨p8, i, none⟩) HS.out.2.2.1.2).trans (HS.out.2.2.2 i)⟩)
  clear hb7 hl8 HSR
  have ha := HS.out.2.2.1.1
  have hal := HS.out.2.2.1.2
  have haf := HS.out.2.2.2
  have h8 := HP8.out
  go_upto_region 8 with fail
  refine wp_gen (fun V => LiesF V w.heap.size (dgl n) ∧ R2St (w.heap.size + 1) (w.heap.size + 2) 0 0 w V ∧ LiesF V p8 (dgl S) ∧ ∀ i, V.frozen? ⟨p8, i, none⟩ = false) ⟨lies_ne HS.out.1 (by omega), HS.out.2.1.under (below_set8 (Below.refl p8 w7) p8 (Nat.le_refl _) _ _ _ _ _ _ _ _) h8, set8_same w7 p8 (dgl S) (dgl x) HS.out.2.2.1, fun i => by simpa [go_sem] using haf i⟩ ?_
  clear HS ha hal haf
  rintro W8 h8'
  have HS := hide h8'
  have hl8 := h8'.2.2.1.1
  clear h8'
  go_wp2_with fail
  refine (HSQ.out _).mono ?_
  rintro e w9 ⟨rfl, hb9⟩
  replace HS := hide (show LiesF w9 w.heap.size (dgl n) ∧ R2St (w.heap.size + 1) (w.heap.size + 2) 0 0 w w9 ∧ LiesF w9 p8 (dgl S) ∧ ∀ i, w9.frozen? ⟨p8, i, none⟩ = false from ⟨HS.out.1.below hb9, HS.out.2.1.below hb9, HS.out.2.2.1.below hb9, fun i => (hb9.frozen (p := ⟨p8, i, none⟩) HS.out.2.2.1.2).trans (HS.out.2.2.2 i)⟩)
  clear hb9 hl8 HSQ
  go_upto_region 9 with fail
  refine wp_gen (fun V => (LiesF V w.heap.size (dgl n) ∧ R2St (w.heap.size + 1) (w.heap.size + 2) 0 0 w V ∧ LiesF V p8 (dgl S) ∧ ∀ i, V.frozen? ⟨p8, i, none⟩ = false) ∧ LiesF V w9.heap.size (dgl sq)) ⟨⟨HS.out.1.below (below_allocs w9 (.cells #[.int .u64 (dgl (sq) 0 : Nat), .int .u64 (dgl (sq) 1 : Nat), .int .u64 (dgl (sq) 2 : Nat), .int .u64 (dgl (sq) 3 : Nat), .int .u64 (dgl (sq) 4 : Nat), .int .u64 (dgl (sq) 5 : Nat), .int .u64 (dgl (sq) 6 : Nat), .int .u64 (dgl (sq) 7 : Nat)] 24)), HS.out.2.1.below (below_allocs w9 (.cells #[.int .u64 (dgl (sq) 0 : Nat), .int .u64 (dgl (sq) 1 : Nat), .int .u64 (dgl (sq) 2 : Nat), .int .u64 (dgl (sq) 3 : Nat), .int .u64 (dgl (sq) 4 : Nat), .int .u64 (dgl (sq) 5 : Nat), .int .u64 (dgl (sq) 6 : Nat), .int .u64 (dgl (sq) 7 : Nat)] 24)), HS.out.2.2.1.below (below_allocs w9 (.cells #[.int .u64 (dgl (sq) 0 : Nat), .int .u64 (dgl (sq) 1 : Nat), .int .u64 (dgl (sq) 2 : Nat), .int .u64 (dgl (sq) 3 : Nat), .int .u64 (dgl (sq) 4 : Nat), .int .u64 (dgl (sq) 5 : Nat), .int .u64 (dgl (sq) 6 : Nat), .int .u64 (dgl (sq) 7 : Nat)] 24)), fun i => ((below_allocs w9 (.cells #[.int .u64 (dgl (sq) 0 : Nat), .int .u64 (dgl (sq) 1 : Nat), .int .u64 (dgl (sq) 2 : Nat), .int .u64 (dgl (sq) 3 : Nat), .int .u64 (dgl (sq) 4 : Nat), .int .u64 (dgl (sq) 5 : Nat), .int .u64 (dgl (sq) 6 : Nat), .int .u64 (dgl (sq) 7 : Nat)] 24)).frozen (p := ⟨p8, i, none⟩) HS.out.2.2.1.2).trans (HS.out.2.2.2 i)⟩, liesF_new w9 (dgl sq) _⟩ ?_
  clear HS
  generalize w9.heap.size = p10 at *
  rintro W9 h9
  have HS := hide h9.1
  have hln := h9.1.1.1
  have hl10 := h9.2.1
  clear h9
  go_wp2_with fail
  refine (HSB.out _).mono ?_
  rintro e w10 ⟨rfl, hb10⟩
  replace HS := hide (show LiesF w10 w.heap.size (dgl n) ∧ R2St (w.heap.size + 1) (w.heap.size + 2) 0 0 w w10 ∧ LiesF w10 p8 (dgl S) ∧ ∀ i, w10.frozen? ⟨p8, i, none⟩ = false from ⟨HS.out.1.below hb10, HS.out.2.1.below hb10, HS.out.2.2.1.below hb10, fun i => (hb10.frozen (p := ⟨p8, i, none⟩) HS.out.2.2.1.2).trans (HS.out.2.2.2 i)⟩)
  clear hb10 hln hl10 HSB
  go_upto_region 10 with fail
  refine wp_gen (fun V => R2St (w.heap.size + 1) (w.heap.size + 2) 0 0 w V ∧ LiesF V p8 (dgl S) ∧ LiesF V w10.heap.size (dgl R)) ⟨HS.out.2.1.below (below_allocs _ _), HS.out.2.2.1.below (below_allocs _ _), liesF_new w10 (dgl R) _⟩ ?_
  have HNE := hide (show w.heap.size + 2 < p8 ∧ w.heap.size + 2 < w10.heap.size from ⟨HP8.out, HS.out.2.1.ly.2⟩)
  clear HS
  generalize w10.heap.size = p12 at *
  rintro W10 h10'
  have HS6 := hide h10'
  clear h10'
  refine wp_region_storeK 5 [2, 3] [58, 59, 4] (fun bs => [(58, .val (.agg #[.int .u64 (dgl (S) 0 : Nat), .int .u64 (dgl (S) 1 : Nat), .int .u64 (dgl (S) 2 : Nat), .int .u64 (dgl (S) 3 : Nat), .int .u64 (dgl (S) 4 : Nat), .int .u64 (dgl (S) 5 : Nat), .int .u64 (dgl (S) 6 : Nat), .int .u64 (dgl (S) 7 : Nat)])), (59, .val (.agg #[.int .u64 (dgl (R) 0 : Nat), .int .u64 (dgl (R) 1 : Nat), .int .u64 (dgl (R) 2 : Nat), .int .u64 (dgl (R) 3 : Nat), .int .u64 (dgl (R) 4 : Nat), .int .u64 (dgl (R) 5 : Nat), .int .u64 (dgl (R) 6 : Nat), .int .u64 (dgl (R) 7 : Nat)])), (4, .val (.int .i64 0))])
    (fun bs W => (∀ c e, bs.headD false = c → bs.tail.headD false = e → R2St (w.heap.size + 1) (w.heap.size + 2) (bif c then S else 0) (bif e then R else 0) w W) ∧ LiesF W p8 (dgl (S)) ∧ LiesF W p12 (dgl (R))) (fun bs => rfl) mixedOk (by kernel_rfl) (by kernel_rfl) (by kernel_rfl) (⟨fun c e hc he => by subst hc; subst he; exact (HS6.out).1.below (Below.refl _ _).drew, (HS6.out).2.1.below (Below.refl _ _).drew, (HS6.out).2.2.below (Below.refl _ _).drew⟩) (fun bs W W' h hb => ⟨fun c e hc he => (h.1 c e hc he).below hb, h.2.1.below hb, h.2.2.below hb⟩) ?_ ?_
  · refine kSt rfl (fun φ hφ => gStep_run rfl ?_) ?_
    · intro ρ W hC hc hf hL
      have e8 : ρ (.tmp 8) = .pointer (some ⟨p8, 0, none⟩) := hL 8 (by decide +kernel)
      have hl := hC.2.1.1
      simp [go_sem, hc, hf, e8, hl]
      exact ⟨Below.refl _ _, rfl⟩
    refine kSt rfl (fun φ hφ => gStep_run rfl ?_) ?_
    · intro ρ W hC hc hf hL
      have e12 : ρ (.tmp 12) = .pointer (some ⟨p12, 0, none⟩) := hL 12 (by decide +kernel)
      have hl := hC.2.2.1
      simp [go_sem, hc, hf, e12, hl]
      exact ⟨Below.refl _ _, rfl⟩
    refine kStS rfl ⟨rfl, rfl, ?_⟩ ?_
    · intro φ ρ W hφ hC hc hL
      have e2 : ρ (.tmp 2) = .pointer (some ⟨w.heap.size + 1, 0, none⟩) := hL 2 (by decide +kernel)
      have e58 : ρ (.tmp 58) = .agg #[.int .u64 (dgl (S) 0 : Nat), .int .u64 (dgl (S) 1 : Nat), .int .u64 (dgl (S) 2 : Nat), .int .u64 (dgl (S) 3 : Nat), .int .u64 (dgl (S) 4 : Nat), .int .u64 (dgl (S) 5 : Nat), .int .u64 (dgl (S) 6 : Nat), .int .u64 (dgl (S) 7 : Nat)] := hL 58 (by decide +kernel)
      have g : R2St (w.heap.size + 1) (w.heap.size + 2) 0 (bif φ 3 then R else 0) w W := hC.1 false (φ 3) (by simp [hφ]) rfl
      have hz := g.lx.1
      have hzl := g.lx.2
      have hzf := g.fx
      have hne := HNE.out
      refine gUpon_of ((((((((W.setCell ⟨w.heap.size + 1, 0, none⟩ (.int .u64 (dgl (S) 0 : Nat))).setCell ⟨w.heap.size + 1, 1, none⟩ (.int .u64 (dgl (S) 1 : Nat))).setCell ⟨w.heap.size + 1, 2, none⟩ (.int .u64 (dgl (S) 2 : Nat))).setCell ⟨w.heap.size + 1, 3, none⟩ (.int .u64 (dgl (S) 3 : Nat))).setCell ⟨w.heap.size + 1, 4, none⟩ (.int .u64 (dgl (S) 4 : Nat))).setCell ⟨w.heap.size + 1, 5, none⟩ (.int .u64 (dgl (S) 5 : Nat))).setCell ⟨w.heap.size + 1, 6, none⟩ (.int .u64 (dgl (S) 6 : Nat))).setCell ⟨w.heap.size + 1, 7, none⟩ (.int .u64 (dgl (S) 7 : Nat))) ?_ (fun _ => ?_)
      · simp [go_sem, hc, e2, e58, hz, hzl, hzf, gUpon]
      refine ⟨⟨fun c e hc he => ?_, lies_ne hC.2.1 (by omega), lies_ne hC.2.2 (by omega)⟩, fun t => ?_⟩
      · have hc1 : c = true := by rw [← hc]; simp
        have he1 : e = (φ 3) := by rw [← he]; simp
        subst hc1
        subst he1
        exact g.set1 _
      refine (tbl_imp rfl (fun _ => val_imp) (tbl_imp rfl (fun _ => val_imp) (tbl_imp rfl (fun _ => val_imp) tbl_nil_imp)))
    refine kStS rfl ⟨rfl, rfl, ?_⟩ ?_
    · intro φ ρ W hφ hC hc hL
      have e3 : ρ (.tmp 3) = .pointer (some ⟨w.heap.size + 2, 0, none⟩) := hL 3 (by decide +kernel)
      have e59 : ρ (.tmp 59) = .agg #[.int .u64 (dgl (R) 0 : Nat), .int .u64 (dgl (R) 1 : Nat), .int .u64 (dgl (R) 2 : Nat), .int .u64 (dgl (R) 3 : Nat), .int .u64 (dgl (R) 4 : Nat), .int .u64 (dgl (R) 5 : Nat), .int .u64 (dgl (R) 6 : Nat), .int .u64 (dgl (R) 7 : Nat)] := hL 59 (by decide +kernel)
      have g : R2St (w.heap.size + 1) (w.heap.size + 2) (bif φ 2 then S else 0) 0 w W := hC.1 (φ 2) false rfl (by simp [hφ])
      have hz := g.ly.1
      have hzl := g.ly.2
      have hzf := g.fy
      have hne := HNE.out
      refine gUpon_of ((((((((W.setCell ⟨w.heap.size + 2, 0, none⟩ (.int .u64 (dgl (R) 0 : Nat))).setCell ⟨w.heap.size + 2, 1, none⟩ (.int .u64 (dgl (R) 1 : Nat))).setCell ⟨w.heap.size + 2, 2, none⟩ (.int .u64 (dgl (R) 2 : Nat))).setCell ⟨w.heap.size + 2, 3, none⟩ (.int .u64 (dgl (R) 3 : Nat))).setCell ⟨w.heap.size + 2, 4, none⟩ (.int .u64 (dgl (R) 4 : Nat))).setCell ⟨w.heap.size + 2, 5, none⟩ (.int .u64 (dgl (R) 5 : Nat))).setCell ⟨w.heap.size + 2, 6, none⟩ (.int .u64 (dgl (R) 6 : Nat))).setCell ⟨w.heap.size + 2, 7, none⟩ (.int .u64 (dgl (R) 7 : Nat))) ?_ (fun _ => ?_)
      · simp [go_sem, hc, e3, e59, hz, hzl, hzf, gUpon]
      refine ⟨⟨fun c e hc he => ?_, lies_ne hC.2.1 (by omega), lies_ne hC.2.2 (by omega)⟩, fun t => ?_⟩
      · have hc1 : c = (φ 2) := by rw [← hc]; simp
        have he1 : e = true := by rw [← he]; simp
        subst hc1
        subst he1
        exact g.set2 _
      refine (tbl_imp rfl (fun _ => val_imp) (tbl_imp rfl (fun _ => val_imp) (tbl_imp rfl (fun _ => val_imp) tbl_nil_imp)))
    refine kSt rfl (fun φ hφ => gStep_run rfl (gRun_const _ 4 (.inr rfl) rfl (fun w => rfl))) ?_
    exact kSt0
  · intro W hC
    refine gFi 58 rfl ?_
    rintro _ rfl
    refine gFi 59 rfl ?_
    rintro _ rfl
    refine gFiN rfl ?_
    refine gFiN rfl ?_
    refine gFi 4 rfl ?_
    rintro _ rfl
    refine gFi0 ?_
    simp only [List.drop_succ_cons, List.drop_zero, Act.put, List.setIfInBounds_toArray, List.set_cons_succ, List.set_cons_zero]
    have HS := hide (hC.1 true true rfl rfl)
    clear hC
    have hr1 := HS.out.lx.1
    have hrl1 := HS.out.lx.2
    have hrf1 := HS.out.fx
    have hr2 := HS.out.ly.1
    have hrl2 := HS.out.ly.2
    have hrf2 := HS.out.fy
    have HBE := hide HS.out.bel
    have HO1 := hide HS.out.o1
    have HO2 := hide HS.out.o2
    clear HS
    go_wp2
    exact bodyPost_ret (v := .tuple #[.agg #[.int .u64 (dgl (S) 0 : Nat), .int .u64 (dgl (S) 1 : Nat), .int .u64 (dgl (S) 2 : Nat), .int .u64 (dgl (S) 3 : Nat), .int .u64 (dgl (S) 4 : Nat), .int .u64 (dgl (S) 5 : Nat), .int .u64 (dgl (S) 6 : Nat), .int .u64 (dgl (S) 7 : Nat)], .agg #[.int .u64 (dgl (R) 0 : Nat), .int .u64 (dgl (R) 1 : Nat), .int .u64 (dgl (R) 2 : Nat), .int .u64 (dgl (R) 3 : Nat), .int .u64 (dgl (R) 4 : Nat), .int .u64 (dgl (R) 5 : Nat), .int .u64 (dgl (R) 6 : Nat), .int .u64 (dgl (R) 7 : Nat)], .int .i64 0]) (by simp [results, Try.results7, go_sem, hr1, hrl1, hr2, hrl2]) rfl ⟨rfl, HBE.out⟩
  

set_option maxHeartbeats 8000000 in
theorem rootB_M (n X x x1 y S sq R b m : Nat) (ov1 : Bool) (ov2 ov3 ov4 : Bool) (hbm : (b : Int).tdiv 2 = (m : Int)) (hm : m ≤ 128) (hb : b ≤ 256) (HNO : Hid (∀ w, Calls Try.prog 15 #[.agg #[.int .u64 (dgl (n) 0 : Nat), .int .u64 (dgl (n) 1 : Nat), .int .u64 (dgl (n) 2 : Nat), .int .u64 (dgl (n) 3 : Nat), .int .u64 (dgl (n) 4 : Nat), .int .u64 (dgl (n) 5 : Nat), .int .u64 (dgl (n) 6 : Nat), .int .u64 (dgl (n) 7 : Nat)]] w fun e w' => e = .returned (.tuple #[.agg #[.int .u64 (dgl (X) 0 : Nat), .int .u64 (dgl (X) 1 : Nat), .int .u64 (dgl (X) 2 : Nat), .int .u64 (dgl (X) 3 : Nat), .int .u64 (dgl (X) 4 : Nat), .int .u64 (dgl (X) 5 : Nat), .int .u64 (dgl (X) 6 : Nat), .int .u64 (dgl (X) 7 : Nat)], .int .i64 (b : Nat), .bool true]) ∧ Below w.heap.size w w'))
    (HWK : Hid (∀ w, Calls Try.prog 26 #[.agg #[.int .u64 (dgl (X) 0 : Nat), .int .u64 (dgl (X) 1 : Nat), .int .u64 (dgl (X) 2 : Nat), .int .u64 (dgl (X) 3 : Nat), .int .u64 (dgl (X) 4 : Nat), .int .u64 (dgl (X) 5 : Nat), .int .u64 (dgl (X) 6 : Nat), .int .u64 (dgl (X) 7 : Nat)], .int .i64 64, .func (.func 27) #[] #[]] w fun e w' => e = .returned (.tuple #[.agg #[.int .u64 (dgl (x) 0 : Nat), .int .u64 (dgl (x) 1 : Nat), .int .u64 (dgl (x) 2 : Nat), .int .u64 (dgl (x) 3 : Nat), .int .u64 (dgl (x) 4 : Nat), .int .u64 (dgl (x) 5 : Nat), .int .u64 (dgl (x) 6 : Nat), .int .u64 (dgl (x) 7 : Nat)], .agg #[.int .u64 (dgl (y) 0 : Nat), .int .u64 (dgl (y) 1 : Nat), .int .u64 (dgl (y) 2 : Nat), .int .u64 (dgl (y) 3 : Nat), .int .u64 (dgl (y) 4 : Nat), .int .u64 (dgl (y) 5 : Nat), .int .u64 (dgl (y) 6 : Nat), .int .u64 (dgl (y) 7 : Nat)]]) ∧ Below w.heap.size w w'))
    (HMI : Hid (∀ w, Calls Try.prog 28 #[.agg #[.int .u64 (dgl (y) 0 : Nat), .int .u64 (dgl (y) 1 : Nat), .int .u64 (dgl (y) 2 : Nat), .int .u64 (dgl (y) 3 : Nat), .int .u64 (dgl (y) 4 : Nat), .int .u64 (dgl (y) 5 : Nat), .int .u64 (dgl (y) 6 : Nat), .int .u64 (dgl (y) 7 : Nat)]] w fun e w' => e = .returned (.bool true) ∧ Below w.heap.size w w'))
    (HOF : Hid (∀ v w, Rd mk64 w v [1] → Calls Try.prog 30 #[v] w fun e w' => e = .returned (.agg #[.int .u64 (dgl (1) 0 : Nat), .int .u64 (dgl (1) 1 : Nat), .int .u64 (dgl (1) 2 : Nat), .int .u64 (dgl (1) 3 : Nat), .int .u64 (dgl (1) 4 : Nat), .int .u64 (dgl (1) 5 : Nat), .int .u64 (dgl (1) 6 : Nat), .int .u64 (dgl (1) 7 : Nat)]) ∧ Below w.heap.size w w'))
    (HS1 : Hid (∀ w, Calls Try.prog 29 #[.agg #[.int .u64 (dgl (x) 0 : Nat), .int .u64 (dgl (x) 1 : Nat), .int .u64 (dgl (x) 2 : Nat), .int .u64 (dgl (x) 3 : Nat), .int .u64 (dgl (x) 4 : Nat), .int .u64 (dgl (x) 5 : Nat), .int .u64 (dgl (x) 6 : Nat), .int .u64 (dgl (x) 7 : Nat)], .agg #[.int .u64 (dgl (1) 0 : Nat), .int .u64 (dgl (1) 1 : Nat), .int .u64 (dgl (1) 2 : Nat), .int .u64 (dgl (1) 3 : Nat), .int .u64 (dgl (1) 4 : Nat), .int .u64 (dgl (1) 5 : Nat), .int .u64 (dgl (1) 6 : Nat), .int .u64 (dgl (1) 7 : Nat)]] w fun e w' => e = .returned (.tuple #[.agg #[.int .u64 (dgl (x1) 0 : Nat), .int .u64 (dgl (x1) 1 : Nat), .int .u64 (dgl (x1) 2 : Nat), .int .u64 (dgl (x1) 3 : Nat), .int .u64 (dgl (x1) 4 : Nat), .int .u64 (dgl (x1) 5 : Nat), .int .u64 (dgl (x1) 6 : Nat), .int .u64 (dgl (x1) 7 : Nat)], .bool ov1]) ∧ Below w.heap.size w w'))
    (HSR : Hid (∀ w, Calls Try.prog 31 #[.agg #[.int .u64 (dgl (x1) 0 : Nat), .int .u64 (dgl (x1) 1 : Nat), .int .u64 (dgl (x1) 2 : Nat), .int .u64 (dgl (x1) 3 : Nat), .int .u64 (dgl (x1) 4 : Nat), .int .u64 (dgl (x1) 5 : Nat), .int .u64 (dgl (x1) 6 : Nat), .int .u64 (dgl (x1) 7 : Nat)], .int .i64 (m : Nat)] w fun e w' => e = .returned (.tuple #[.agg #[.int .u64 (dgl (S) 0 : Nat), .int .u64 (dgl (S) 1 : Nat), .int .u64 (dgl (S) 2 : Nat), .int .u64 (dgl (S) 3 : Nat), .int .u64 (dgl (S) 4 : Nat), .int .u64 (dgl (S) 5 : Nat), .int .u64 (dgl (S) 6 : Nat), .int .u64 (dgl (S) 7 : Nat)], .bool ov2]) ∧ Below w.heap.size w w'))
    (HSQ : Hid (∀ w, Calls Try.prog 32 #[.agg #[.int .u64 (dgl (S) 0 : Nat), .int .u64 (dgl (S) 1 : Nat), .int .u64 (dgl (S) 2 : Nat), .int .u64 (dgl (S) 3 : Nat), .int .u64 (dgl (S) 4 : Nat), .int .u64 (dgl (S) 5 : Nat), .int .u64 (dgl (S) 6 : Nat), .int .u64 (dgl (S) 7 : Nat)]] w fun e w' => e = .returned (.tuple #[.agg #[.int .u64 (dgl (sq) 0 : Nat), .int .u64 (dgl (sq) 1 : Nat), .int .u64 (dgl (sq) 2 : Nat), .int .u64 (dgl (sq) 3 : Nat), .int .u64 (dgl (sq) 4 : Nat), .int .u64 (dgl (sq) 5 : Nat), .int .u64 (dgl (sq) 6 : Nat), .int .u64 (dgl (sq) 7 : Nat)], .bool ov3]) ∧ Below w.heap.size w w'))
    (HSB : Hid (∀ w, Calls Try.prog 29 #[.agg #[.int .u64 (dgl (n) 0 : Nat), .int .u64 (dgl (n) 1 : Nat), .int .u64 (dgl (n) 2 : Nat), .int .u64 (dgl (n) 3 : Nat), .int .u64 (dgl (n) 4 : Nat), .int .u64 (dgl (n) 5 : Nat), .int .u64 (dgl (n) 6 : Nat), .int .u64 (dgl (n) 7 : Nat)], .agg #[.int .u64 (dgl (sq) 0 : Nat), .int .u64 (dgl (sq) 1 : Nat), .int .u64 (dgl (sq) 2 : Nat), .int .u64 (dgl (sq) 3 : Nat), .int .u64 (dgl (sq) 4 : Nat), .int .u64 (dgl (sq) 5 : Nat), .int .u64 (dgl (sq) 6 : Nat), .int .u64 (dgl (sq) 7 : Nat)]] w fun e w' => e = .returned (.tuple #[.agg #[.int .u64 (dgl (R) 0 : Nat), .int .u64 (dgl (R) 1 : Nat), .int .u64 (dgl (R) 2 : Nat), .int .u64 (dgl (R) 3 : Nat), .int .u64 (dgl (R) 4 : Nat), .int .u64 (dgl (R) 5 : Nat), .int .u64 (dgl (R) 6 : Nat), .int .u64 (dgl (R) 7 : Nat)], .bool ov4]) ∧ Below w.heap.size w w')) (w : World) :
    Calls Try.prog 7 #[.agg #[.int .u64 (dgl (n) 0 : Nat), .int .u64 (dgl (n) 1 : Nat), .int .u64 (dgl (n) 2 : Nat), .int .u64 (dgl (n) 3 : Nat), .int .u64 (dgl (n) 4 : Nat), .int .u64 (dgl (n) 5 : Nat), .int .u64 (dgl (n) 6 : Nat), .int .u64 (dgl (n) 7 : Nat)]] w fun e w' => e = .returned (.tuple #[.agg #[.int .u64 (dgl (S) 0 : Nat), .int .u64 (dgl (S) 1 : Nat), .int .u64 (dgl (S) 2 : Nat), .int .u64 (dgl (S) 3 : Nat), .int .u64 (dgl (S) 4 : Nat), .int .u64 (dgl (S) 5 : Nat), .int .u64 (dgl (S) 6 : Nat), .int .u64 (dgl (S) 7 : Nat)], .agg #[.int .u64 (dgl (R) 0 : Nat), .int .u64 (dgl (R) 1 : Nat), .int .u64 (dgl (R) 2 : Nat), .int .u64 (dgl (R) 3 : Nat), .int .u64 (dgl (R) 4 : Nat), .int .u64 (dgl (R) 5 : Nat), .int .u64 (dgl (R) 6 : Nat), .int .u64 (dgl (R) 7 : Nat)], .int .i64 0]) ∧ Below w.heap.size w w' := by
  have HS := hide (rt_start n w 24 24 24)
  go_enter Try.func7, Try.ntmps7
  have hl := HS.out.1.1
  go_wp2_with fail
  refine (HNO.out _).mono ?_
  rintro e w2 ⟨rfl, hb2⟩
  replace HS := hide (show LiesF w2 w.heap.size (dgl n) ∧ R2St (w.heap.size + 1) (w.heap.size + 2) 0 0 w w2 from ⟨HS.out.1.below hb2, HS.out.2.below hb2⟩)
  clear hb2 hl HNO
  go_upto_region 2 with fail
  refine wp_gen (fun W => (LiesF W w.heap.size (dgl n) ∧ R2St (w.heap.size + 1) (w.heap.size + 2) 0 0 w W) ∧ LiesF W w2.heap.size (dgl X)) ⟨⟨HS.out.1.below (below_allocs _ _), HS.out.2.below (below_allocs _ _)⟩, liesF_new w2 (dgl X) _⟩ ?_
  clear HS
  generalize w2.heap.size = p5 at *
  rintro W4 h4
  have HS := hide h4.1
  have hl := h4.2.1
  clear h4
  go_wp2_with fail
  refine (HWK.out _).mono ?_
  rintro e w5 ⟨rfl, hb5⟩
  replace HS := hide (show LiesF w5 w.heap.size (dgl n) ∧ R2St (w.heap.size + 1) (w.heap.size + 2) 0 0 w w5 from ⟨HS.out.1.below hb5, HS.out.2.below hb5⟩)
  clear hb5 hl HWK
  have HP8 := hide HS.out.2.ly.2
  go_upto_region 5 with fail
  have hbw := below_trans (below_allocs w5 (.cells #[.int .u64 (dgl (x) 0 : Nat), .int .u64 (dgl (x) 1 : Nat), .int .u64 (dgl (x) 2 : Nat), .int .u64 (dgl (x) 3 : Nat), .int .u64 (dgl (x) 4 : Nat), .int .u64 (dgl (x) 5 : Nat), .int .u64 (dgl (x) 6 : Nat), .int .u64 (dgl (x) 7 : Nat)] 24)) (below_allocs _ (.cells #[.int .u64 (dgl (y) 0 : Nat), .int .u64 (dgl (y) 1 : Nat), .int .u64 (dgl (y) 2 : Nat), .int .u64 (dgl (y) 3 : Nat), .int .u64 (dgl (y) 4 : Nat), .int .u64 (dgl (y) 5 : Nat), .int .u64 (dgl (y) 6 : Nat), .int .u64 (dgl (y) 7 : Nat)] 24))
  refine wp_gen (fun W => (LiesF W w.heap.size (dgl n) ∧ R2St (w.heap.size + 1) (w.heap.size + 2) 0 0 w W ∧ LiesF W w5.heap.size (dgl x) ∧ ∀ i, W.frozen? ⟨w5.heap.size, i, none⟩ = false) ∧ LiesF W (w5.heap.size + 1) (dgl y)) ⟨⟨HS.out.1.below hbw, HS.out.2.below hbw, (liesF_new w5 (dgl x) _).alloc _, fun i => by simp [go_sem]⟩, by
    have h := liesF_new (w5.alloc (.cells #[.int .u64 (dgl (x) 0 : Nat), .int .u64 (dgl (x) 1 : Nat), .int .u64 (dgl (x) 2 : Nat), .int .u64 (dgl (x) 3 : Nat), .int .u64 (dgl (x) 4 : Nat), .int .u64 (dgl (x) 5 : Nat), .int .u64 (dgl (x) 6 : Nat), .int .u64 (dgl (x) 7 : Nat)] 24)) (dgl y) 24
    rwa [World.size_alloc] at h⟩ ?_
  clear HS hbw
  obtain ⟨p9, hp9⟩ : ∃ p9, w5.heap.size + 1 = p9 := ⟨_, rfl⟩
  rw [hp9]
  clear hp9
  generalize w5.heap.size = p8 at *
  rintro W5 h5
  have HS := hide h5.1
  have hl9 := h5.2.1
  clear h5
  go_wp2_with fail
  refine (HMI.out _).mono ?_
  rintro e w6 ⟨rfl, hb6⟩
  replace HS := hide (show LiesF w6 w.heap.size (dgl n) ∧ R2St (w.heap.size + 1) (w.heap.size + 2) 0 0 w w6 ∧ LiesF w6 p8 (dgl x) ∧ ∀ i, w6.frozen? ⟨p8, i, none⟩ = false from ⟨HS.out.1.below hb6, HS.out.2.1.below hb6, HS.out.2.2.1.below hb6, fun i => (hb6.frozen (p := ⟨p8, i, none⟩) HS.out.2.2.1.2).trans (HS.out.2.2.2 i)⟩)
  clear hb6 hl9 HMI
  have hupx : ∀ {V V' : World}, Below V.heap.size V V' → (LiesF V w.heap.size (dgl n) ∧ R2St (w.heap.size + 1) (w.heap.size + 2) 0 0 w V ∧ LiesF V p8 (dgl x) ∧ ∀ i, V.frozen? ⟨p8, i, none⟩ = false) → (LiesF V' w.heap.size (dgl n) ∧ R2St (w.heap.size + 1) (w.heap.size + 2) 0 0 w V' ∧ LiesF V' p8 (dgl x) ∧ ∀ i, V'.frozen? ⟨p8, i, none⟩ = false) := fun hb h => ⟨h.1.below hb, h.2.1.below hb, h.2.2.1.below hb, fun i => (hb.frozen (p := ⟨p8, i, none⟩) h.2.2.1.2).trans (h.2.2.2 i)⟩
  have hupc : ∀ {V V' : World} {q : Nat}, Below V.heap.size V V' → (LiesF V w.heap.size (dgl n) ∧ R2St (w.heap.size + 1) (w.heap.size + 2) 0 0 w V ∧ LiesF V p8 (dgl q) ∧ ∀ i, V.frozen? ⟨p8, i, none⟩ = false) → (LiesF V' w.heap.size (dgl n) ∧ R2St (w.heap.size + 1) (w.heap.size + 2) 0 0 w V' ∧ LiesF V' p8 (dgl q) ∧ ∀ i, V'.frozen? ⟨p8, i, none⟩ = false) := fun hb h => ⟨h.1.below hb, h.2.1.below hb, h.2.2.1.below hb, fun i => (hb.frozen (p := ⟨p8, i, none⟩) h.2.2.1.2).trans (h.2.2.2 i)⟩
  go_upto_region 6 with fail
  refine wp_region_storeK 8 [7] [34, 35, 36, 37, 33, 38, 39] (fun bs => [(34, .val (.agg #[.int .u64 (dgl (x) 0 : Nat), .int .u64 (dgl (x) 1 : Nat), .int .u64 (dgl (x) 2 : Nat), .int .u64 (dgl (x) 3 : Nat), .int .u64 (dgl (x) 4 : Nat), .int .u64 (dgl (x) 5 : Nat), .int .u64 (dgl (x) 6 : Nat), .int .u64 (dgl (x) 7 : Nat)])), (35, bif bs.headD false then SlotIs.any  else SlotIs.rd [1]), (36, .val (.agg #[.int .u64 (dgl (1) 0 : Nat), .int .u64 (dgl (1) 1 : Nat), .int .u64 (dgl (1) 2 : Nat), .int .u64 (dgl (1) 3 : Nat), .int .u64 (dgl (1) 4 : Nat), .int .u64 (dgl (1) 5 : Nat), .int .u64 (dgl (1) 6 : Nat), .int .u64 (dgl (1) 7 : Nat)])), (37, .val (.tuple #[.agg #[.int .u64 (dgl (x1) 0 : Nat), .int .u64 (dgl (x1) 1 : Nat), .int .u64 (dgl (x1) 2 : Nat), .int .u64 (dgl (x1) 3 : Nat), .int .u64 (dgl (x1) 4 : Nat), .int .u64 (dgl (x1) 5 : Nat), .int .u64 (dgl (x1) 6 : Nat), .int .u64 (dgl (x1) 7 : Nat)], .bool ov1])), (33, .val (.tuple #[.agg #[.int .u64 (dgl (x1) 0 : Nat), .int .u64 (dgl (x1) 1 : Nat), .int .u64 (dgl (x1) 2 : Nat), .int .u64 (dgl (x1) 3 : Nat), .int .u64 (dgl (x1) 4 : Nat), .int .u64 (dgl (x1) 5 : Nat), .int .u64 (dgl (x1) 6 : Nat), .int .u64 (dgl (x1) 7 : Nat)], .bool ov1])), (38, .val (.agg #[.int .u64 (dgl (x1) 0 : Nat), .int .u64 (dgl (x1) 1 : Nat), .int .u64 (dgl (x1) 2 : Nat), .int .u64 (dgl (x1) 3 : Nat), .int .u64 (dgl (x1) 4 : Nat), .int .u64 (dgl (x1) 5 : Nat), .int .u64 (dgl (x1) 6 : Nat), .int .u64 (dgl (x1) 7 : Nat)])), (39, .val (.bool ov1))])
    (fun bs W => ∀ c, bs.headD false = c → LiesF W w.heap.size (dgl n) ∧ R2St (w.heap.size + 1) (w.heap.size + 2) 0 0 w W ∧ LiesF W p8 (dgl (bif c then x1 else x)) ∧ ∀ i, W.frozen? ⟨p8, i, none⟩ = false) (fun bs => rfl) mixedOk (by kernel_rfl) (by kernel_rfl) (by kernel_rfl) (fun c hc => by subst hc; exact hupx (Below.refl _ _).drew HS.out) (fun bs W W' h hb c hc => hupc hb (h c hc)) ?_ ?_
  · refine kSt rfl (fun φ hφ => gStep_run rfl ?_) ?_
    · intro ρ W hC hc hf hL
      have e8 : ρ (.tmp 8) = .pointer (some ⟨p8, 0, none⟩) := hL 8 (by decide +kernel)
      have hφw : φ 7 = false := hφ 7 (by simp) (by kernel_rfl)
      have hl := (hC false (by simp [hφw])).2.2.1.1
      simp [go_sem, hc, hf, e8, hl]
      exact ⟨Below.refl _ _, rfl⟩
    refine kSt rfl (fun φ hφ => gStep_run rfl ?_) ?_
    · intro ρ W hC hc hf hL
      have hφ0 : φ 7 = false := hφ 7 (by simp) (by kernel_rfl)
      simp [go_sem, hc, hf]
      refine ⟨below_allocs _ _, ?_⟩
      show (bif φ 7 then SlotIs.any else SlotIs.rd [1]).R _ _
      rw [hφ0]
      exact Rd.lit (mk := mk64) W 22 [.int .u64 1] [1] rfl 1 (Nat.le_refl 1) (by decide)
    refine kSt rfl (fun φ hφ => gStep_run rfl ?_) ?_
    · intro ρ W hC hc hf hL
      have hφ0 : φ 7 = false := hφ 7 (by simp) (by kernel_rfl)
      have b35 : (bif φ 7 then SlotIs.any  else SlotIs.rd [1]).R (ρ (.tmp 35)) W := hL 35 (by decide +kernel)
      rw [hφ0] at b35
      simp [go_sem, hc, hf]
      refine (HOF.out _ _ b35).mono ?_
      rintro e w' ⟨rfl, hb⟩
      exact ⟨_, rfl, by first | exact hb | (subst hb; exact Below.refl _ _), rfl⟩
    refine kSt rfl (fun φ hφ => gStep_run rfl ?_) ?_
    · intro ρ W hC hc hf hL
      have e34 : ρ (.tmp 34) = .agg #[.int .u64 (dgl (x) 0 : Nat), .int .u64 (dgl (x) 1 : Nat), .int .u64 (dgl (x) 2 : Nat), .int .u64 (dgl (x) 3 : Nat), .int .u64 (dgl (x) 4 : Nat), .int .u64 (dgl (x) 5 : Nat), .int .u64 (dgl (x) 6 : Nat), .int .u64 (dgl (x) 7 : Nat)] := hL 34 (by decide +kernel)
      have e36 : ρ (.tmp 36) = .agg #[.int .u64 (dgl (1) 0 : Nat), .int .u64 (dgl (1) 1 : Nat), .int .u64 (dgl (1) 2 : Nat), .int .u64 (dgl (1) 3 : Nat), .int .u64 (dgl (1) 4 : Nat), .int .u64 (dgl (1) 5 : Nat), .int .u64 (dgl (1) 6 : Nat), .int .u64 (dgl (1) 7 : Nat)] := hL 36 (by decide +kernel)
      simp [go_sem, hc, hf, e34, e36]
      refine (HS1.out W).mono ?_
      rintro e w' ⟨rfl, hb⟩
      exact ⟨_, rfl, by first | exact hb | (subst hb; exact Below.refl _ _), rfl⟩
    refine kSt rfl (fun φ hφ => gStep_run rfl (gRun_move 37 33 (.inl rfl) rfl (by decide +kernel) (fun v w h => h))) ?_
    refine kSt rfl (fun φ hφ => gStep_run rfl ?_) ?_
    · intro ρ W hC hc hf hL
      have e33 : ρ (.tmp 33) = .tuple #[.agg #[.int .u64 (dgl (x1) 0 : Nat), .int .u64 (dgl (x1) 1 : Nat), .int .u64 (dgl (x1) 2 : Nat), .int .u64 (dgl (x1) 3 : Nat), .int .u64 (dgl (x1) 4 : Nat), .int .u64 (dgl (x1) 5 : Nat), .int .u64 (dgl (x1) 6 : Nat), .int .u64 (dgl (x1) 7 : Nat)], .bool ov1] := hL 33 (by decide +kernel)
      simp [go_sem, hc, hf, e33]
      exact ⟨Below.refl _ _, rfl⟩
    refine kSt rfl (fun φ hφ => gStep_run rfl ?_) ?_
    · intro ρ W hC hc hf hL
      have e33 : ρ (.tmp 33) = .tuple #[.agg #[.int .u64 (dgl (x1) 0 : Nat), .int .u64 (dgl (x1) 1 : Nat), .int .u64 (dgl (x1) 2 : Nat), .int .u64 (dgl (x1) 3 : Nat), .int .u64 (dgl (x1) 4 : Nat), .int .u64 (dgl (x1) 5 : Nat), .int .u64 (dgl (x1) 6 : Nat), .int .u64 (dgl (x1) 7 : Nat)], .bool ov1] := hL 33 (by decide +kernel)
      simp [go_sem, hc, hf, e33]
      exact ⟨Below.refl _ _, rfl⟩
    refine kStS rfl ⟨rfl, rfl, ?_⟩ ?_
    · intro φ ρ W hφ hC hc hL
      have e8 : ρ (.tmp 8) = .pointer (some ⟨p8, 0, none⟩) := hL 8 (by decide +kernel)
      have e38 : ρ (.tmp 38) = .agg #[.int .u64 (dgl (x1) 0 : Nat), .int .u64 (dgl (x1) 1 : Nat), .int .u64 (dgl (x1) 2 : Nat), .int .u64 (dgl (x1) 3 : Nat), .int .u64 (dgl (x1) 4 : Nat), .int .u64 (dgl (x1) 5 : Nat), .int .u64 (dgl (x1) 6 : Nat), .int .u64 (dgl (x1) 7 : Nat)] := hL 38 (by decide +kernel)
      have g : LiesF W w.heap.size (dgl n) ∧ R2St (w.heap.size + 1) (w.heap.size + 2) 0 0 w W ∧ LiesF W p8 (dgl x) ∧ ∀ i, W.frozen? ⟨p8, i, none⟩ = false := hC false (by simp [hφ])
      have hz := g.2.2.1.1
      have hzl := g.2.2.1.2
      have hzf := g.2.2.2
      have h8 := HP8.out
      refine gUpon_of ((((((((W.setCell ⟨p8, 0, none⟩ (.int .u64 (dgl x1 0 : Nat))).setCell ⟨p8, 1, none⟩ (.int .u64 (dgl x1 1 : Nat))).setCell ⟨p8, 2, none⟩ (.int .u64 (dgl x1 2 : Nat))).setCell ⟨p8, 3, none⟩ (.int .u64 (dgl x1 3 : Nat))).setCell ⟨p8, 4, none⟩ (.int .u64 (dgl x1 4 : Nat))).setCell ⟨p8, 5, none⟩ (.int .u64 (dgl x1 5 : Nat))).setCell ⟨p8, 6, none⟩ (.int .u64 (dgl x1 6 : Nat))).setCell ⟨p8, 7, none⟩ (.int .u64 (dgl x1 7 : Nat))) ?_ (fun _ => ?_)
      · simp [go_sem, hc, e8, e38, hz, hzl, hzf, gUpon]
      refine ⟨fun c hc => ?_, fun t => ?_⟩
      · have hc1 : c = true := by rw [← hc]; simp
        subst hc1
        exact ⟨lies_ne g.1 (by omega), g.2.1.under (below_set8 (Below.refl p8 W) p8 (Nat.le_refl _) _ _ _ _ _ _ _ _) h8, set8_same W p8 (dgl x1) (dgl x) g.2.2.1, fun i => by simpa [go_sem] using hzf i⟩
      refine (tbl_imp rfl (fun _ => val_imp) (tbl_imp rfl (fun _ h => ?_) (tbl_imp rfl (fun _ => val_imp) (tbl_imp rfl (fun _ => val_imp) (tbl_imp rfl (fun _ => val_imp) (tbl_imp rfl (fun _ => val_imp) (tbl_imp rfl (fun _ => val_imp) tbl_nil_imp)))))))
      · show (bif (φ 7 || true) then SlotIs.any else SlotIs.rd [1]).R _ _
        rw [Bool.or_true]
        trivial
    exact kSt0
  · intro W hC
    refine gFi 34 rfl ?_
    rintro _ rfl
    refine gFi 35 rfl ?_
    rintro u35 b35
    refine gFi 36 rfl ?_
    rintro _ rfl
    refine gFi 37 rfl ?_
    rintro _ rfl
    refine gFi 33 rfl ?_
    rintro _ rfl
    refine gFi 38 rfl ?_
    rintro _ rfl
    refine gFi 39 rfl ?_
    rintro _ rfl
    refine gFiN rfl ?_
    refine gFi0 ?_
    simp only [List.drop_succ_cons, List.drop_zero, Act.put, List.setIfInBounds_toArray, List.set_cons_succ, List.set_cons_zero]
    replace HS := hide (show LiesF W w.heap.size (dgl n) ∧ R2St (w.heap.size + 1) (w.heap.size + 2) 0 0 w W ∧ LiesF W p8 (dgl x1) ∧ ∀ i, W.frozen? ⟨p8, i, none⟩ = false from hC true rfl)
    clear hC b35 HOF HS1
    have hl8 := HS.out.2.2.1.1
    go_wp2_with fail
    refine (HSR.out _).mono ?_
    rintro e w7 ⟨rfl, hb7⟩
    replace HS := hide (show LiesF w7 w.heap.size (dgl n) ∧ R2St (w.heap.size + 1) (w.heap.size + 2) 0 0 w w7 ∧ LiesF w7 p8 (dgl x1) ∧ ∀ i, w7.frozen? ⟨p8, i, none⟩ = false from ⟨HS.out.1.below hb7, HS.out.2.1.below hb7, HS.out.2.2.1.below hb7, fun i => (hb7.frozen (p := ⟨p8, i, none⟩) HS.out.2.2.1.2).trans (HS.out.2.2.2 i)⟩)
    clear hb7 hl8 HSR
    have ha := HS.out.2.2.1.1
    have hal := HS.out.2.2.1.2
    have haf := HS.out.2.2.2
    have h8 := HP8.out
    go_upto_region 8 with fail
    refine wp_gen (fun V => LiesF V w.heap.size (dgl n) ∧ R2St (w.heap.size + 1) (w.heap.size + 2) 0 0 w V ∧ LiesF V p8 (dgl S) ∧ ∀ i, V.frozen? ⟨p8, i, none⟩ = false) ⟨lies_ne HS.out.1 (by omega), HS.out.2.1.under (below_set8 (Below.refl p8 w7) p8 (Nat.le_refl _) _ _ _ _ _ _ _ _) h8, set8_same w7 p8 (dgl S) (dgl x1) HS.out.2.2.1, fun i => by simpa [go_sem] using haf i⟩ ?_
    clear HS ha hal haf
    rintro W8 h8'
    have HS := hide h8'
    have hl8 := h8'.2.2.1.1
    clear h8'
    go_wp2_with fail
    refine (HSQ.out _).mono ?_
    rintro e w9 ⟨rfl, hb9⟩
    replace HS := hide (show LiesF w9 w.heap.size (dgl n) ∧ R2St (w.heap.size + 1) (w.heap.size + 2) 0 0 w w9 ∧ LiesF w9 p8 (dgl S) ∧ ∀ i, w9.frozen? ⟨p8, i, none⟩ = false from ⟨HS.out.1.below hb9, HS.out.2.1.below hb9, HS.out.2.2.1.below hb9, fun i => (hb9.frozen (p := ⟨p8, i, none⟩) HS.out.2.2.1.2).trans (HS.out.2.2.2 i)⟩)
    clear hb9 hl8 HSQ
    go_upto_region 9 with fail
    refine wp_gen (fun V => (LiesF V w.heap.size (dgl n) ∧ R2St (w.heap.size + 1) (w.heap.size + 2) 0 0 w V ∧ LiesF V p8 (dgl S) ∧ ∀ i, V.frozen? ⟨p8, i, none⟩ = false) ∧ LiesF V w9.heap.size (dgl sq)) ⟨⟨HS.out.1.below (below_allocs w9 (.cells #[.int .u64 (dgl (sq) 0 : Nat), .int .u64 (dgl (sq) 1 : Nat), .int .u64 (dgl (sq) 2 : Nat), .int .u64 (dgl (sq) 3 : Nat), .int .u64 (dgl (sq) 4 : Nat), .int .u64 (dgl (sq) 5 : Nat), .int .u64 (dgl (sq) 6 : Nat), .int .u64 (dgl (sq) 7 : Nat)] 24)), HS.out.2.1.below (below_allocs w9 (.cells #[.int .u64 (dgl (sq) 0 : Nat), .int .u64 (dgl (sq) 1 : Nat), .int .u64 (dgl (sq) 2 : Nat), .int .u64 (dgl (sq) 3 : Nat), .int .u64 (dgl (sq) 4 : Nat), .int .u64 (dgl (sq) 5 : Nat), .int .u64 (dgl (sq) 6 : Nat), .int .u64 (dgl (sq) 7 : Nat)] 24)), HS.out.2.2.1.below (below_allocs w9 (.cells #[.int .u64 (dgl (sq) 0 : Nat), .int .u64 (dgl (sq) 1 : Nat), .int .u64 (dgl (sq) 2 : Nat), .int .u64 (dgl (sq) 3 : Nat), .int .u64 (dgl (sq) 4 : Nat), .int .u64 (dgl (sq) 5 : Nat), .int .u64 (dgl (sq) 6 : Nat), .int .u64 (dgl (sq) 7 : Nat)] 24)), fun i => ((below_allocs w9 (.cells #[.int .u64 (dgl (sq) 0 : Nat), .int .u64 (dgl (sq) 1 : Nat), .int .u64 (dgl (sq) 2 : Nat), .int .u64 (dgl (sq) 3 : Nat), .int .u64 (dgl (sq) 4 : Nat), .int .u64 (dgl (sq) 5 : Nat), .int .u64 (dgl (sq) 6 : Nat), .int .u64 (dgl (sq) 7 : Nat)] 24)).frozen (p := ⟨p8, i, none⟩) HS.out.2.2.1.2).trans (HS.out.2.2.2 i)⟩, liesF_new w9 (dgl sq) _⟩ ?_
    clear HS
    generalize w9.heap.size = p10 at *
    rintro W9 h9
    have HS := hide h9.1
    have hln := h9.1.1.1
    have hl10 := h9.2.1
    clear h9
    go_wp2_with fail
    refine (HSB.out _).mono ?_
    rintro e w10 ⟨rfl, hb10⟩
    replace HS := hide (show LiesF w10 w.heap.size (dgl n) ∧ R2St (w.heap.size + 1) (w.heap.size + 2) 0 0 w w10 ∧ LiesF w10 p8 (dgl S) ∧ ∀ i, w10.frozen? ⟨p8, i, none⟩ = false from ⟨HS.out.1.below hb10, HS.out.2.1.below hb10, HS.out.2.2.1.below hb10, fun i => (hb10.frozen (p := ⟨p8, i, none⟩) HS.out.2.2.1.2).trans (HS.out.2.2.2 i)⟩)
    clear hb10 hln hl10 HSB
    go_upto_region 10 with fail
    refine wp_gen (fun V => R2St (w.heap.size + 1) (w.heap.size + 2) 0 0 w V ∧ LiesF V p8 (dgl S) ∧ LiesF V w10.heap.size (dgl R)) ⟨HS.out.2.1.below (below_allocs _ _), HS.out.2.2.1.below (below_allocs _ _), liesF_new w10 (dgl R) _⟩ ?_
    have HNE := hide (show w.heap.size + 2 < p8 ∧ w.heap.size + 2 < w10.heap.size from ⟨HP8.out, HS.out.2.1.ly.2⟩)
    clear HS
    generalize w10.heap.size = p12 at *
    rintro W10 h10'
    have HS6 := hide h10'
    clear h10'
    refine wp_region_storeK 5 [2, 3] [58, 59, 4] (fun bs => [(58, .val (.agg #[.int .u64 (dgl (S) 0 : Nat), .int .u64 (dgl (S) 1 : Nat), .int .u64 (dgl (S) 2 : Nat), .int .u64 (dgl (S) 3 : Nat), .int .u64 (dgl (S) 4 : Nat), .int .u64 (dgl (S) 5 : Nat), .int .u64 (dgl (S) 6 : Nat), .int .u64 (dgl (S) 7 : Nat)])), (59, .val (.agg #[.int .u64 (dgl (R) 0 : Nat), .int .u64 (dgl (R) 1 : Nat), .int .u64 (dgl (R) 2 : Nat), .int .u64 (dgl (R) 3 : Nat), .int .u64 (dgl (R) 4 : Nat), .int .u64 (dgl (R) 5 : Nat), .int .u64 (dgl (R) 6 : Nat), .int .u64 (dgl (R) 7 : Nat)])), (4, .val (.int .i64 0))])
      (fun bs W => (∀ c e, bs.headD false = c → bs.tail.headD false = e → R2St (w.heap.size + 1) (w.heap.size + 2) (bif c then S else 0) (bif e then R else 0) w W) ∧ LiesF W p8 (dgl (S)) ∧ LiesF W p12 (dgl (R))) (fun bs => rfl) mixedOk (by kernel_rfl) (by kernel_rfl) (by kernel_rfl) (⟨fun c e hc he => by subst hc; subst he; exact (HS6.out).1.below (Below.refl _ _).drew, (HS6.out).2.1.below (Below.refl _ _).drew, (HS6.out).2.2.below (Below.refl _ _).drew⟩) (fun bs W W' h hb => ⟨fun c e hc he => (h.1 c e hc he).below hb, h.2.1.below hb, h.2.2.below hb⟩) ?_ ?_
    · refine kSt rfl (fun φ hφ => gStep_run rfl ?_) ?_
      · intro ρ W hC hc hf hL
        have e8 : ρ (.tmp 8) = .pointer (some ⟨p8, 0, none⟩) := hL 8 (by decide +kernel)
        have hl := hC.2.1.1
        simp [go_sem, hc, hf, e8, hl]
        exact ⟨Below.refl _ _, rfl⟩
      refine kSt rfl (fun φ hφ => gStep_run rfl ?_) ?_
      · intro ρ W hC hc hf hL
        have e12 : ρ (.tmp 12) = .pointer (some ⟨p12, 0, none⟩) := hL 12 (by decide +kernel)
        have hl := hC.2.2.1
        simp [go_sem, hc, hf, e12, hl]
        exact ⟨Below.refl _ _, rfl⟩
      refine kStS rfl ⟨rfl, rfl, ?_⟩ ?_
      · intro φ ρ W hφ hC hc hL
        have e2 : ρ (.tmp 2) = .pointer (some ⟨w.heap.size + 1, 0, none⟩) := hL 2 (by decide +kernel)
        have e58 : ρ (.tmp 58) = .agg #[.int .u64 (dgl (S) 0 : Nat), .int .u64 (dgl (S) 1 : Nat), .int .u64 (dgl (S) 2 : Nat), .int .u64 (dgl (S) 3 : Nat), .int .u64 (dgl (S) 4 : Nat), .int .u64 (dgl (S) 5 : Nat), .int .u64 (dgl (S) 6 : Nat), .int .u64 (dgl (S) 7 : Nat)] := hL 58 (by decide +kernel)
        have g : R2St (w.heap.size + 1) (w.heap.size + 2) 0 (bif φ 3 then R else 0) w W := hC.1 false (φ 3) (by simp [hφ]) rfl
        have hz := g.lx.1
        have hzl := g.lx.2
        have hzf := g.fx
        have hne := HNE.out
        refine gUpon_of ((((((((W.setCell ⟨w.heap.size + 1, 0, none⟩ (.int .u64 (dgl (S) 0 : Nat))).setCell ⟨w.heap.size + 1, 1, none⟩ (.int .u64 (dgl (S) 1 : Nat))).setCell ⟨w.heap.size + 1, 2, none⟩ (.int .u64 (dgl (S) 2 : Nat))).setCell ⟨w.heap.size + 1, 3, none⟩ (.int .u64 (dgl (S) 3 : Nat))).setCell ⟨w.heap.size + 1, 4, none⟩ (.int .u64 (dgl (S) 4 : Nat))).setCell ⟨w.heap.size + 1, 5, none⟩ (.int .u64 (dgl (S) 5 : Nat))).setCell ⟨w.heap.size + 1, 6, none⟩ (.int .u64 (dgl (S) 6 : Nat))).setCell ⟨w.heap.size + 1, 7, none⟩ (.int .u64 (dgl (S) 7 : Nat))) ?_ (fun _ => ?_)
        · simp [go_sem, hc, e2, e58, hz, hzl, hzf, gUpon]
        refine ⟨⟨fun c e hc he => ?_, lies_ne hC.2.1 (by omega), lies_ne hC.2.2 (by omega)⟩, fun t => ?_⟩
        · have hc1 : c = true := by rw [← hc]; simp
          have he1 : e = (φ 3) := by rw [← he]; simp
          subst hc1
          subst he1
          exact g.set1 _
        refine (tbl_imp rfl (fun _ => val_imp) (tbl_imp rfl (fun _ => val_imp) (tbl_imp rfl (fun _ => val_imp) tbl_nil_imp)))
      refine kStS rfl ⟨rfl, rfl, ?_⟩ ?_
      · intro φ ρ W hφ hC hc hL
        have e3 : ρ (.tmp 3) = .pointer (some ⟨w.heap.size + 2, 0, none⟩) := hL 3 (by decide +kernel)
        have e59 : ρ (.tmp 59) = .agg #[.int .u64 (dgl (R) 0 : Nat), .int .u64 (dgl (R) 1 : Nat), .int .u64 (dgl (R) 2 : Nat), .int .u64 (dgl (R) 3 : Nat), .int .u64 (dgl (R) 4 : Nat), .int .u64 (dgl (R) 5 : Nat), .int .u64 (dgl (R) 6 : Nat), .int .u64 (dgl (R) 7 : Nat)] := hL 59 (by decide +kernel)
        have g : R2St (w.heap.size + 1) (w.heap.size + 2) (bif φ 2 then S else 0) 0 w W := hC.1 (φ 2) false rfl (by simp [hφ])
        have hz := g.ly.1
        have hzl := g.ly.2
        have hzf := g.fy
        have hne := HNE.out
        refine gUpon_of ((((((((W.setCell ⟨w.heap.size + 2, 0, none⟩ (.int .u64 (dgl (R) 0 : Nat))).setCell ⟨w.heap.size + 2, 1, none⟩ (.int .u64 (dgl (R) 1 : Nat))).setCell ⟨w.heap.size + 2, 2, none⟩ (.int .u64 (dgl (R) 2 : Nat))).setCell ⟨w.heap.size + 2, 3, none⟩ (.int .u64 (dgl (R) 3 : Nat))).setCell ⟨w.heap.size + 2, 4, none⟩ (.int .u64 (dgl (R) 4 : Nat))).setCell ⟨w.heap.size + 2, 5, none⟩ (.int .u64 (dgl (R) 5 : Nat))).setCell ⟨w.heap.size + 2, 6, none⟩ (.int .u64 (dgl (R) 6 : Nat))).setCell ⟨w.heap.size + 2, 7, none⟩ (.int .u64 (dgl (R) 7 : Nat))) ?_ (fun _ => ?_)
        · simp [go_sem, hc, e3, e59, hz, hzl, hzf, gUpon]
        refine ⟨⟨fun c e hc he => ?_, lies_ne hC.2.1 (by omega), lies_ne hC.2.2 (by omega)⟩, fun t => ?_⟩
        · have hc1 : c = (φ 2) := by rw [← hc]; simp
          have he1 : e = true := by rw [← he]; simp
          subst hc1
          subst he1
          exact g.set2 _
        refine (tbl_imp rfl (fun _ => val_imp) (tbl_imp rfl (fun _ => val_imp) (tbl_imp rfl (fun _ => val_imp) tbl_nil_imp)))
      refine kSt rfl (fun φ hφ => gStep_run rfl (gRun_const _ 4 (.inr rfl) rfl (fun w => rfl))) ?_
      exact kSt0
    · intro W hC
      refine gFi 58 rfl ?_
      rintro _ rfl
      refine gFi 59 rfl ?_
      rintro _ rfl
      refine gFiN rfl ?_
      refine gFiN rfl ?_
      refine gFi 4 rfl ?_
      rintro _ rfl
      refine gFi0 ?_
      simp only [List.drop_succ_cons, List.drop_zero, Act.put, List.setIfInBounds_toArray, List.set_cons_succ, List.set_cons_zero]
      have HS := hide (hC.1 true true rfl rfl)
      clear hC
      have hr1 := HS.out.lx.1
      have hrl1 := HS.out.lx.2
      have hrf1 := HS.out.fx
      have hr2 := HS.out.ly.1
      have hrl2 := HS.out.ly.2
      have hrf2 := HS.out.fy
      have HBE := hide HS.out.bel
      have HO1 := hide HS.out.o1
      have HO2 := hide HS.out.o2
      clear HS
      go_wp2
      exact bodyPost_ret (v := .tuple #[.agg #[.int .u64 (dgl (S) 0 : Nat), .int .u64 (dgl (S) 1 : Nat), .int .u64 (dgl (S) 2 : Nat), .int .u64 (dgl (S) 3 : Nat), .int .u64 (dgl (S) 4 : Nat), .int .u64 (dgl (S) 5 : Nat), .int .u64 (dgl (S) 6 : Nat), .int .u64 (dgl (S) 7 : Nat)], .agg #[.int .u64 (dgl (R) 0 : Nat), .int .u64 (dgl (R) 1 : Nat), .int .u64 (dgl (R) 2 : Nat), .int .u64 (dgl (R) 3 : Nat), .int .u64 (dgl (R) 4 : Nat), .int .u64 (dgl (R) 5 : Nat), .int .u64 (dgl (R) 6 : Nat), .int .u64 (dgl (R) 7 : Nat)], .int .i64 0]) (by simp [results, Try.results7, go_sem, hr1, hrl1, hr2, hrl2]) rfl ⟨rfl, HBE.out⟩
      
    

theorem rootB_err (n : Nat) (hn : n < QQ) (h : n = 0 ∨ 256 < Go.bitLen n) (w : World) :
    Calls Try.prog 7 #[.agg #[.int .u64 (dgl (n) 0 : Nat), .int .u64 (dgl (n) 1 : Nat), .int .u64 (dgl (n) 2 : Nat), .int .u64 (dgl (n) 3 : Nat), .int .u64 (dgl (n) 4 : Nat), .int .u64 (dgl (n) 5 : Nat), .int .u64 (dgl (n) 6 : Nat), .int .u64 (dgl (n) 7 : Nat)]] w fun e w' => e = .returned (.tuple #[.agg #[.int .u64 0, .int .u64 0, .int .u64 0, .int .u64 0, .int .u64 0, .int .u64 0, .int .u64 0, .int .u64 0], .agg #[.int .u64 0, .int .u64 0, .int .u64 0, .int .u64 0, .int .u64 0, .int .u64 0, .int .u64 0, .int .u64 0], .int .i64 (if 256 < Go.bitLen n then 4 else 0)]) ∧ Below w.heap.size w w' :=
  rootB_no' n _ (hide fun w => normB_no n hn h w) (hide fun w => unnormedB_any n hn w) w
/-- Root: the root and the remainder. -/
theorem rootB_ok (n S : Nat) (hn : n < QQ) (h0 : n ≠ 0) (hL : Go.bitLen n ≤ 256) (hs : ∀ y, y ^ 2 ≤ n ↔ y ≤ S) (w : World) :
    Calls Try.prog 7 #[.agg #[.int .u64 (dgl (n) 0 : Nat), .int .u64 (dgl (n) 1 : Nat), .int .u64 (dgl (n) 2 : Nat), .int .u64 (dgl (n) 3 : Nat), .int .u64 (dgl (n) 4 : Nat), .int .u64 (dgl (n) 5 : Nat), .int .u64 (dgl (n) 6 : Nat), .int .u64 (dgl (n) 7 : Nat)]] w fun e w' => e = .returned (.tuple #[.agg #[.int .u64 (dgl (S) 0 : Nat), .int .u64 (dgl (S) 1 : Nat), .int .u64 (dgl (S) 2 : Nat), .int .u64 (dgl (S) 3 : Nat), .int .u64 (dgl (S) 4 : Nat), .int .u64 (dgl (S) 5 : Nat), .int .u64 (dgl (S) 6 : Nat), .int .u64 (dgl (S) 7 : Nat)], .agg #[.int .u64 (dgl (n - S ^ 2) 0 : Nat), .int .u64 (dgl (n - S ^ 2) 1 : Nat), .int .u64 (dgl (n - S ^ 2) 2 : Nat), .int .u64 (dgl (n - S ^ 2) 3 : Nat), .int .u64 (dgl (n - S ^ 2) 4 : Nat), .int .u64 (dgl (n - S ^ 2) 5 : Nat), .int .u64 (dgl (n - S ^ 2) 6 : Nat), .int .u64 (dgl (n - S ^ 2) 7 : Nat)], .int .i64 0]) ∧ Below w.heap.size w w' := by
  have ok := ok16 n h0 hL
  have hu := up16_bd n h0 hL
  have hf := ok.fin
  have hw := lf16_wide ok hu.2 64 (by decide)
  have hP := pn16_lt ok 64 (by decide)
  have hq3 : 2 ^ 129 < QQ := by decide +kernel
  have hPQ := Nat.lt_trans hP hq3
  have HNO := hide (fun w => normB_yes n hn h0 hL w)
  have HWK := hide (fun w => walkB_idleR n h0 hL 64 w (by decide))
  have HMI := hide (fun w => wideMinus_any (qz (lf16 n 64)) (qz_lt _) w)
  rw [qz_bit _ hw.1 hw.2] at HMI
  have hS2 : S * S ≤ n := by have h := (hs S).2 (Nat.le_refl _); rwa [Nat.pow_two] at h
  have key : ∀ p : Nat, p * p ≤ up16 n → up16 n < (p + 1) * (p + 1) → p / 2 ^ nb16 n = S := by
    intro p h1 h2
    have h := root_down n p (nb16 n) h1 h2
    exact (root_uniq hs (by rw [Nat.pow_two]; exact h.1) (by rw [Nat.pow_two]; exact h.2)).symm
  have hbm : ((2 * nb16 n : Nat) : Int).tdiv 2 = ((nb16 n : Nat) : Int) := by rw [Int.tdiv_eq_ediv_of_nonneg (by omega)]; omega
  have hnb : nb16 n ≤ 128 := by unfold nb16; omega
  have hrb : roomI ((nb16 n : Nat) : Int) = ((nb16 n : Nat) : Int) := by unfold roomI; omega
  have hSq : S < QQ := Nat.lt_of_le_of_lt (Nat.le_trans (Nat.le_mul_self S) hS2) hn
  have HSQ := hide (fun w => prodSquare_any S hSq w)
  have HSB := hide (fun w => wideSub_any n (S * S) hn (Nat.lt_of_le_of_lt hS2 hn) w)
  have eR : subQ n (S * S) = n - S ^ 2 := by
    have h := qz_sub ((n : Nat) : Int) ((S * S : Nat) : Int)
    rw [qz_nat hn, qz_nat (Nat.lt_of_le_of_lt hS2 hn)] at h
    rw [h, Nat.pow_two, ← Int.natCast_sub hS2]
    exact qz_nat (Nat.lt_of_le_of_lt (Nat.sub_le _ _) hn)
  rw [eR] at HSB
  have hl : lf16 n 64 = ((up16 n : Nat) : Int) - ((pn16 n 64 * pn16 n 64 : Nat) : Int) := rfl
  by_cases hlt : lf16 n 64 < 0
  · rw [decide_eq_true hlt] at HMI
    have h1 := hf.2.1 (by omega)
    have hp1 := hf.2.2
    have hk := key (pn16 n 64 - 1) h1 (by rw [Nat.sub_add_cancel hp1]; omega)
    have HS1 := hide (fun w => wideSub_any (pn16 n 64) 1 hPQ (by have := qq_big; omega) w)
    have e1 : subQ (pn16 n 64) 1 = pn16 n 64 - 1 := by
      rw [sub_one _ hPQ]
      have : ((pn16 n 64 : Nat) : Int) - 1 = ((pn16 n 64 - 1 : Nat) : Int) := by omega
      rw [this]
      exact qz_nat (by omega)
    rw [e1] at HS1
    have HSR := hide (fun w => wideShr_any (pn16 n 64 - 1) (nb16 n) _ hrb (by omega) w)
    rw [hk] at HSR
    exact rootB_M n _ _ _ _ _ _ _ _ _ _ _ _ _ hbm hnb (by omega) HNO HWK HMI (hide fun v w hv => wideOf_any [1] 1 v w hv (fun i hi => (dig_one (β := 18446744073709551616) (by decide)).2 i)) HS1 HSR HSQ HSB w
  · rw [decide_eq_false hlt] at HMI
    have h1 : pn16 n 64 * pn16 n 64 ≤ up16 n := by omega
    have hk := key (pn16 n 64) h1 (hf.1 h1)
    have HSR := hide (fun w => wideShr_any (pn16 n 64) (nb16 n) _ hrb hPQ w)
    rw [hk] at HSR
    exact rootB_P n _ _ _ _ _ _ _ _ _ _ _ hbm hnb (by omega) HNO HWK HMI HSR HSQ HSB w
end Go.Proofs.Ytbngaajhdaciaaa

/- Contracts: radicandlaw16's example. -/
set_option linter.unusedVariables false
set_option linter.unusedSimpArgs false
set_option maxRecDepth 8000
namespace Go.Proofs.Ytbngaajhdaciaaa
open Go.RowKit Plain

set_option maxHeartbeats 2000000 in
theorem awake16_walk (a b : Nat) (ha : ∀ w, (Op.equalIn 10000 24 (.agg #[.int .u64 (dgl (a) 0 : Nat), .int .u64 (dgl (a) 1 : Nat), .int .u64 (dgl (a) 2 : Nat), .int .u64 (dgl (a) 3 : Nat), .int .u64 (dgl (a) 4 : Nat), .int .u64 (dgl (a) 5 : Nat), .int .u64 (dgl (a) 6 : Nat), .int .u64 (dgl (a) 7 : Nat)]) (.agg #[.int .u64 9, .int .u64 0, .int .u64 0, .int .u64 0, .int .u64 0, .int .u64 0, .int .u64 0, .int .u64 0])).run Try.prog w = .ok true w) (hb : ∀ w, (Op.equalIn 10000 24 (.agg #[.int .u64 (dgl (b) 0 : Nat), .int .u64 (dgl (b) 1 : Nat), .int .u64 (dgl (b) 2 : Nat), .int .u64 (dgl (b) 3 : Nat), .int .u64 (dgl (b) 4 : Nat), .int .u64 (dgl (b) 5 : Nat), .int .u64 (dgl (b) 6 : Nat), .int .u64 (dgl (b) 7 : Nat)]) (.agg #[.int .u64 18, .int .u64 0, .int .u64 0, .int .u64 0, .int .u64 0, .int .u64 0, .int .u64 0, .int .u64 0])).run Try.prog w = .ok true w)
    (HD : Hid (∀ w, Calls Try.prog 7 #[.agg #[.int .u64 99, .int .u64 0, .int .u64 0, .int .u64 0, .int .u64 0, .int .u64 0, .int .u64 0, .int .u64 0]] w fun e w' => e = .returned (.tuple #[.agg #[.int .u64 (dgl (a) 0 : Nat), .int .u64 (dgl (a) 1 : Nat), .int .u64 (dgl (a) 2 : Nat), .int .u64 (dgl (a) 3 : Nat), .int .u64 (dgl (a) 4 : Nat), .int .u64 (dgl (a) 5 : Nat), .int .u64 (dgl (a) 6 : Nat), .int .u64 (dgl (a) 7 : Nat)], .agg #[.int .u64 (dgl (b) 0 : Nat), .int .u64 (dgl (b) 1 : Nat), .int .u64 (dgl (b) 2 : Nat), .int .u64 (dgl (b) 3 : Nat), .int .u64 (dgl (b) 4 : Nat), .int .u64 (dgl (b) 5 : Nat), .int .u64 (dgl (b) 6 : Nat), .int .u64 (dgl (b) 7 : Nat)], .int .i64 0]) ∧ Below w.heap.size w w'))
    (HG : Hid (∀ w, Calls Try.prog 10 #[.agg #[.int .u64 99, .int .u64 0, .int .u64 0, .int .u64 0, .int .u64 0, .int .u64 0, .int .u64 0, .int .u64 0]] w fun e w' => ∃ ao ca, e = .returned (.tuple #[.slice ao 64 ca, .int .i64 0]) ∧ Below w.heap.size w w')) (w : World) :
    Calls Try.prog 9 #[] w fun e w' => e = .returned (.bool true) ∧ Below w.heap.size w w' := by
  go_enter Try.func9, Try.ntmps9
  go_wp2_with fail
  refine (HD.out _).mono ?_
  rintro e w1 ⟨rfl, hb1⟩
  go_upto_region 2 with fail
  refine wp_gen (fun W => R2St w1.heap.size (w1.heap.size + 1) a b w W) (r2_put w w1 a b hb1 _ _) ?_
  clear hb1 HD
  rintro W2 h2
  have HS := hide h2
  clear h2
  go_wp2_with fail
  refine (HG.out _).mono ?_
  rintro e w3 ⟨ao, ca, rfl, hb3⟩
  have hl1 := (HS.out.below hb3).lx.1
  have hl2 := (HS.out.below hb3).ly.1
  have HB := hide (HS.out.below hb3).bel
  clear HS hb3 HG
  go_wp2
  go_ret
  exact ⟨rfl, HB.out⟩
theorem awake16_any (w : World) : Calls Try.prog 9 #[] w fun e w' => e = .returned (.bool true) ∧ Below w.heap.size w w' := by
  have hq : 18446744073709551616 < QQ := by decide +kernel
  have hL : Go.bitLen 99 ≤ 256 := by decide +kernel
  refine awake16_walk 9 18 (fun w => ?_) (fun w => ?_) (hide fun w => ?_) (hide fun w => ?_) w
  · have := wide_lit 9 9 (by omega) (by decide) w
    rw [decide_eq_true rfl] at this
    exact this
  · have := wide_lit 18 18 (by omega) (by decide) w
    rw [decide_eq_true rfl] at this
    exact this
  · have h := rootB_ok 99 9 (by omega) (by decide) hL (fun y => by
      constructor
      · intro h
        rcases Nat.lt_or_ge y 10 with h1 | h1
        · omega
        · have := Nat.pow_le_pow_left h1 2
          omega
      · intro h
        have := Nat.pow_le_pow_left h 2
        omega) w
    rw [w8_small 99 (by decide)] at h
    exact h
  · have h := digB_ok 99 (by omega) (by decide) hL w
    rw [w8_small 99 (by decide)] at h
    refine h.mono ?_
    rintro e w' ⟨v, rfl, h2, hb⟩
    obtain ⟨ao, ca, rfl⟩ := rd_slice h2
    exact ⟨ao, ca, rfl, hb⟩
theorem may_len (n : Nat) : n < 2 ^ 256 ↔ Go.bitLen n ≤ 256 := by
  have h := bitLen_above n 256
  generalize 2 ^ 256 = P at *
  omega
theorem z8_eq {n : Nat} (hn : n < QQ) (b : Bool) (h : decide (n = 0) = b) (w : World) : (Op.equalIn 10000 24 (.agg #[.int .u64 (dgl (n) 0 : Nat), .int .u64 (dgl (n) 1 : Nat), .int .u64 (dgl (n) 2 : Nat), .int .u64 (dgl (n) 3 : Nat), .int .u64 (dgl (n) 4 : Nat), .int .u64 (dgl (n) 5 : Nat), .int .u64 (dgl (n) 6 : Nat), .int .u64 (dgl (n) 7 : Nat)]) (.agg #[.int .u64 0, .int .u64 0, .int .u64 0, .int .u64 0, .int .u64 0, .int .u64 0, .int .u64 0, .int .u64 0])).run Try.prog w = .ok b w := by
  rw [← h]
  exact wide_eqz hn w
end Go.Proofs.Ytbngaajhdaciaaa

