/- Contracts and laws: FmtD. -/
import Derived.Test.YtidfegilddlglaaDoorXFmtC
import Derived.Deep.DeepCutAuto
/- Contracts: format.made, as a walk. -/
set_option linter.unusedVariables false
set_option linter.unusedSimpArgs false
set_option maxRecDepth 8000
namespace Go.Proofs.YtidfegilddlglaaDoor
open Go.RowKit Plain

/-- What made goes by: the result, and the format's record. -/
structure MadeSt (B p7 : Nat) (w : World) (k : Nat → Int) (W : World) : Prop where
  rw : ∀ i, i < 2 → W.cell? ⟨B, i, none⟩ = some (.int .u64 0)
  lt : B < W.heap.size
  fz : ∀ i, W.frozen? ⟨B, i, none⟩ = false
  rk : ∀ i, i < 5 → W.cell? ⟨p7, i, none⟩ = some (.int .i64 (k i))
  lk : p7 < W.heap.size
  ne : B < p7
  bel : Below B w W
theorem MadeSt.under {B p7 : Nat} {w : World} {k : Nat → Int} {W W' : World} (h : MadeSt B p7 w k W) {C : Nat} (hb : Below C W W') (hc : p7 < C) : MadeSt B p7 w k W' :=
  have hn := h.ne
  ⟨fun i hi => (hb.cell (p := ⟨B, i, none⟩) (show B < C by omega)).trans (h.rw i hi), Nat.lt_of_lt_of_le h.lt hb.size, fun i => (hb.frozen (p := ⟨B, i, none⟩) (show B < C by omega)).trans (h.fz i),
    fun i hi => (hb.cell (p := ⟨p7, i, none⟩) hc).trans (h.rk i hi), Nat.lt_of_lt_of_le h.lk hb.size, h.ne, h.bel.trans (hb.mono (by omega))⟩
theorem MadeSt.below {B p7 : Nat} {w : World} {k : Nat → Int} {W W' : World} (h : MadeSt B p7 w k W) (hb : Below W.heap.size W W') : MadeSt B p7 w k W' := h.under hb h.lk
theorem madeSt_start (k : Nat → Int) (w w1 : World) (hb : Below (w.alloc (.cells #[.int .u64 0, .int .u64 0] 24)).heap.size (w.alloc (.cells #[.int .u64 0, .int .u64 0] 24)) w1) : MadeSt w.heap.size w1.heap.size w k (w1.alloc (.cells #[.int .i64 (k 0), .int .i64 (k 1), .int .i64 (k 2), .int .i64 (k 3), .int .i64 (k 4)] 69)) := by
  have h0 := below_allocs w1 (.cells #[.int .i64 (k 0), .int .i64 (k 1), .int .i64 (k 2), .int .i64 (k 3), .int .i64 (k 4)] 69)
  have hb2 := below_trans hb h0
  have hs := hb.size
  rw [World.size_alloc] at hb2 hs
  refine ⟨fun i hi => (hb2.cell (p := ⟨w.heap.size, i, none⟩) (show w.heap.size < w.heap.size + 1 by omega)).trans ?_, by simp; omega, fun i => (hb2.frozen (p := ⟨w.heap.size, i, none⟩) (show w.heap.size < w.heap.size + 1 by omega)).trans (by simp [go_sem]), fun i hi => rec5_new w1 k _ i hi, by simp, by omega, below_trans (below_allocs w _) (below_trans hb h0)⟩
  match i, hi with
  | 0, _ | 1, _ => simp [go_sem]

set_option maxHeartbeats 2000000 in
theorem made_none (f : Int) (h : f < 1 ∨ 4 < f) (neg : Bool) (fv : Value) (w : World) : Calls Tryd.prog 105 #[.int .i64 f, .bool neg, fv] w fun e w' => e = .returned (.agg #[.int .u64 0, .int .u64 0]) ∧ Below w.heap.size w w' := by
  have HO := hide (fun w => of_none f h w)
  clear h
  go_enter Tryd.func105, Tryd.ntmps105
  go_wp2_with fail
  refine (HO.out _).mono ?_
  rintro e w1 ⟨rfl, hb1⟩
  have HST := hide (madeSt_start (fun _ => 0) w w1 hb1)
  clear hb1
  have hr0 := HST.out.rw 0 (by decide)
  have hr1 := HST.out.rw 1 (by decide)
  have hrf := HST.out.fz
  have hlt := HST.out.lt
  have HB := hide HST.out.bel
  clear HST
  go_wp2
  exact bodyPost_ret (v := .agg #[.int .u64 0, .int .u64 0]) (by simp [results, Tryd.results105, go_sem, hr0, hr1, hlt]) rfl ⟨rfl, (HB.out.setCell (p := ⟨w.heap.size, 0, none⟩) (Nat.le_refl _) _).setCell (p := ⟨w.heap.size, 1, none⟩) (Nat.le_refl _) _⟩

set_option maxHeartbeats 2000000 in
theorem made_walk (f : Int) (neg : Bool) (fid : Nat) (k : Nat → Int) (a b u s p t : Nat) (ov ov2 : Bool) (hent : ∀ args w, (callFunc fid args).run Tryd.prog w = .ok (.enter fid args) w)
    (hw0 : IntKind.i64.wrap (k 0 - 1) = k 0 - 1) (hw1 : IntKind.i64.wrap (k 1 - 1) = k 1 - 1)
    (HO : Hid (∀ w, FmtG w → Calls Tryd.prog 66 #[.int .i64 f] w fun e w' => e = .returned (.tuple #[.agg #[.int .i64 (k 0), .int .i64 (k 1), .int .i64 (k 2), .int .i64 (k 3), .int .i64 (k 4)], .bool true]) ∧ Below w.heap.size w w'))
    (HPA : Hid (∀ w, Calls Tryd.prog fid #[.agg #[.int .i64 (k 0), .int .i64 (k 1), .int .i64 (k 2), .int .i64 (k 3), .int .i64 (k 4)]] w fun e w' => e = .returned (.tuple #[.agg #[.int .u64 (dgl (a) 0 : Nat), .int .u64 (dgl (a) 1 : Nat), .int .u64 (dgl (a) 2 : Nat), .int .u64 (dgl (a) 3 : Nat), .int .u64 (dgl (a) 4 : Nat), .int .u64 (dgl (a) 5 : Nat), .int .u64 (dgl (a) 6 : Nat), .int .u64 (dgl (a) 7 : Nat)], .agg #[.int .u64 (dgl (b) 0 : Nat), .int .u64 (dgl (b) 1 : Nat), .int .u64 (dgl (b) 2 : Nat), .int .u64 (dgl (b) 3 : Nat), .int .u64 (dgl (b) 4 : Nat), .int .u64 (dgl (b) 5 : Nat), .int .u64 (dgl (b) 6 : Nat), .int .u64 (dgl (b) 7 : Nat)]]) ∧ Below w.heap.size w w'))
    (HSH : Hid (∀ w, Calls Tryd.prog 69 #[.agg #[.int .u64 (dgl (a) 0 : Nat), .int .u64 (dgl (a) 1 : Nat), .int .u64 (dgl (a) 2 : Nat), .int .u64 (dgl (a) 3 : Nat), .int .u64 (dgl (a) 4 : Nat), .int .u64 (dgl (a) 5 : Nat), .int .u64 (dgl (a) 6 : Nat), .int .u64 (dgl (a) 7 : Nat)], .int .i64 (k 1 - 1)] w fun e w' => e = .returned (.agg #[.int .u64 (dgl (u) 0 : Nat), .int .u64 (dgl (u) 1 : Nat), .int .u64 (dgl (u) 2 : Nat), .int .u64 (dgl (u) 3 : Nat), .int .u64 (dgl (u) 4 : Nat), .int .u64 (dgl (u) 5 : Nat), .int .u64 (dgl (u) 6 : Nat), .int .u64 (dgl (u) 7 : Nat)]) ∧ Below w.heap.size w w'))
    (HA1 : Hid (∀ w, Calls Tryd.prog 68 #[.agg #[.int .u64 (dgl (u) 0 : Nat), .int .u64 (dgl (u) 1 : Nat), .int .u64 (dgl (u) 2 : Nat), .int .u64 (dgl (u) 3 : Nat), .int .u64 (dgl (u) 4 : Nat), .int .u64 (dgl (u) 5 : Nat), .int .u64 (dgl (u) 6 : Nat), .int .u64 (dgl (u) 7 : Nat)], .agg #[.int .u64 (dgl (b) 0 : Nat), .int .u64 (dgl (b) 1 : Nat), .int .u64 (dgl (b) 2 : Nat), .int .u64 (dgl (b) 3 : Nat), .int .u64 (dgl (b) 4 : Nat), .int .u64 (dgl (b) 5 : Nat), .int .u64 (dgl (b) 6 : Nat), .int .u64 (dgl (b) 7 : Nat)]] w fun e w' => e = .returned (.tuple #[.agg #[.int .u64 (dgl (s) 0 : Nat), .int .u64 (dgl (s) 1 : Nat), .int .u64 (dgl (s) 2 : Nat), .int .u64 (dgl (s) 3 : Nat), .int .u64 (dgl (s) 4 : Nat), .int .u64 (dgl (s) 5 : Nat), .int .u64 (dgl (s) 6 : Nat), .int .u64 (dgl (s) 7 : Nat)], .bool ov]) ∧ Below w.heap.size w w'))
    (HPO : Hid (∀ w, Calls Tryd.prog 86 #[.int .i64 (k 0 - 1)] w fun e w' => e = .returned (.agg #[.int .u64 (dgl (p) 0 : Nat), .int .u64 (dgl (p) 1 : Nat), .int .u64 (dgl (p) 2 : Nat), .int .u64 (dgl (p) 3 : Nat), .int .u64 (dgl (p) 4 : Nat), .int .u64 (dgl (p) 5 : Nat), .int .u64 (dgl (p) 6 : Nat), .int .u64 (dgl (p) 7 : Nat)]) ∧ Below w.heap.size w w'))
    (HA2 : Hid (∀ w, Calls Tryd.prog 68 #[.agg #[.int .u64 (dgl (s) 0 : Nat), .int .u64 (dgl (s) 1 : Nat), .int .u64 (dgl (s) 2 : Nat), .int .u64 (dgl (s) 3 : Nat), .int .u64 (dgl (s) 4 : Nat), .int .u64 (dgl (s) 5 : Nat), .int .u64 (dgl (s) 6 : Nat), .int .u64 (dgl (s) 7 : Nat)], .agg #[.int .u64 (dgl (p) 0 : Nat), .int .u64 (dgl (p) 1 : Nat), .int .u64 (dgl (p) 2 : Nat), .int .u64 (dgl (p) 3 : Nat), .int .u64 (dgl (p) 4 : Nat), .int .u64 (dgl (p) 5 : Nat), .int .u64 (dgl (p) 6 : Nat), .int .u64 (dgl (p) 7 : Nat)]] w fun e w' => e = .returned (.tuple #[.agg #[.int .u64 (dgl (t) 0 : Nat), .int .u64 (dgl (t) 1 : Nat), .int .u64 (dgl (t) 2 : Nat), .int .u64 (dgl (t) 3 : Nat), .int .u64 (dgl (t) 4 : Nat), .int .u64 (dgl (t) 5 : Nat), .int .u64 (dgl (t) 6 : Nat), .int .u64 (dgl (t) 7 : Nat)], .bool ov2]) ∧ Below w.heap.size w w'))
    (w : World) (hg : FmtG w) :
    Calls Tryd.prog 105 #[.int .i64 f, .bool neg, .func (.func fid) #[] #[]] w fun e w' => e = .returned (.agg #[.int .u64 (dgl (bif neg then t else s) 1 : Nat), .int .u64 (dgl (bif neg then t else s) 0 : Nat)]) ∧ Below w.heap.size w w' := by
  have HG := hide (hg.below (below_allocs w (.cells #[.int .u64 0, .int .u64 0] 24)))
  clear hg
  go_enter Tryd.func105, Tryd.ntmps105
  go_wp2_with fail
  refine (HO.out _ HG.out).mono ?_
  rintro e w1 ⟨rfl, hb1⟩
  have HST := hide (madeSt_start k w w1 hb1)
  clear hb1 HG
  go_wp2_with fail
  refine (HPA.out _).mono ?_
  rintro e w2 ⟨rfl, hb2⟩
  replace HST := hide (HST.out.below hb2)
  clear hb2
  go_upto_region 5 with fail
  refine wp_gen (fun W => MadeSt w.heap.size w1.heap.size w k W ∧ LiesF W w2.heap.size (dgl a) ∧ LiesF W (w2.heap.size + 1) (dgl b)) ⟨?_, ?_, ?_⟩ ?_
  · exact HST.out.below (below_trans (below_allocs _ _) (below_allocs _ _))
  · exact (liesF_new _ _ _).alloc _
  · have hl := liesF_new (w2.alloc (.cells #[.int .u64 (dgl (a) 0 : Nat), .int .u64 (dgl (a) 1 : Nat), .int .u64 (dgl (a) 2 : Nat), .int .u64 (dgl (a) 3 : Nat), .int .u64 (dgl (a) 4 : Nat), .int .u64 (dgl (a) 5 : Nat), .int .u64 (dgl (a) 6 : Nat), .int .u64 (dgl (a) 7 : Nat)] 28)) (dgl b) 28
    rw [World.size_alloc] at hl
    exact hl
  rintro W1 h1
  have HN := hide (show w1.heap.size < w2.heap.size from HST.out.lk)
  clear HST
  generalize w1.heap.size = p7 at *
  generalize w2.heap.size = p9 at *
  obtain ⟨p10, hp10⟩ : ∃ p10, p9 + 1 = p10 := ⟨_, rfl⟩
  rw [hp10] at h1 ⊢
  replace HN := hide (show p7 < p9 ∧ p9 < p10 by have := HN.out; omega)
  clear hp10
  refine wp_region_storeK 12 [11] [28, 29, 30, 31, 32, 33, 34, 27, 35, 36, 11] (fun bs => [(28, .val (.agg #[.int .u64 (dgl (a) 0 : Nat), .int .u64 (dgl (a) 1 : Nat), .int .u64 (dgl (a) 2 : Nat), .int .u64 (dgl (a) 3 : Nat), .int .u64 (dgl (a) 4 : Nat), .int .u64 (dgl (a) 5 : Nat), .int .u64 (dgl (a) 6 : Nat), .int .u64 (dgl (a) 7 : Nat)])), (29, .val (.pointer (some ⟨p7, 1, none⟩))), (30, .val (.int .i64 (k 1))), (31, .val (.int .i64 (k 1 - 1))), (32, .val (.agg #[.int .u64 (dgl (u) 0 : Nat), .int .u64 (dgl (u) 1 : Nat), .int .u64 (dgl (u) 2 : Nat), .int .u64 (dgl (u) 3 : Nat), .int .u64 (dgl (u) 4 : Nat), .int .u64 (dgl (u) 5 : Nat), .int .u64 (dgl (u) 6 : Nat), .int .u64 (dgl (u) 7 : Nat)])), (33, .val (.agg #[.int .u64 (dgl (b) 0 : Nat), .int .u64 (dgl (b) 1 : Nat), .int .u64 (dgl (b) 2 : Nat), .int .u64 (dgl (b) 3 : Nat), .int .u64 (dgl (b) 4 : Nat), .int .u64 (dgl (b) 5 : Nat), .int .u64 (dgl (b) 6 : Nat), .int .u64 (dgl (b) 7 : Nat)])), (34, .val (.tuple #[.agg #[.int .u64 (dgl (s) 0 : Nat), .int .u64 (dgl (s) 1 : Nat), .int .u64 (dgl (s) 2 : Nat), .int .u64 (dgl (s) 3 : Nat), .int .u64 (dgl (s) 4 : Nat), .int .u64 (dgl (s) 5 : Nat), .int .u64 (dgl (s) 6 : Nat), .int .u64 (dgl (s) 7 : Nat)], .bool ov])), (27, .val (.tuple #[.agg #[.int .u64 (dgl (s) 0 : Nat), .int .u64 (dgl (s) 1 : Nat), .int .u64 (dgl (s) 2 : Nat), .int .u64 (dgl (s) 3 : Nat), .int .u64 (dgl (s) 4 : Nat), .int .u64 (dgl (s) 5 : Nat), .int .u64 (dgl (s) 6 : Nat), .int .u64 (dgl (s) 7 : Nat)], .bool ov])), (35, .val (.agg #[.int .u64 (dgl (s) 0 : Nat), .int .u64 (dgl (s) 1 : Nat), .int .u64 (dgl (s) 2 : Nat), .int .u64 (dgl (s) 3 : Nat), .int .u64 (dgl (s) 4 : Nat), .int .u64 (dgl (s) 5 : Nat), .int .u64 (dgl (s) 6 : Nat), .int .u64 (dgl (s) 7 : Nat)])), (36, .val (.bool ov)), (11, bif bs.headD false then SlotIs.box (p10 + 1) (dgl s) else SlotIs.box (p10 + 1) (fun _ => 0))])
    (fun _ W => MadeSt w.heap.size p7 w k W ∧ LiesF W p9 (dgl a) ∧ LiesF W p10 (dgl b)) (fun bs => rfl) mixedOk (by kernel_rfl) (by kernel_rfl) (by kernel_rfl) (⟨h1.1.below (Below.refl _ _).drew, h1.2⟩) (fun bs W W' h hb => ⟨h.1.below hb, h.2.1.below hb, h.2.2.below hb⟩) ?_ ?_
  · refine kSt rfl (fun φ hφ => gStep_run rfl ?_) ?_
    · intro ρ W hC hc hf hL
      have e9 : ρ (.tmp 9) = .pointer (some ⟨p9, 0, none⟩) := hL 9 (by decide +kernel)
      have hl := hC.2.1.1
      simp [go_sem, hc, hf, e9, hl]
      exact ⟨Below.refl _ _, rfl⟩
    refine kSt rfl (fun φ hφ => gStep_run rfl ?_) ?_
    · intro ρ W hC hc hf hL
      have e7 : ρ (.tmp 7) = .pointer (some ⟨p7, 0, none⟩) := hL 7 (by decide +kernel)
      simp [go_sem, hc, hf, e7]
      exact ⟨Below.refl _ _, rfl⟩
    refine kSt rfl (fun φ hφ => gStep_run rfl ?_) ?_
    · intro ρ W hC hc hf hL
      have e29 : ρ (.tmp 29) = .pointer (some ⟨p7, 1, none⟩) := hL 29 (by decide +kernel)
      have hl := hC.1.rk 1 (by decide)
      simp [go_sem, hc, hf, e29, hl]
      exact ⟨Below.refl _ _, rfl⟩
    refine kSt rfl (fun φ hφ => gStep_run rfl ?_) ?_
    · intro ρ W hC hc hf hL
      have e30 : ρ (.tmp 30) = .int .i64 (k 1) := hL 30 (by decide +kernel)
      simp [go_sem, hc, hf, e30, hw1]
      exact ⟨Below.refl _ _, rfl⟩
    refine kSt rfl (fun φ hφ => gStep_run rfl ?_) ?_
    · intro ρ W hC hc hf hL
      have e28 : ρ (.tmp 28) = .agg #[.int .u64 (dgl (a) 0 : Nat), .int .u64 (dgl (a) 1 : Nat), .int .u64 (dgl (a) 2 : Nat), .int .u64 (dgl (a) 3 : Nat), .int .u64 (dgl (a) 4 : Nat), .int .u64 (dgl (a) 5 : Nat), .int .u64 (dgl (a) 6 : Nat), .int .u64 (dgl (a) 7 : Nat)] := hL 28 (by decide +kernel)
      have e31 : ρ (.tmp 31) = .int .i64 (k 1 - 1) := hL 31 (by decide +kernel)
      simp [go_sem, hc, hf, e28, e31]
      refine (HSH.out W).mono ?_
      rintro e w' ⟨rfl, hb⟩
      exact ⟨_, rfl, by first | exact hb | (subst hb; exact Below.refl _ _), rfl⟩
    refine kSt rfl (fun φ hφ => gStep_run rfl ?_) ?_
    · intro ρ W hC hc hf hL
      have e10 : ρ (.tmp 10) = .pointer (some ⟨p10, 0, none⟩) := hL 10 (by decide +kernel)
      have hl := hC.2.2.1
      simp [go_sem, hc, hf, e10, hl]
      exact ⟨Below.refl _ _, rfl⟩
    refine kSt rfl (fun φ hφ => gStep_run rfl ?_) ?_
    · intro ρ W hC hc hf hL
      have e32 : ρ (.tmp 32) = .agg #[.int .u64 (dgl (u) 0 : Nat), .int .u64 (dgl (u) 1 : Nat), .int .u64 (dgl (u) 2 : Nat), .int .u64 (dgl (u) 3 : Nat), .int .u64 (dgl (u) 4 : Nat), .int .u64 (dgl (u) 5 : Nat), .int .u64 (dgl (u) 6 : Nat), .int .u64 (dgl (u) 7 : Nat)] := hL 32 (by decide +kernel)
      have e33 : ρ (.tmp 33) = .agg #[.int .u64 (dgl (b) 0 : Nat), .int .u64 (dgl (b) 1 : Nat), .int .u64 (dgl (b) 2 : Nat), .int .u64 (dgl (b) 3 : Nat), .int .u64 (dgl (b) 4 : Nat), .int .u64 (dgl (b) 5 : Nat), .int .u64 (dgl (b) 6 : Nat), .int .u64 (dgl (b) 7 : Nat)] := hL 33 (by decide +kernel)
      simp [go_sem, hc, hf, e32, e33]
      refine (HA1.out W).mono ?_
      rintro e w' ⟨rfl, hb⟩
      exact ⟨_, rfl, by first | exact hb | (subst hb; exact Below.refl _ _), rfl⟩
    refine kSt rfl (fun φ hφ => gStep_run rfl (gRun_move 34 27 (.inl rfl) rfl (by decide +kernel) (fun v w h => h))) ?_
    refine kSt rfl (fun φ hφ => gStep_run rfl ?_) ?_
    · intro ρ W hC hc hf hL
      have e27 : ρ (.tmp 27) = .tuple #[.agg #[.int .u64 (dgl (s) 0 : Nat), .int .u64 (dgl (s) 1 : Nat), .int .u64 (dgl (s) 2 : Nat), .int .u64 (dgl (s) 3 : Nat), .int .u64 (dgl (s) 4 : Nat), .int .u64 (dgl (s) 5 : Nat), .int .u64 (dgl (s) 6 : Nat), .int .u64 (dgl (s) 7 : Nat)], .bool ov] := hL 27 (by decide +kernel)
      simp [go_sem, hc, hf, e27]
      exact ⟨Below.refl _ _, rfl⟩
    refine kSt rfl (fun φ hφ => gStep_run rfl ?_) ?_
    · intro ρ W hC hc hf hL
      have e27 : ρ (.tmp 27) = .tuple #[.agg #[.int .u64 (dgl (s) 0 : Nat), .int .u64 (dgl (s) 1 : Nat), .int .u64 (dgl (s) 2 : Nat), .int .u64 (dgl (s) 3 : Nat), .int .u64 (dgl (s) 4 : Nat), .int .u64 (dgl (s) 5 : Nat), .int .u64 (dgl (s) 6 : Nat), .int .u64 (dgl (s) 7 : Nat)], .bool ov] := hL 27 (by decide +kernel)
      simp [go_sem, hc, hf, e27]
      exact ⟨Below.refl _ _, rfl⟩
    refine kSt rfl (fun φ hφ => gStep_run rfl ?_) ?_
    · intro ρ W hC hc hf hL
      have hφ0 : φ 11 = false := hφ 11 (by simp) (by kernel_rfl)
      simp [go_sem, hc, hf]
      refine ⟨below_allocs _ _, ?_⟩
      show (bif φ 11 then SlotIs.box (p10 + 1) (dgl s) else SlotIs.box (p10 + 1) (fun _ => 0)).R _ _
      rw [hφ0]
      exact ⟨_, rfl, hC.2.2.2, liesF_new _ (fun _ => 0) _, fun i => by simp [go_sem]⟩
    refine kStS rfl ⟨rfl, rfl, ?_⟩ ?_
    · intro φ ρ W hφ hC hc hL
      have b11 := hL 11 (by decide +kernel)
      have e35 : ρ (.tmp 35) = .agg #[.int .u64 (dgl (s) 0 : Nat), .int .u64 (dgl (s) 1 : Nat), .int .u64 (dgl (s) 2 : Nat), .int .u64 (dgl (s) 3 : Nat), .int .u64 (dgl (s) 4 : Nat), .int .u64 (dgl (s) 5 : Nat), .int .u64 (dgl (s) 6 : Nat), .int .u64 (dgl (s) 7 : Nat)] := hL 35 (by decide +kernel)
      have b11 : (bif φ 11 then SlotIs.box (p10 + 1) (dgl s) else SlotIs.box (p10 + 1) (fun _ => 0)).R (ρ (.tmp 11)) W := hL 11 (by decide +kernel)
      rw [hφ] at b11
      obtain ⟨p11, e11, q11, l11, z11⟩ := b11
      have hz := l11.1
      have hzl := l11.2
      refine gUpon_of ((((((((W.setCell ⟨p11, 0, none⟩ (.int .u64 (dgl s 0 : Nat))).setCell ⟨p11, 1, none⟩ (.int .u64 (dgl s 1 : Nat))).setCell ⟨p11, 2, none⟩ (.int .u64 (dgl s 2 : Nat))).setCell ⟨p11, 3, none⟩ (.int .u64 (dgl s 3 : Nat))).setCell ⟨p11, 4, none⟩ (.int .u64 (dgl s 4 : Nat))).setCell ⟨p11, 5, none⟩ (.int .u64 (dgl s 5 : Nat))).setCell ⟨p11, 6, none⟩ (.int .u64 (dgl s 6 : Nat))).setCell ⟨p11, 7, none⟩ (.int .u64 (dgl s 7 : Nat))) ?_ (fun _ => ?_)
      · simp [go_sem, hc, e35, e11, hz, hzl, z11, gUpon]
      have hs8 := below_set8 (Below.refl (p10 + 1) W) p11 q11 (.int .u64 (dgl s 0 : Nat)) (.int .u64 (dgl s 1 : Nat)) (.int .u64 (dgl s 2 : Nat)) (.int .u64 (dgl s 3 : Nat)) (.int .u64 (dgl s 4 : Nat)) (.int .u64 (dgl s 5 : Nat)) (.int .u64 (dgl s 6 : Nat)) (.int .u64 (dgl s 7 : Nat))
      have hN := HN.out
      refine ⟨⟨hC.1.under hs8 (by omega), lies_box hC.2.1 hs8 (by omega), lies_box hC.2.2 hs8 (by omega)⟩, fun t => ?_⟩
      refine (tbl_imp rfl (fun _ => val_imp) (tbl_imp rfl (fun _ => val_imp) (tbl_imp rfl (fun _ => val_imp) (tbl_imp rfl (fun _ => val_imp) (tbl_imp rfl (fun _ => val_imp) (tbl_imp rfl (fun _ => val_imp) (tbl_imp rfl (fun _ => val_imp) (tbl_imp rfl (fun _ => val_imp) (tbl_imp rfl (fun _ => val_imp) (tbl_imp rfl (fun _ => val_imp) (tbl_imp rfl (fun ht h => ?_) tbl_nil_imp)))))))))))
      subst ht
      show (bif (φ 11 || true) then SlotIs.box (p10 + 1) (dgl s) else SlotIs.box (p10 + 1) (fun _ => 0)).R _ _
      rw [Bool.or_true]
      exact ⟨p11, e11, q11, set8_same W p11 (dgl s) (fun _ => 0) l11, fun i => by simpa [go_sem] using z11 i⟩
    exact kSt0
  · intro W hC
    refine gFi 28 rfl ?_
    rintro _ rfl
    refine gFi 29 rfl ?_
    rintro _ rfl
    refine gFi 30 rfl ?_
    rintro _ rfl
    refine gFi 31 rfl ?_
    rintro _ rfl
    refine gFi 32 rfl ?_
    rintro _ rfl
    refine gFi 33 rfl ?_
    rintro _ rfl
    refine gFi 34 rfl ?_
    rintro _ rfl
    refine gFi 27 rfl ?_
    rintro _ rfl
    refine gFi 35 rfl ?_
    rintro _ rfl
    refine gFi 36 rfl ?_
    rintro _ rfl
    refine gFi 11 rfl ?_
    rintro _ ⟨p11, rfl, q11, l11, z11⟩
    refine gFiN rfl ?_
    refine gFi0 ?_
    simp only [List.drop_succ_cons, List.drop_zero, Act.put, List.setIfInBounds_toArray, List.set_cons_succ, List.set_cons_zero]
    have HC := hide hC.1
    have HL := hide l11
    have HN2 := hide (show p7 + 1 ≤ p11 by have := HN.out; omega)
    clear hC h1 l11
    cases neg
    · have hcs := HL.out.1
      go_wp2_with fail
      refine (wideLow_any (dgl s) _).mono ?_
      rintro e w3 ⟨rfl, hb3⟩
      replace HC := hide (HC.out.below hb3)
      clear hb3 hcs HL
      have hr0 := HC.out.rw 0 (by decide)
      have hr1 := HC.out.rw 1 (by decide)
      have hrf := HC.out.fz
      have hlt := HC.out.lt
      have HB := hide HC.out.bel
      clear HC
      go_wp2
      exact bodyPost_ret (v := .agg #[.int .u64 (dgl s 1 : Nat), .int .u64 (dgl s 0 : Nat)]) (by simp [results, Tryd.results105, go_sem, hr0, hr1, hlt]) rfl ⟨rfl, (HB.out.setCell (p := ⟨w.heap.size, 0, none⟩) (Nat.le_refl _) _).setCell (p := ⟨w.heap.size, 1, none⟩) (Nat.le_refl _) _⟩
    · go_upto_region 7 with fail
      refine wp_gen (fun W => MadeSt w.heap.size p7 w k W ∧ LiesF W p11 (dgl s) ∧ ∀ i, W.frozen? ⟨p11, i, none⟩ = false) ⟨HC.out, HL.out, z11⟩ ?_
      clear HC HL z11
      rintro W2 ⟨h2, h3, z11⟩
      refine wp_region_storeK 10 [9] [39, 40, 41, 42, 43, 44, 38, 45, 46] (fun bs => [(39, .val (.agg #[.int .u64 (dgl (s) 0 : Nat), .int .u64 (dgl (s) 1 : Nat), .int .u64 (dgl (s) 2 : Nat), .int .u64 (dgl (s) 3 : Nat), .int .u64 (dgl (s) 4 : Nat), .int .u64 (dgl (s) 5 : Nat), .int .u64 (dgl (s) 6 : Nat), .int .u64 (dgl (s) 7 : Nat)])), (40, .val (.pointer (some ⟨p7, 0, none⟩))), (41, .val (.int .i64 (k 0))), (42, .val (.int .i64 (k 0 - 1))), (43, .val (.agg #[.int .u64 (dgl (p) 0 : Nat), .int .u64 (dgl (p) 1 : Nat), .int .u64 (dgl (p) 2 : Nat), .int .u64 (dgl (p) 3 : Nat), .int .u64 (dgl (p) 4 : Nat), .int .u64 (dgl (p) 5 : Nat), .int .u64 (dgl (p) 6 : Nat), .int .u64 (dgl (p) 7 : Nat)])), (44, .val (.tuple #[.agg #[.int .u64 (dgl (t) 0 : Nat), .int .u64 (dgl (t) 1 : Nat), .int .u64 (dgl (t) 2 : Nat), .int .u64 (dgl (t) 3 : Nat), .int .u64 (dgl (t) 4 : Nat), .int .u64 (dgl (t) 5 : Nat), .int .u64 (dgl (t) 6 : Nat), .int .u64 (dgl (t) 7 : Nat)], .bool ov2])), (38, .val (.tuple #[.agg #[.int .u64 (dgl (t) 0 : Nat), .int .u64 (dgl (t) 1 : Nat), .int .u64 (dgl (t) 2 : Nat), .int .u64 (dgl (t) 3 : Nat), .int .u64 (dgl (t) 4 : Nat), .int .u64 (dgl (t) 5 : Nat), .int .u64 (dgl (t) 6 : Nat), .int .u64 (dgl (t) 7 : Nat)], .bool ov2])), (45, .val (.agg #[.int .u64 (dgl (t) 0 : Nat), .int .u64 (dgl (t) 1 : Nat), .int .u64 (dgl (t) 2 : Nat), .int .u64 (dgl (t) 3 : Nat), .int .u64 (dgl (t) 4 : Nat), .int .u64 (dgl (t) 5 : Nat), .int .u64 (dgl (t) 6 : Nat), .int .u64 (dgl (t) 7 : Nat)])), (46, .val (.bool ov2))])
        (fun bs W => MadeSt w.heap.size p7 w k W ∧ (∀ b, bs.headD false = b → LiesF W p11 (dgl (bif b then t else s))) ∧ ∀ i, W.frozen? ⟨p11, i, none⟩ = false) (fun bs => rfl) mixedOk (by kernel_rfl) (by kernel_rfl) (by kernel_rfl) (⟨h2.below (Below.refl _ _).drew, fun b hb => by subst hb; exact h3.below (Below.refl _ _).drew, fun i => (Below.refl _ _).drew.frozen (p := ⟨p11, i, none⟩) h3.2 |>.trans (z11 i)⟩) (fun bs W W' h hb => ⟨h.1.below hb, fun b hq => (h.2.1 b hq).below hb, fun i => (hb.frozen (p := ⟨p11, i, none⟩) (h.2.1 _ rfl).2).trans (h.2.2 i)⟩) ?_ ?_
      · refine kSt rfl (fun φ hφ => gStep_run rfl ?_) ?_
        · intro ρ W hC hc hf hL
          have e11 : ρ (.tmp 11) = .pointer (some ⟨p11, 0, none⟩) := hL 11 (by decide +kernel)
          have hφ0 : φ 9 = false := hφ 9 (by simp) (by kernel_rfl)
          have hD : LiesF W p11 (dgl s) := hC.2.1 false hφ0
          have hl := hD.1
          simp [go_sem, hc, hf, e11, hl]
          exact ⟨Below.refl _ _, rfl⟩
        refine kSt rfl (fun φ hφ => gStep_run rfl ?_) ?_
        · intro ρ W hC hc hf hL
          have e7 : ρ (.tmp 7) = .pointer (some ⟨p7, 0, none⟩) := hL 7 (by decide +kernel)
          simp [go_sem, hc, hf, e7]
          exact ⟨Below.refl _ _, rfl⟩
        refine kSt rfl (fun φ hφ => gStep_run rfl ?_) ?_
        · intro ρ W hC hc hf hL
          have e40 : ρ (.tmp 40) = .pointer (some ⟨p7, 0, none⟩) := hL 40 (by decide +kernel)
          have hl := hC.1.rk 0 (by decide)
          simp [go_sem, hc, hf, e40, hl]
          exact ⟨Below.refl _ _, rfl⟩
        refine kSt rfl (fun φ hφ => gStep_run rfl ?_) ?_
        · intro ρ W hC hc hf hL
          have e41 : ρ (.tmp 41) = .int .i64 (k 0) := hL 41 (by decide +kernel)
          simp [go_sem, hc, hf, e41, hw0]
          exact ⟨Below.refl _ _, rfl⟩
        refine kSt rfl (fun φ hφ => gStep_run rfl ?_) ?_
        · intro ρ W hC hc hf hL
          have e42 : ρ (.tmp 42) = .int .i64 (k 0 - 1) := hL 42 (by decide +kernel)
          simp [go_sem, hc, hf, e42]
          refine (HPO.out W).mono ?_
          rintro e w' ⟨rfl, hb⟩
          exact ⟨_, rfl, by first | exact hb | (subst hb; exact Below.refl _ _), rfl⟩
        refine kSt rfl (fun φ hφ => gStep_run rfl ?_) ?_
        · intro ρ W hC hc hf hL
          have e39 : ρ (.tmp 39) = .agg #[.int .u64 (dgl (s) 0 : Nat), .int .u64 (dgl (s) 1 : Nat), .int .u64 (dgl (s) 2 : Nat), .int .u64 (dgl (s) 3 : Nat), .int .u64 (dgl (s) 4 : Nat), .int .u64 (dgl (s) 5 : Nat), .int .u64 (dgl (s) 6 : Nat), .int .u64 (dgl (s) 7 : Nat)] := hL 39 (by decide +kernel)
          have e43 : ρ (.tmp 43) = .agg #[.int .u64 (dgl (p) 0 : Nat), .int .u64 (dgl (p) 1 : Nat), .int .u64 (dgl (p) 2 : Nat), .int .u64 (dgl (p) 3 : Nat), .int .u64 (dgl (p) 4 : Nat), .int .u64 (dgl (p) 5 : Nat), .int .u64 (dgl (p) 6 : Nat), .int .u64 (dgl (p) 7 : Nat)] := hL 43 (by decide +kernel)
          simp [go_sem, hc, hf, e39, e43]
          refine (HA2.out W).mono ?_
          rintro e w' ⟨rfl, hb⟩
          exact ⟨_, rfl, by first | exact hb | (subst hb; exact Below.refl _ _), rfl⟩
        refine kSt rfl (fun φ hφ => gStep_run rfl (gRun_move 44 38 (.inl rfl) rfl (by decide +kernel) (fun v w h => h))) ?_
        refine kSt rfl (fun φ hφ => gStep_run rfl ?_) ?_
        · intro ρ W hC hc hf hL
          have e38 : ρ (.tmp 38) = .tuple #[.agg #[.int .u64 (dgl (t) 0 : Nat), .int .u64 (dgl (t) 1 : Nat), .int .u64 (dgl (t) 2 : Nat), .int .u64 (dgl (t) 3 : Nat), .int .u64 (dgl (t) 4 : Nat), .int .u64 (dgl (t) 5 : Nat), .int .u64 (dgl (t) 6 : Nat), .int .u64 (dgl (t) 7 : Nat)], .bool ov2] := hL 38 (by decide +kernel)
          simp [go_sem, hc, hf, e38]
          exact ⟨Below.refl _ _, rfl⟩
        refine kSt rfl (fun φ hφ => gStep_run rfl ?_) ?_
        · intro ρ W hC hc hf hL
          have e38 : ρ (.tmp 38) = .tuple #[.agg #[.int .u64 (dgl (t) 0 : Nat), .int .u64 (dgl (t) 1 : Nat), .int .u64 (dgl (t) 2 : Nat), .int .u64 (dgl (t) 3 : Nat), .int .u64 (dgl (t) 4 : Nat), .int .u64 (dgl (t) 5 : Nat), .int .u64 (dgl (t) 6 : Nat), .int .u64 (dgl (t) 7 : Nat)], .bool ov2] := hL 38 (by decide +kernel)
          simp [go_sem, hc, hf, e38]
          exact ⟨Below.refl _ _, rfl⟩
        refine kStS rfl ⟨rfl, rfl, ?_⟩ ?_
        · intro φ ρ W hφ hC hc hL
          have e11 : ρ (.tmp 11) = .pointer (some ⟨p11, 0, none⟩) := hL 11 (by decide +kernel)
          have e45 : ρ (.tmp 45) = .agg #[.int .u64 (dgl (t) 0 : Nat), .int .u64 (dgl (t) 1 : Nat), .int .u64 (dgl (t) 2 : Nat), .int .u64 (dgl (t) 3 : Nat), .int .u64 (dgl (t) 4 : Nat), .int .u64 (dgl (t) 5 : Nat), .int .u64 (dgl (t) 6 : Nat), .int .u64 (dgl (t) 7 : Nat)] := hL 45 (by decide +kernel)
          have hD : LiesF W p11 (dgl s) := hC.2.1 false hφ
          have hr := hD.1
          have hrl := hD.2
          have hrf := hC.2.2
          refine gUpon_of ((((((((W.setCell ⟨p11, 0, none⟩ (.int .u64 (dgl t 0 : Nat))).setCell ⟨p11, 1, none⟩ (.int .u64 (dgl t 1 : Nat))).setCell ⟨p11, 2, none⟩ (.int .u64 (dgl t 2 : Nat))).setCell ⟨p11, 3, none⟩ (.int .u64 (dgl t 3 : Nat))).setCell ⟨p11, 4, none⟩ (.int .u64 (dgl t 4 : Nat))).setCell ⟨p11, 5, none⟩ (.int .u64 (dgl t 5 : Nat))).setCell ⟨p11, 6, none⟩ (.int .u64 (dgl t 6 : Nat))).setCell ⟨p11, 7, none⟩ (.int .u64 (dgl t 7 : Nat))) ?_ (fun _ => ?_)
          · simp [go_sem, hc, e11, e45, hr, hrl, hrf, gUpon]
          have hs8 := below_set8 (Below.refl (p7 + 1) W) p11 HN2.out (.int .u64 (dgl t 0 : Nat)) (.int .u64 (dgl t 1 : Nat)) (.int .u64 (dgl t 2 : Nat)) (.int .u64 (dgl t 3 : Nat)) (.int .u64 (dgl t 4 : Nat)) (.int .u64 (dgl t 5 : Nat)) (.int .u64 (dgl t 6 : Nat)) (.int .u64 (dgl t 7 : Nat))
          refine ⟨⟨hC.1.under hs8 (by omega), fun b hb => ?_, fun i => by simpa [go_sem] using hrf i⟩, fun t => (tbl_imp rfl (fun _ => val_imp) (tbl_imp rfl (fun _ => val_imp) (tbl_imp rfl (fun _ => val_imp) (tbl_imp rfl (fun _ => val_imp) (tbl_imp rfl (fun _ => val_imp) (tbl_imp rfl (fun _ => val_imp) (tbl_imp rfl (fun _ => val_imp) (tbl_imp rfl (fun _ => val_imp) (tbl_imp rfl (fun _ => val_imp) tbl_nil_imp)))))))))⟩
          have hb2 : (φ 9 || true) = b := hb
          rw [Bool.or_true] at hb2
          subst hb2
          exact set8_same W p11 (dgl t) (dgl s) hD
        exact kSt0
      · intro W hC
        refine gFi 39 rfl ?_
        rintro _ rfl
        refine gFi 40 rfl ?_
        rintro _ rfl
        refine gFi 41 rfl ?_
        rintro _ rfl
        refine gFi 42 rfl ?_
        rintro _ rfl
        refine gFi 43 rfl ?_
        rintro _ rfl
        refine gFi 44 rfl ?_
        rintro _ rfl
        refine gFi 38 rfl ?_
        rintro _ rfl
        refine gFi 45 rfl ?_
        rintro _ rfl
        refine gFi 46 rfl ?_
        rintro _ rfl
        refine gFiN rfl ?_
        refine gFi0 ?_
        simp only [List.drop_succ_cons, List.drop_zero, Act.put, List.setIfInBounds_toArray, List.set_cons_succ, List.set_cons_zero]
        have HL : Hid (LiesF W p11 (dgl t)) := hC.2.1 true rfl
        have HC := hide hC.1
        clear hC h2 h3 z11
        have hcs := HL.out.1
        go_wp2_with fail
        refine (wideLow_any (dgl t) _).mono ?_
        rintro e w3 ⟨rfl, hb3⟩
        replace HC := hide (HC.out.below hb3)
        clear hb3 hcs HL
        have hr0 := HC.out.rw 0 (by decide)
        have hr1 := HC.out.rw 1 (by decide)
        have hrf := HC.out.fz
        have hlt := HC.out.lt
        have HB := hide HC.out.bel
        clear HC
        go_wp2
        exact bodyPost_ret (v := .agg #[.int .u64 (dgl t 1 : Nat), .int .u64 (dgl t 0 : Nat)]) (by simp [results, Tryd.results105, go_sem, hr0, hr1, hlt]) rfl ⟨rfl, (HB.out.setCell (p := ⟨w.heap.size, 0, none⟩) (Nat.le_refl _) _).setCell (p := ⟨w.heap.size, 1, none⟩) (Nat.le_refl _) _⟩

end Go.Proofs.YtidfegilddlglaaDoor

