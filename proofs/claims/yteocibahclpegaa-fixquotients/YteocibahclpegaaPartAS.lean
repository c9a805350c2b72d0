/- Contracts and laws: FixD, FixE, FixN. -/
import Derived.Test.YteocibahclpegaaPartAP
import Derived.Test.YteocibahclpegaaPartAL
import Derived.Test.YteocibahclpegaaPartAH
import Derived.Test.YteocibahclpegaaPartAR
import Derived.Test.YteocibahclpegaaPartAO
/- Contracts: fix.Two, Near; the law's bent guesses and example. -/
set_option linter.unusedVariables false
set_option linter.unusedSimpArgs false
set_option maxRecDepth 8000
namespace Go.Proofs.Yteocibahclpegaa
open Go.RowKit Plain

/-- A number in a box, its function's result. -/
def TzSt (a : Nat) (w W : World) : Prop := LiesF W w.heap.size (dgl a) ∧ LiesF W (w.heap.size + 1) (fun _ => 0) ∧ (∀ i, W.frozen? ⟨w.heap.size + 1, i, none⟩ = false) ∧ Below w.heap.size w W
theorem TzSt.under {a : Nat} {w W W' : World} (h : TzSt a w W) {C : Nat} (hb : Below C W W') (hc : w.heap.size + 1 < C) : TzSt a w W' :=
  ⟨lies_box h.1 hb (by omega), lies_box h.2.1 hb hc, fun i => (hb.frozen (p := ⟨w.heap.size + 1, i, none⟩) hc).trans (h.2.2.1 i), h.2.2.2.trans (hb.mono (by omega))⟩
theorem TzSt.below {a : Nat} {w W W' : World} (h : TzSt a w W) (hb : Below W.heap.size W W') : TzSt a w W' := h.under hb h.2.1.2
theorem tzSt_start (a : Nat) (w : World) (e1 e2 : TypeId) : TzSt a w ((w.alloc (.cells #[.int .u64 (dgl (a) 0 : Nat), .int .u64 (dgl (a) 1 : Nat), .int .u64 (dgl (a) 2 : Nat), .int .u64 (dgl (a) 3 : Nat), .int .u64 (dgl (a) 4 : Nat), .int .u64 (dgl (a) 5 : Nat), .int .u64 (dgl (a) 6 : Nat), .int .u64 (dgl (a) 7 : Nat)] e1)).alloc (.cells #[.int .u64 0, .int .u64 0, .int .u64 0, .int .u64 0, .int .u64 0, .int .u64 0, .int .u64 0, .int .u64 0] e2)) := by
  have h := liesF_new (w.alloc (.cells #[.int .u64 (dgl (a) 0 : Nat), .int .u64 (dgl (a) 1 : Nat), .int .u64 (dgl (a) 2 : Nat), .int .u64 (dgl (a) 3 : Nat), .int .u64 (dgl (a) 4 : Nat), .int .u64 (dgl (a) 5 : Nat), .int .u64 (dgl (a) 6 : Nat), .int .u64 (dgl (a) 7 : Nat)] e1)) (fun _ => 0) e2
  rw [World.size_alloc] at h
  exact ⟨(liesF_new w (dgl a) e1).alloc _, h, fun i => by simp [go_sem], below_trans (below_allocs w _) (below_allocs _ _)⟩
set_option maxHeartbeats 2000000 in
theorem ftwo_walk (a pw x : Nat) (n m : Int) (t : Bool) (w : World) (HNM : Hid (IntKind.i64.wrap (n + 1) = m)) (HPW : Hid (∀ w, Calls Try.prog 64 #[.int .i64 m] w fun e w' => e = .returned (.agg #[.int .u64 (dgl (pw) 0 : Nat), .int .u64 (dgl (pw) 1 : Nat), .int .u64 (dgl (pw) 2 : Nat), .int .u64 (dgl (pw) 3 : Nat), .int .u64 (dgl (pw) 4 : Nat), .int .u64 (dgl (pw) 5 : Nat), .int .u64 (dgl (pw) 6 : Nat), .int .u64 (dgl (pw) 7 : Nat)]) ∧ Below w.heap.size w w'))
    (HSU : Hid (∀ w, Calls Try.prog 58 #[.agg #[.int .u64 (dgl (pw) 0 : Nat), .int .u64 (dgl (pw) 1 : Nat), .int .u64 (dgl (pw) 2 : Nat), .int .u64 (dgl (pw) 3 : Nat), .int .u64 (dgl (pw) 4 : Nat), .int .u64 (dgl (pw) 5 : Nat), .int .u64 (dgl (pw) 6 : Nat), .int .u64 (dgl (pw) 7 : Nat)], .agg #[.int .u64 (dgl (a) 0 : Nat), .int .u64 (dgl (a) 1 : Nat), .int .u64 (dgl (a) 2 : Nat), .int .u64 (dgl (a) 3 : Nat), .int .u64 (dgl (a) 4 : Nat), .int .u64 (dgl (a) 5 : Nat), .int .u64 (dgl (a) 6 : Nat), .int .u64 (dgl (a) 7 : Nat)]] w fun e w' => e = .returned (.tuple #[.agg #[.int .u64 (dgl (x) 0 : Nat), .int .u64 (dgl (x) 1 : Nat), .int .u64 (dgl (x) 2 : Nat), .int .u64 (dgl (x) 3 : Nat), .int .u64 (dgl (x) 4 : Nat), .int .u64 (dgl (x) 5 : Nat), .int .u64 (dgl (x) 6 : Nat), .int .u64 (dgl (x) 7 : Nat)], .bool t]) ∧ Below w.heap.size w w')) :
    Calls Try.prog 41 #[.int .i64 n, .agg #[.int .u64 (dgl (a) 0 : Nat), .int .u64 (dgl (a) 1 : Nat), .int .u64 (dgl (a) 2 : Nat), .int .u64 (dgl (a) 3 : Nat), .int .u64 (dgl (a) 4 : Nat), .int .u64 (dgl (a) 5 : Nat), .int .u64 (dgl (a) 6 : Nat), .int .u64 (dgl (a) 7 : Nat)]] w fun e' w' => e' = .returned (.agg #[.int .u64 (dgl (x) 0 : Nat), .int .u64 (dgl (x) 1 : Nat), .int .u64 (dgl (x) 2 : Nat), .int .u64 (dgl (x) 3 : Nat), .int .u64 (dgl (x) 4 : Nat), .int .u64 (dgl (x) 5 : Nat), .int .u64 (dgl (x) 6 : Nat), .int .u64 (dgl (x) 7 : Nat)]) ∧ Below w.heap.size w w' := by
  have HS := hide (tzSt_start a w 32 32)
  go_enter Try.func41, Try.ntmps41
  go_upto_region 1 with fail
  refine wp_gen (fun W => TzSt a w W) HS.out ?_
  clear HS
  rintro W1 h1
  refine wp_region_storeK 11 [9] [8, 9, 10, 11, 12, 7, 13, 14, 5, 6] (fun bs => [(8, .val (.int .i64 n)), (9, .val (.int .i64 m)), (10, .val (.agg #[.int .u64 (dgl (pw) 0 : Nat), .int .u64 (dgl (pw) 1 : Nat), .int .u64 (dgl (pw) 2 : Nat), .int .u64 (dgl (pw) 3 : Nat), .int .u64 (dgl (pw) 4 : Nat), .int .u64 (dgl (pw) 5 : Nat), .int .u64 (dgl (pw) 6 : Nat), .int .u64 (dgl (pw) 7 : Nat)])), (11, .val (.agg #[.int .u64 (dgl (a) 0 : Nat), .int .u64 (dgl (a) 1 : Nat), .int .u64 (dgl (a) 2 : Nat), .int .u64 (dgl (a) 3 : Nat), .int .u64 (dgl (a) 4 : Nat), .int .u64 (dgl (a) 5 : Nat), .int .u64 (dgl (a) 6 : Nat), .int .u64 (dgl (a) 7 : Nat)])), (12, .val (.tuple #[.agg #[.int .u64 (dgl (x) 0 : Nat), .int .u64 (dgl (x) 1 : Nat), .int .u64 (dgl (x) 2 : Nat), .int .u64 (dgl (x) 3 : Nat), .int .u64 (dgl (x) 4 : Nat), .int .u64 (dgl (x) 5 : Nat), .int .u64 (dgl (x) 6 : Nat), .int .u64 (dgl (x) 7 : Nat)], .bool t])), (7, .val (.tuple #[.agg #[.int .u64 (dgl (x) 0 : Nat), .int .u64 (dgl (x) 1 : Nat), .int .u64 (dgl (x) 2 : Nat), .int .u64 (dgl (x) 3 : Nat), .int .u64 (dgl (x) 4 : Nat), .int .u64 (dgl (x) 5 : Nat), .int .u64 (dgl (x) 6 : Nat), .int .u64 (dgl (x) 7 : Nat)], .bool t])), (13, .val (.agg #[.int .u64 (dgl (x) 0 : Nat), .int .u64 (dgl (x) 1 : Nat), .int .u64 (dgl (x) 2 : Nat), .int .u64 (dgl (x) 3 : Nat), .int .u64 (dgl (x) 4 : Nat), .int .u64 (dgl (x) 5 : Nat), .int .u64 (dgl (x) 6 : Nat), .int .u64 (dgl (x) 7 : Nat)])), (14, .val (.bool t)), (5, bif bs.headD false then SlotIs.box (w.heap.size + 2) (dgl x) else SlotIs.box (w.heap.size + 2) (fun _ => 0)), (6, .val (.bool t))])
    (fun _ W => TzSt a w W) (fun bs => rfl) mixedOk (by kernel_rfl) (by kernel_rfl) (by kernel_rfl) (h1.below (Below.refl _ _).drew) (fun bs W W' h hb => h.below hb) ?_ ?_
  · refine kSt rfl (fun φ hφ => gStep_run rfl (gRun_move 0 8 (.inl rfl) rfl (by decide +kernel) (fun v w h => h))) ?_
    refine kSt rfl (fun φ hφ => gStep_run rfl ?_) ?_
    · intro ρ W hC hc hf hL
      have e8 : ρ (.tmp 8) = .int .i64 n := hL 8 (by decide +kernel)
      have hnm := HNM.out
      simp [go_sem, hc, hf, e8, hnm]
      exact ⟨Below.refl _ _, rfl⟩
    refine kSt rfl (fun φ hφ => gStep_run rfl ?_) ?_
    · intro ρ W hC hc hf hL
      have e9 : ρ (.tmp 9) = .int .i64 m := hL 9 (by decide +kernel)
      simp [go_sem, hc, hf, e9]
      refine (HPW.out W).mono ?_
      rintro e w' ⟨rfl, hb⟩
      exact ⟨_, rfl, by first | exact hb | (subst hb; exact Below.refl _ _), rfl⟩
    refine kSt rfl (fun φ hφ => gStep_run rfl ?_) ?_
    · intro ρ W hC hc hf hL
      have e3 : ρ (.tmp 3) = .pointer (some ⟨w.heap.size, 0, none⟩) := hL 3 (by decide +kernel)
      have hl := hC.1.1
      simp [go_sem, hc, hf, e3, hl]
      exact ⟨Below.refl _ _, rfl⟩
    refine kSt rfl (fun φ hφ => gStep_run rfl ?_) ?_
    · intro ρ W hC hc hf hL
      have e10 : ρ (.tmp 10) = .agg #[.int .u64 (dgl (pw) 0 : Nat), .int .u64 (dgl (pw) 1 : Nat), .int .u64 (dgl (pw) 2 : Nat), .int .u64 (dgl (pw) 3 : Nat), .int .u64 (dgl (pw) 4 : Nat), .int .u64 (dgl (pw) 5 : Nat), .int .u64 (dgl (pw) 6 : Nat), .int .u64 (dgl (pw) 7 : Nat)] := hL 10 (by decide +kernel)
      have e11 : ρ (.tmp 11) = .agg #[.int .u64 (dgl (a) 0 : Nat), .int .u64 (dgl (a) 1 : Nat), .int .u64 (dgl (a) 2 : Nat), .int .u64 (dgl (a) 3 : Nat), .int .u64 (dgl (a) 4 : Nat), .int .u64 (dgl (a) 5 : Nat), .int .u64 (dgl (a) 6 : Nat), .int .u64 (dgl (a) 7 : Nat)] := hL 11 (by decide +kernel)
      simp [go_sem, hc, hf, e10, e11]
      refine (HSU.out W).mono ?_
      rintro e w' ⟨rfl, hb⟩
      exact ⟨_, rfl, by first | exact hb | (subst hb; exact Below.refl _ _), rfl⟩
    refine kSt rfl (fun φ hφ => gStep_run rfl (gRun_move 12 7 (.inl rfl) rfl (by decide +kernel) (fun v w h => h))) ?_
    refine kSt rfl (fun φ hφ => gStep_run rfl ?_) ?_
    · intro ρ W hC hc hf hL
      have e7 : ρ (.tmp 7) = .tuple #[.agg #[.int .u64 (dgl (x) 0 : Nat), .int .u64 (dgl (x) 1 : Nat), .int .u64 (dgl (x) 2 : Nat), .int .u64 (dgl (x) 3 : Nat), .int .u64 (dgl (x) 4 : Nat), .int .u64 (dgl (x) 5 : Nat), .int .u64 (dgl (x) 6 : Nat), .int .u64 (dgl (x) 7 : Nat)], .bool t] := hL 7 (by decide +kernel)
      simp [go_sem, hc, hf, e7]
      exact ⟨Below.refl _ _, rfl⟩
    refine kSt rfl (fun φ hφ => gStep_run rfl ?_) ?_
    · intro ρ W hC hc hf hL
      have e7 : ρ (.tmp 7) = .tuple #[.agg #[.int .u64 (dgl (x) 0 : Nat), .int .u64 (dgl (x) 1 : Nat), .int .u64 (dgl (x) 2 : Nat), .int .u64 (dgl (x) 3 : Nat), .int .u64 (dgl (x) 4 : Nat), .int .u64 (dgl (x) 5 : Nat), .int .u64 (dgl (x) 6 : Nat), .int .u64 (dgl (x) 7 : Nat)], .bool t] := hL 7 (by decide +kernel)
      simp [go_sem, hc, hf, e7]
      exact ⟨Below.refl _ _, rfl⟩
    refine kSt rfl (fun φ hφ => gStep_run rfl ?_) ?_
    · intro ρ W hC hc hf hL
      have hφ0 : φ 9 = false := hφ 9 (by simp) (by kernel_rfl)
      simp [go_sem, hc, hf]
      refine ⟨below_allocs _ _, ?_⟩
      show (bif φ 9 then SlotIs.box (w.heap.size + 2) (dgl x) else SlotIs.box (w.heap.size + 2) (fun _ => 0)).R _ _
      rw [hφ0]
      exact ⟨_, rfl, hC.2.1.2, liesF_new _ (fun _ => 0) _, fun i => by simp [go_sem]⟩
    refine kStS rfl ⟨rfl, rfl, ?_⟩ ?_
    · intro φ ρ W hφ hC hc hL
      have b5 := hL 5 (by decide +kernel)
      have e13 : ρ (.tmp 13) = .agg #[.int .u64 (dgl (x) 0 : Nat), .int .u64 (dgl (x) 1 : Nat), .int .u64 (dgl (x) 2 : Nat), .int .u64 (dgl (x) 3 : Nat), .int .u64 (dgl (x) 4 : Nat), .int .u64 (dgl (x) 5 : Nat), .int .u64 (dgl (x) 6 : Nat), .int .u64 (dgl (x) 7 : Nat)] := hL 13 (by decide +kernel)
      have bx : (bif φ 9 then SlotIs.box (w.heap.size + 2) (dgl x) else SlotIs.box (w.heap.size + 2) (fun _ => 0)).R (ρ (.tmp 5)) W := hL 5 (by decide +kernel)
      rw [hφ] at bx
      obtain ⟨px, ex, qx, lx, zx⟩ := bx
      have hz := lx.1
      have hzl := lx.2
      refine gUpon_of ((((((((W.setCell ⟨px, 0, none⟩ (.int .u64 (dgl x 0 : Nat))).setCell ⟨px, 1, none⟩ (.int .u64 (dgl x 1 : Nat))).setCell ⟨px, 2, none⟩ (.int .u64 (dgl x 2 : Nat))).setCell ⟨px, 3, none⟩ (.int .u64 (dgl x 3 : Nat))).setCell ⟨px, 4, none⟩ (.int .u64 (dgl x 4 : Nat))).setCell ⟨px, 5, none⟩ (.int .u64 (dgl x 5 : Nat))).setCell ⟨px, 6, none⟩ (.int .u64 (dgl x 6 : Nat))).setCell ⟨px, 7, none⟩ (.int .u64 (dgl x 7 : Nat))) ?_ (fun _ => ?_)
      · simp [go_sem, hc, e13, ex, hz, hzl, zx, gUpon]
      have hs8 := below_set8 (Below.refl (w.heap.size + 2) W) px qx (.int .u64 (dgl x 0 : Nat)) (.int .u64 (dgl x 1 : Nat)) (.int .u64 (dgl x 2 : Nat)) (.int .u64 (dgl x 3 : Nat)) (.int .u64 (dgl x 4 : Nat)) (.int .u64 (dgl x 5 : Nat)) (.int .u64 (dgl x 6 : Nat)) (.int .u64 (dgl x 7 : Nat))
      refine ⟨hC.under hs8 (by omega), fun t => ?_⟩
      refine (tbl_imp rfl (fun _ => val_imp) (tbl_imp rfl (fun _ => val_imp) (tbl_imp rfl (fun _ => val_imp) (tbl_imp rfl (fun _ => val_imp) (tbl_imp rfl (fun _ => val_imp) (tbl_imp rfl (fun _ => val_imp) (tbl_imp rfl (fun _ => val_imp) (tbl_imp rfl (fun _ => val_imp) (tbl_imp rfl (fun ht h => ?_) (tbl_imp rfl (fun _ => val_imp) tbl_nil_imp))))))))))
      · subst ht
        show (bif (φ 9 || true) then SlotIs.box (w.heap.size + 2) (dgl x) else SlotIs.box (w.heap.size + 2) (fun _ => 0)).R _ _
        rw [Bool.or_true]
        exact ⟨px, ex, qx, set8_same W px (dgl x) (fun _ => 0) lx, fun i => by simpa [go_sem] using zx i⟩
    refine kSt rfl (fun φ hφ => gStep_run rfl (gRun_move 14 6 (.inr rfl) rfl (by decide +kernel) (fun v w h => h))) ?_
    exact kSt0
  · intro W hC
    refine gFi 8 rfl ?_
    rintro _ rfl
    refine gFi 9 rfl ?_
    rintro _ rfl
    refine gFi 10 rfl ?_
    rintro _ rfl
    refine gFi 11 rfl ?_
    rintro _ rfl
    refine gFi 12 rfl ?_
    rintro _ rfl
    refine gFi 7 rfl ?_
    rintro _ rfl
    refine gFi 13 rfl ?_
    rintro _ rfl
    refine gFi 14 rfl ?_
    rintro _ rfl
    refine gFi 5 rfl ?_
    rintro _ ⟨p5, rfl, q5, l5, z5⟩
    refine gFiN rfl ?_
    refine gFi 6 rfl ?_
    rintro _ rfl
    refine gFi0 ?_
    simp only [List.drop_succ_cons, List.drop_zero, Act.put, List.setIfInBounds_toArray, List.set_cons_succ, List.set_cons_zero]
    have hr := hC.2.1.1
    have hrl := hC.2.1.2
    have hrf := hC.2.2.1
    have hx := l5.1
    have HBE := hide hC.2.2.2
    clear hC h1 l5 z5
    go_wp2
    exact bodyPost_ret (v := .agg #[.int .u64 (dgl (x) 0 : Nat), .int .u64 (dgl (x) 1 : Nat), .int .u64 (dgl (x) 2 : Nat), .int .u64 (dgl (x) 3 : Nat), .int .u64 (dgl (x) 4 : Nat), .int .u64 (dgl (x) 5 : Nat), .int .u64 (dgl (x) 6 : Nat), .int .u64 (dgl (x) 7 : Nat)]) (by simp [results, Try.results41, go_sem, hr, hrl]) rfl ⟨rfl, below_set8 HBE.out _ (by omega) _ _ _ _ _ _ _ _⟩
    

set_option maxHeartbeats 1000000 in
theorem fnear_no (a b : Nat) (m : Int) (hm : m < 0) (w : World) : Calls Try.prog 42 #[.agg #[.int .u64 (dgl (a) 0 : Nat), .int .u64 (dgl (a) 1 : Nat), .int .u64 (dgl (a) 2 : Nat), .int .u64 (dgl (a) 3 : Nat), .int .u64 (dgl (a) 4 : Nat), .int .u64 (dgl (a) 5 : Nat), .int .u64 (dgl (a) 6 : Nat), .int .u64 (dgl (a) 7 : Nat)], .agg #[.int .u64 (dgl (b) 0 : Nat), .int .u64 (dgl (b) 1 : Nat), .int .u64 (dgl (b) 2 : Nat), .int .u64 (dgl (b) 3 : Nat), .int .u64 (dgl (b) 4 : Nat), .int .u64 (dgl (b) 5 : Nat), .int .u64 (dgl (b) 6 : Nat), .int .u64 (dgl (b) 7 : Nat)], .int .i64 m] w fun e' w' => e' = .returned (.bool false) ∧ Below w.heap.size w w' := by
  go_enter Try.func42, Try.ntmps42
  go_wp2
  exact bodyPost_ret (v := .bool false) (by simp [results, Try.results42, go_sem]) rfl ⟨rfl, below_trans (below_allocs _ _) (below_allocs _ _)⟩
/-- What Near goes by. -/
structure NrSt (a b : Nat) (w W : World) : Prop where
  la : LiesF W w.heap.size (dgl a)
  fa : ∀ i, W.frozen? ⟨w.heap.size, i, none⟩ = false
  lb : LiesF W (w.heap.size + 1) (dgl b)
  fb : ∀ i, W.frozen? ⟨w.heap.size + 1, i, none⟩ = false
  bel : Below w.heap.size w W
theorem NrSt.below {a b : Nat} {w W W' : World} (h : NrSt a b w W) (hb : Below W.heap.size W W') : NrSt a b w W' :=
  ⟨h.la.below hb, fun i => (hb.frozen (p := ⟨w.heap.size, i, none⟩) h.la.2).trans (h.fa i), h.lb.below hb, fun i => (hb.frozen (p := ⟨w.heap.size + 1, i, none⟩) h.lb.2).trans (h.fb i), below_trans h.bel hb⟩
theorem nrSt_start (a b : Nat) (w : World) (e1 e2 : TypeId) : NrSt a b w ((w.alloc (.cells #[.int .u64 (dgl (a) 0 : Nat), .int .u64 (dgl (a) 1 : Nat), .int .u64 (dgl (a) 2 : Nat), .int .u64 (dgl (a) 3 : Nat), .int .u64 (dgl (a) 4 : Nat), .int .u64 (dgl (a) 5 : Nat), .int .u64 (dgl (a) 6 : Nat), .int .u64 (dgl (a) 7 : Nat)] e1)).alloc (.cells #[.int .u64 (dgl (b) 0 : Nat), .int .u64 (dgl (b) 1 : Nat), .int .u64 (dgl (b) 2 : Nat), .int .u64 (dgl (b) 3 : Nat), .int .u64 (dgl (b) 4 : Nat), .int .u64 (dgl (b) 5 : Nat), .int .u64 (dgl (b) 6 : Nat), .int .u64 (dgl (b) 7 : Nat)] e2)) := by
  have h := liesF_new (w.alloc (.cells #[.int .u64 (dgl (a) 0 : Nat), .int .u64 (dgl (a) 1 : Nat), .int .u64 (dgl (a) 2 : Nat), .int .u64 (dgl (a) 3 : Nat), .int .u64 (dgl (a) 4 : Nat), .int .u64 (dgl (a) 5 : Nat), .int .u64 (dgl (a) 6 : Nat), .int .u64 (dgl (a) 7 : Nat)] e1)) (dgl b) e2
  rw [World.size_alloc] at h
  exact ⟨(liesF_new w (dgl a) e1).alloc _, fun i => by simp [go_sem], h, fun i => by simp [go_sem], below_trans (below_allocs w _) (below_allocs _ _)⟩
theorem NrSt.swap {a b : Nat} {w W : World} (h : NrSt a b w W) : NrSt b a w ((((((((((((((((W.setCell ⟨w.heap.size, 0, none⟩ (.int .u64 (dgl b 0 : Nat))).setCell ⟨w.heap.size, 1, none⟩ (.int .u64 (dgl b 1 : Nat))).setCell ⟨w.heap.size, 2, none⟩ (.int .u64 (dgl b 2 : Nat))).setCell ⟨w.heap.size, 3, none⟩ (.int .u64 (dgl b 3 : Nat))).setCell ⟨w.heap.size, 4, none⟩ (.int .u64 (dgl b 4 : Nat))).setCell ⟨w.heap.size, 5, none⟩ (.int .u64 (dgl b 5 : Nat))).setCell ⟨w.heap.size, 6, none⟩ (.int .u64 (dgl b 6 : Nat))).setCell ⟨w.heap.size, 7, none⟩ (.int .u64 (dgl b 7 : Nat))).setCell ⟨w.heap.size + 1, 0, none⟩ (.int .u64 (dgl a 0 : Nat))).setCell ⟨w.heap.size + 1, 1, none⟩ (.int .u64 (dgl a 1 : Nat))).setCell ⟨w.heap.size + 1, 2, none⟩ (.int .u64 (dgl a 2 : Nat))).setCell ⟨w.heap.size + 1, 3, none⟩ (.int .u64 (dgl a 3 : Nat))).setCell ⟨w.heap.size + 1, 4, none⟩ (.int .u64 (dgl a 4 : Nat))).setCell ⟨w.heap.size + 1, 5, none⟩ (.int .u64 (dgl a 5 : Nat))).setCell ⟨w.heap.size + 1, 6, none⟩ (.int .u64 (dgl a 6 : Nat))).setCell ⟨w.heap.size + 1, 7, none⟩ (.int .u64 (dgl a 7 : Nat))) :=
  ⟨lies_ne (set8_same W _ (dgl b) (dgl a) h.la) (by omega), fun i => by simpa [go_sem] using h.fa i, set8_same _ _ (dgl a) (dgl b) (lies_ne h.lb (by omega)), fun i => by simpa [go_sem] using h.fb i, below_set8 (below_set8 h.bel _ (by omega) _ _ _ _ _ _ _ _) _ (by omega) _ _ _ _ _ _ _ _⟩

set_option maxHeartbeats 2000000 in
theorem fnear_Y (a b d m : Nat) (c c2 : Int) (t z : Bool) (w : World) (hc : c < 0) (HU : Hid (IntKind.u64.wrap (m : Int) = (m : Int))) (HZ : Hid (decide (c2 ≤ 0) = z)) (HO1 : Hid (∀ i, i < 8 → dg [m] i = dgl m i))
    (HC1 : Hid (∀ w, Calls Try.prog 65 #[.agg #[.int .u64 (dgl (a) 0 : Nat), .int .u64 (dgl (a) 1 : Nat), .int .u64 (dgl (a) 2 : Nat), .int .u64 (dgl (a) 3 : Nat), .int .u64 (dgl (a) 4 : Nat), .int .u64 (dgl (a) 5 : Nat), .int .u64 (dgl (a) 6 : Nat), .int .u64 (dgl (a) 7 : Nat)], .agg #[.int .u64 (dgl (b) 0 : Nat), .int .u64 (dgl (b) 1 : Nat), .int .u64 (dgl (b) 2 : Nat), .int .u64 (dgl (b) 3 : Nat), .int .u64 (dgl (b) 4 : Nat), .int .u64 (dgl (b) 5 : Nat), .int .u64 (dgl (b) 6 : Nat), .int .u64 (dgl (b) 7 : Nat)]] w fun e w' => e = .returned (.int .i64 c) ∧ Below w.heap.size w w'))
    (HSU : Hid (∀ w, Calls Try.prog 58 #[.agg #[.int .u64 (dgl (b) 0 : Nat), .int .u64 (dgl (b) 1 : Nat), .int .u64 (dgl (b) 2 : Nat), .int .u64 (dgl (b) 3 : Nat), .int .u64 (dgl (b) 4 : Nat), .int .u64 (dgl (b) 5 : Nat), .int .u64 (dgl (b) 6 : Nat), .int .u64 (dgl (b) 7 : Nat)], .agg #[.int .u64 (dgl (a) 0 : Nat), .int .u64 (dgl (a) 1 : Nat), .int .u64 (dgl (a) 2 : Nat), .int .u64 (dgl (a) 3 : Nat), .int .u64 (dgl (a) 4 : Nat), .int .u64 (dgl (a) 5 : Nat), .int .u64 (dgl (a) 6 : Nat), .int .u64 (dgl (a) 7 : Nat)]] w fun e w' => e = .returned (.tuple #[.agg #[.int .u64 (dgl (d) 0 : Nat), .int .u64 (dgl (d) 1 : Nat), .int .u64 (dgl (d) 2 : Nat), .int .u64 (dgl (d) 3 : Nat), .int .u64 (dgl (d) 4 : Nat), .int .u64 (dgl (d) 5 : Nat), .int .u64 (dgl (d) 6 : Nat), .int .u64 (dgl (d) 7 : Nat)], .bool t]) ∧ Below w.heap.size w w'))
    (HC2 : Hid (∀ w, Calls Try.prog 65 #[.agg #[.int .u64 (dgl (d) 0 : Nat), .int .u64 (dgl (d) 1 : Nat), .int .u64 (dgl (d) 2 : Nat), .int .u64 (dgl (d) 3 : Nat), .int .u64 (dgl (d) 4 : Nat), .int .u64 (dgl (d) 5 : Nat), .int .u64 (dgl (d) 6 : Nat), .int .u64 (dgl (d) 7 : Nat)], .agg #[.int .u64 (dgl (m) 0 : Nat), .int .u64 (dgl (m) 1 : Nat), .int .u64 (dgl (m) 2 : Nat), .int .u64 (dgl (m) 3 : Nat), .int .u64 (dgl (m) 4 : Nat), .int .u64 (dgl (m) 5 : Nat), .int .u64 (dgl (m) 6 : Nat), .int .u64 (dgl (m) 7 : Nat)]] w fun e w' => e = .returned (.int .i64 c2) ∧ Below w.heap.size w w')) :
    Calls Try.prog 42 #[.agg #[.int .u64 (dgl (a) 0 : Nat), .int .u64 (dgl (a) 1 : Nat), .int .u64 (dgl (a) 2 : Nat), .int .u64 (dgl (a) 3 : Nat), .int .u64 (dgl (a) 4 : Nat), .int .u64 (dgl (a) 5 : Nat), .int .u64 (dgl (a) 6 : Nat), .int .u64 (dgl (a) 7 : Nat)], .agg #[.int .u64 (dgl (b) 0 : Nat), .int .u64 (dgl (b) 1 : Nat), .int .u64 (dgl (b) 2 : Nat), .int .u64 (dgl (b) 3 : Nat), .int .u64 (dgl (b) 4 : Nat), .int .u64 (dgl (b) 5 : Nat), .int .u64 (dgl (b) 6 : Nat), .int .u64 (dgl (b) 7 : Nat)], .int .i64 (m : Nat)] w fun e' w' => e' = .returned (.bool z) ∧ Below w.heap.size w w' := by
  have HS := hide (nrSt_start a b w 32 32)
  have hm0 : ¬ (m : Int) < 0 := by omega
  go_enter Try.func42, Try.ntmps42
  have ha := HS.out.la.1
  have hb := HS.out.lb.1
  go_wp2_with fail
  refine (HC1.out _).mono ?_
  rintro e w1 ⟨rfl, hb1⟩
  replace HS := hide (HS.out.below hb1)
  clear hb1 ha hb HC1
  have ha := HS.out.la.1
  have hb := HS.out.lb.1
  have hal := HS.out.la.2
  have hbl := HS.out.lb.2
  have haf := HS.out.fa
  have hbf := HS.out.fb
  have hsw := hide HS.out.swap
  go_upto_region 5 with fail
  refine wp_gen (fun W => NrSt b a w W) hsw.out ?_
  clear HS ha hb hal hbl haf hbf hsw hc
  rintro W5 h5
  have HS := hide h5
  have ha := h5.la.1
  have hb := h5.lb.1
  clear h5
  go_wp2_with fail
  refine (HSU.out _).mono ?_
  rintro e w2 ⟨rfl, hb2⟩
  replace HS := hide (HS.out.below hb2)
  clear hb2 ha hb HSU
  go_upto_region 6 with fail
  refine wp_gen (fun W => NrSt b a w W ∧ LiesF W w2.heap.size (dgl d)) ⟨HS.out.below (below_allocs _ _), liesF_new w2 (dgl d) _⟩ ?_
  clear HS
  generalize w2.heap.size = p7 at *
  rintro W6 h6
  refine wp_region_grow 8 [(23, .val (.agg #[.int .u64 (dgl (d) 0 : Nat), .int .u64 (dgl (d) 1 : Nat), .int .u64 (dgl (d) 2 : Nat), .int .u64 (dgl (d) 3 : Nat), .int .u64 (dgl (d) 4 : Nat), .int .u64 (dgl (d) 5 : Nat), .int .u64 (dgl (d) 6 : Nat), .int .u64 (dgl (d) 7 : Nat)])), (24, .val (.int .i64 (m : Nat))), (25, .val (.int .u64 (m : Nat))), (26, .rd [m]), (27, .val (.agg #[.int .u64 (dgl (m) 0 : Nat), .int .u64 (dgl (m) 1 : Nat), .int .u64 (dgl (m) 2 : Nat), .int .u64 (dgl (m) 3 : Nat), .int .u64 (dgl (m) 4 : Nat), .int .u64 (dgl (m) 5 : Nat), .int .u64 (dgl (m) 6 : Nat), .int .u64 (dgl (m) 7 : Nat)])), (28, .val (.int .i64 c2)), (29, .val (.bool z)), (6, .val (.bool z))]
    (fun W => NrSt b a w W ∧ LiesF W p7 (dgl d)) mixedOk (by kernel_rfl) (by kernel_rfl) (⟨h6.1.below (Below.refl _ _).drew, h6.2.below (Below.refl _ _).drew⟩) (fun W W' h hb => ⟨h.1.below hb, h.2.below hb⟩) ?_ ?_
  · refine gSt (gStep_run rfl ?_) ?_
    · intro ρ W hC hc hf hL
      have e7 : ρ (.tmp 7) = .pointer (some ⟨p7, 0, none⟩) := hL 7 (by decide +kernel)
      have hl := hC.2.1
      simp [go_sem, hc, hf, e7, hl]
      exact ⟨Below.refl _ _, rfl⟩
    refine gSt (gStep_run rfl (gRun_move 2 24 (.inl rfl) rfl (by decide +kernel) (fun v w h => h))) ?_
    refine gSt (gStep_run rfl ?_) ?_
    · intro ρ W hC hc hf hL
      have e24 : ρ (.tmp 24) = .int .i64 (m : Nat) := hL 24 (by decide +kernel)
      have hu := HU.out
      simp [go_sem, hc, hf, e24, hu]
      exact ⟨Below.refl _ _, rfl⟩
    refine gSt (gStep_run rfl ?_) ?_
    · intro ρ W hC hc hf hL
      have e25 : ρ (.tmp 25) = .int .u64 (m : Nat) := hL 25 (by decide +kernel)
      simp [go_sem, hc, hf, e25]
      exact ⟨below_allocs _ _, Rd.lit (mk := mk64) W 24 [.int .u64 (m : Nat)] [m] rfl 1 (Nat.le_refl 1) (by decide)⟩
    refine gSt (gStep_run rfl ?_) ?_
    · intro ρ W hC hc hf hL
      have b26 := hL 26 (by decide +kernel)
      simp [go_sem, hc, hf]
      refine (wideOf_any [m] m _ _ b26 HO1.out).mono ?_
      rintro e w' ⟨rfl, hb⟩
      exact ⟨_, rfl, by first | exact hb | (subst hb; exact Below.refl _ _), rfl⟩
    refine gSt (gStep_run rfl ?_) ?_
    · intro ρ W hC hc hf hL
      have e23 : ρ (.tmp 23) = .agg #[.int .u64 (dgl (d) 0 : Nat), .int .u64 (dgl (d) 1 : Nat), .int .u64 (dgl (d) 2 : Nat), .int .u64 (dgl (d) 3 : Nat), .int .u64 (dgl (d) 4 : Nat), .int .u64 (dgl (d) 5 : Nat), .int .u64 (dgl (d) 6 : Nat), .int .u64 (dgl (d) 7 : Nat)] := hL 23 (by decide +kernel)
      have e27 : ρ (.tmp 27) = .agg #[.int .u64 (dgl (m) 0 : Nat), .int .u64 (dgl (m) 1 : Nat), .int .u64 (dgl (m) 2 : Nat), .int .u64 (dgl (m) 3 : Nat), .int .u64 (dgl (m) 4 : Nat), .int .u64 (dgl (m) 5 : Nat), .int .u64 (dgl (m) 6 : Nat), .int .u64 (dgl (m) 7 : Nat)] := hL 27 (by decide +kernel)
      simp [go_sem, hc, hf, e23, e27]
      refine (HC2.out W).mono ?_
      rintro e w' ⟨rfl, hb⟩
      exact ⟨_, rfl, by first | exact hb | (subst hb; exact Below.refl _ _), rfl⟩
    refine gSt (gStep_run rfl ?_) ?_
    · intro ρ W hC hc hf hL
      have e28 : ρ (.tmp 28) = .int .i64 c2 := hL 28 (by decide +kernel)
      have hz := HZ.out
      simp [go_sem, hc, hf, e28, hz]
      exact ⟨Below.refl _ _, rfl⟩
    refine gSt (gStep_run rfl (gRun_move 29 6 (.inr rfl) rfl (by decide +kernel) (fun v w h => h))) ?_
    exact gSt0
  · intro W hC
    refine gFi 23 rfl ?_
    rintro _ rfl
    refine gFi 24 rfl ?_
    rintro _ rfl
    refine gFi 25 rfl ?_
    rintro _ rfl
    refine gFi 26 rfl ?_
    rintro u26 b26
    refine gFi 27 rfl ?_
    rintro _ rfl
    refine gFi 28 rfl ?_
    rintro _ rfl
    refine gFi 29 rfl ?_
    rintro _ rfl
    refine gFi 6 rfl ?_
    rintro _ rfl
    refine gFi0 ?_
    simp only [List.drop_succ_cons, List.drop_zero, Act.put, List.setIfInBounds_toArray, List.set_cons_succ, List.set_cons_zero]
    have HBE := hide hC.1.bel
    clear hC h6
    go_wp2
    exact bodyPost_ret (v := .bool z) (by simp [results, Try.results42, go_sem]) rfl ⟨rfl, HBE.out⟩
    

set_option maxHeartbeats 2000000 in
theorem fnear_N (a b d m : Nat) (c c2 : Int) (t z : Bool) (w : World) (hc : ¬ c < 0) (HU : Hid (IntKind.u64.wrap (m : Int) = (m : Int))) (HZ : Hid (decide (c2 ≤ 0) = z)) (HO1 : Hid (∀ i, i < 8 → dg [m] i = dgl m i))
    (HC1 : Hid (∀ w, Calls Try.prog 65 #[.agg #[.int .u64 (dgl (a) 0 : Nat), .int .u64 (dgl (a) 1 : Nat), .int .u64 (dgl (a) 2 : Nat), .int .u64 (dgl (a) 3 : Nat), .int .u64 (dgl (a) 4 : Nat), .int .u64 (dgl (a) 5 : Nat), .int .u64 (dgl (a) 6 : Nat), .int .u64 (dgl (a) 7 : Nat)], .agg #[.int .u64 (dgl (b) 0 : Nat), .int .u64 (dgl (b) 1 : Nat), .int .u64 (dgl (b) 2 : Nat), .int .u64 (dgl (b) 3 : Nat), .int .u64 (dgl (b) 4 : Nat), .int .u64 (dgl (b) 5 : Nat), .int .u64 (dgl (b) 6 : Nat), .int .u64 (dgl (b) 7 : Nat)]] w fun e w' => e = .returned (.int .i64 c) ∧ Below w.heap.size w w'))
    (HSU : Hid (∀ w, Calls Try.prog 58 #[.agg #[.int .u64 (dgl (a) 0 : Nat), .int .u64 (dgl (a) 1 : Nat), .int .u64 (dgl (a) 2 : Nat), .int .u64 (dgl (a) 3 : Nat), .int .u64 (dgl (a) 4 : Nat), .int .u64 (dgl (a) 5 : Nat), .int .u64 (dgl (a) 6 : Nat), .int .u64 (dgl (a) 7 : Nat)], .agg #[.int .u64 (dgl (b) 0 : Nat), .int .u64 (dgl (b) 1 : Nat), .int .u64 (dgl (b) 2 : Nat), .int .u64 (dgl (b) 3 : Nat), .int .u64 (dgl (b) 4 : Nat), .int .u64 (dgl (b) 5 : Nat), .int .u64 (dgl (b) 6 : Nat), .int .u64 (dgl (b) 7 : Nat)]] w fun e w' => e = .returned (.tuple #[.agg #[.int .u64 (dgl (d) 0 : Nat), .int .u64 (dgl (d) 1 : Nat), .int .u64 (dgl (d) 2 : Nat), .int .u64 (dgl (d) 3 : Nat), .int .u64 (dgl (d) 4 : Nat), .int .u64 (dgl (d) 5 : Nat), .int .u64 (dgl (d) 6 : Nat), .int .u64 (dgl (d) 7 : Nat)], .bool t]) ∧ Below w.heap.size w w'))
    (HC2 : Hid (∀ w, Calls Try.prog 65 #[.agg #[.int .u64 (dgl (d) 0 : Nat), .int .u64 (dgl (d) 1 : Nat), .int .u64 (dgl (d) 2 : Nat), .int .u64 (dgl (d) 3 : Nat), .int .u64 (dgl (d) 4 : Nat), .int .u64 (dgl (d) 5 : Nat), .int .u64 (dgl (d) 6 : Nat), .int .u64 (dgl (d) 7 : Nat)], .agg #[.int .u64 (dgl (m) 0 : Nat), .int .u64 (dgl (m) 1 : Nat), .int .u64 (dgl (m) 2 : Nat), .int .u64 (dgl (m) 3 : Nat), .int .u64 (dgl (m) 4 : Nat), .int .u64 (dgl (m) 5 : Nat), .int .u64 (dgl (m) 6 : Nat), .int .u64 (dgl (m) 7 : Nat)]] w fun e w' => e = .returned (.int .i64 c2) ∧ Below w.heap.size w w')) :
    Calls Try.prog 42 #[.agg #[.int .u64 (dgl (a) 0 : Nat), .int .u64 (dgl (a) 1 : Nat), .int .u64 (dgl (a) 2 : Nat), .int .u64 (dgl (a) 3 : Nat), .int .u64 (dgl (a) 4 : Nat), .int .u64 (dgl (a) 5 : Nat), .int .u64 (dgl (a) 6 : Nat), .int .u64 (dgl (a) 7 : Nat)], .agg #[.int .u64 (dgl (b) 0 : Nat), .int .u64 (dgl (b) 1 : Nat), .int .u64 (dgl (b) 2 : Nat), .int .u64 (dgl (b) 3 : Nat), .int .u64 (dgl (b) 4 : Nat), .int .u64 (dgl (b) 5 : Nat), .int .u64 (dgl (b) 6 : Nat), .int .u64 (dgl (b) 7 : Nat)], .int .i64 (m : Nat)] w fun e' w' => e' = .returned (.bool z) ∧ Below w.heap.size w w' := by
  have HS := hide (nrSt_start a b w 32 32)
  have hm0 : ¬ (m : Int) < 0 := by omega
  go_enter Try.func42, Try.ntmps42
  have ha := HS.out.la.1
  have hb := HS.out.lb.1
  go_wp2_with fail
  refine (HC1.out _).mono ?_
  rintro e w1 ⟨rfl, hb1⟩
  replace HS := hide (HS.out.below hb1)
  clear hb1 ha hb HC1
  have ha := HS.out.la.1
  have hb := HS.out.lb.1
  go_wp2_with fail
  refine (HSU.out _).mono ?_
  rintro e w2 ⟨rfl, hb2⟩
  replace HS := hide (HS.out.below hb2)
  clear hb2 ha hb HSU
  go_upto_region 6 with fail
  refine wp_gen (fun W => NrSt a b w W ∧ LiesF W w2.heap.size (dgl d)) ⟨HS.out.below (below_allocs _ _), liesF_new w2 (dgl d) _⟩ ?_
  clear HS
  generalize w2.heap.size = p7 at *
  rintro W6 h6
  refine wp_region_grow 8 [(23, .val (.agg #[.int .u64 (dgl (d) 0 : Nat), .int .u64 (dgl (d) 1 : Nat), .int .u64 (dgl (d) 2 : Nat), .int .u64 (dgl (d) 3 : Nat), .int .u64 (dgl (d) 4 : Nat), .int .u64 (dgl (d) 5 : Nat), .int .u64 (dgl (d) 6 : Nat), .int .u64 (dgl (d) 7 : Nat)])), (24, .val (.int .i64 (m : Nat))), (25, .val (.int .u64 (m : Nat))), (26, .rd [m]), (27, .val (.agg #[.int .u64 (dgl (m) 0 : Nat), .int .u64 (dgl (m) 1 : Nat), .int .u64 (dgl (m) 2 : Nat), .int .u64 (dgl (m) 3 : Nat), .int .u64 (dgl (m) 4 : Nat), .int .u64 (dgl (m) 5 : Nat), .int .u64 (dgl (m) 6 : Nat), .int .u64 (dgl (m) 7 : Nat)])), (28, .val (.int .i64 c2)), (29, .val (.bool z)), (6, .val (.bool z))]
    (fun W => NrSt a b w W ∧ LiesF W p7 (dgl d)) mixedOk (by kernel_rfl) (by kernel_rfl) (⟨h6.1.below (Below.refl _ _).drew, h6.2.below (Below.refl _ _).drew⟩) (fun W W' h hb => ⟨h.1.below hb, h.2.below hb⟩) ?_ ?_
  · refine gSt (gStep_run rfl ?_) ?_
    · intro ρ W hC hc hf hL
      have e7 : ρ (.tmp 7) = .pointer (some ⟨p7, 0, none⟩) := hL 7 (by decide +kernel)
      have hl := hC.2.1
      simp [go_sem, hc, hf, e7, hl]
      exact ⟨Below.refl _ _, rfl⟩
    refine gSt (gStep_run rfl (gRun_move 2 24 (.inl rfl) rfl (by decide +kernel) (fun v w h => h))) ?_
    refine gSt (gStep_run rfl ?_) ?_
    · intro ρ W hC hc hf hL
      have e24 : ρ (.tmp 24) = .int .i64 (m : Nat) := hL 24 (by decide +kernel)
      have hu := HU.out
      simp [go_sem, hc, hf, e24, hu]
      exact ⟨Below.refl _ _, rfl⟩
    refine gSt (gStep_run rfl ?_) ?_
    · intro ρ W hC hc hf hL
      have e25 : ρ (.tmp 25) = .int .u64 (m : Nat) := hL 25 (by decide +kernel)
      simp [go_sem, hc, hf, e25]
      exact ⟨below_allocs _ _, Rd.lit (mk := mk64) W 24 [.int .u64 (m : Nat)] [m] rfl 1 (Nat.le_refl 1) (by decide)⟩
    refine gSt (gStep_run rfl ?_) ?_
    · intro ρ W hC hc hf hL
      have b26 := hL 26 (by decide +kernel)
      simp [go_sem, hc, hf]
      refine (wideOf_any [m] m _ _ b26 HO1.out).mono ?_
      rintro e w' ⟨rfl, hb⟩
      exact ⟨_, rfl, by first | exact hb | (subst hb; exact Below.refl _ _), rfl⟩
    refine gSt (gStep_run rfl ?_) ?_
    · intro ρ W hC hc hf hL
      have e23 : ρ (.tmp 23) = .agg #[.int .u64 (dgl (d) 0 : Nat), .int .u64 (dgl (d) 1 : Nat), .int .u64 (dgl (d) 2 : Nat), .int .u64 (dgl (d) 3 : Nat), .int .u64 (dgl (d) 4 : Nat), .int .u64 (dgl (d) 5 : Nat), .int .u64 (dgl (d) 6 : Nat), .int .u64 (dgl (d) 7 : Nat)] := hL 23 (by decide +kernel)
      have e27 : ρ (.tmp 27) = .agg #[.int .u64 (dgl (m) 0 : Nat), .int .u64 (dgl (m) 1 : Nat), .int .u64 (dgl (m) 2 : Nat), .int .u64 (dgl (m) 3 : Nat), .int .u64 (dgl (m) 4 : Nat), .int .u64 (dgl (m) 5 : Nat), .int .u64 (dgl (m) 6 : Nat), .int .u64 (dgl (m) 7 : Nat)] := hL 27 (by decide +kernel)
      simp [go_sem, hc, hf, e23, e27]
      refine (HC2.out W).mono ?_
      rintro e w' ⟨rfl, hb⟩
      exact ⟨_, rfl, by first | exact hb | (subst hb; exact Below.refl _ _), rfl⟩
    refine gSt (gStep_run rfl ?_) ?_
    · intro ρ W hC hc hf hL
      have e28 : ρ (.tmp 28) = .int .i64 c2 := hL 28 (by decide +kernel)
      have hz := HZ.out
      simp [go_sem, hc, hf, e28, hz]
      exact ⟨Below.refl _ _, rfl⟩
    refine gSt (gStep_run rfl (gRun_move 29 6 (.inr rfl) rfl (by decide +kernel) (fun v w h => h))) ?_
    exact gSt0
  · intro W hC
    refine gFi 23 rfl ?_
    rintro _ rfl
    refine gFi 24 rfl ?_
    rintro _ rfl
    refine gFi 25 rfl ?_
    rintro _ rfl
    refine gFi 26 rfl ?_
    rintro u26 b26
    refine gFi 27 rfl ?_
    rintro _ rfl
    refine gFi 28 rfl ?_
    rintro _ rfl
    refine gFi 29 rfl ?_
    rintro _ rfl
    refine gFi 6 rfl ?_
    rintro _ rfl
    refine gFi0 ?_
    simp only [List.drop_succ_cons, List.drop_zero, Act.put, List.setIfInBounds_toArray, List.set_cons_succ, List.set_cons_zero]
    have HBE := hide hC.1.bel
    clear hC h6
    go_wp2
    exact bodyPost_ret (v := .bool z) (by simp [results, Try.results42, go_sem]) rfl ⟨rfl, HBE.out⟩
    

theorem tzSt_set {a : Nat} {w W : World} (h : TzSt a w W) (v : Nat) : Below w.heap.size w ((((((((W.setCell ⟨w.heap.size + 1, 0, none⟩ (.int .u64 (dgl v 0 : Nat))).setCell ⟨w.heap.size + 1, 1, none⟩ (.int .u64 (dgl v 1 : Nat))).setCell ⟨w.heap.size + 1, 2, none⟩ (.int .u64 (dgl v 2 : Nat))).setCell ⟨w.heap.size + 1, 3, none⟩ (.int .u64 (dgl v 3 : Nat))).setCell ⟨w.heap.size + 1, 4, none⟩ (.int .u64 (dgl v 4 : Nat))).setCell ⟨w.heap.size + 1, 5, none⟩ (.int .u64 (dgl v 5 : Nat))).setCell ⟨w.heap.size + 1, 6, none⟩ (.int .u64 (dgl v 6 : Nat))).setCell ⟨w.heap.size + 1, 7, none⟩ (.int .u64 (dgl v 7 : Nat))) := below_set8 h.2.2.2 _ (by omega) _ _ _ _ _ _ _ _

set_option maxHeartbeats 2000000 in
theorem bent_P (a k x : Nat) (t : Bool) (w : World) (hu : IntKind.u64.wrap (k : Int) = (k : Int))
    (HBG : Hid (∀ w, Calls Try.prog 19 #[.agg #[.int .u64 (dgl (a) 0 : Nat), .int .u64 (dgl (a) 1 : Nat), .int .u64 (dgl (a) 2 : Nat), .int .u64 (dgl (a) 3 : Nat), .int .u64 (dgl (a) 4 : Nat), .int .u64 (dgl (a) 5 : Nat), .int .u64 (dgl (a) 6 : Nat), .int .u64 (dgl (a) 7 : Nat)]] w fun e w' => ∃ v, e = .returned v ∧ BigV w' v a 40 ∧ Below w.heap.size w w'))
    (HSM : Hid (∀ w, Calls Try.prog 18 #[.int .u64 (k : Nat)] w fun e w' => ∃ v, e = .returned v ∧ BigV w' v k 2 ∧ Below w.heap.size w w'))
    (HAD : Hid (∀ u v w, BigV w u a 40 → BigV w v k 2 → Calls Try.prog 37 #[u, v] w fun e w' => ∃ z, e = .returned z ∧ BigV w' z x 41 ∧ Below w.heap.size w w'))
    (HWD : Hid (∀ v w, BigV w v x 41 → Calls Try.prog 34 #[v] w fun e w' => e = .returned (.tuple #[.agg #[.int .u64 (dgl (x) 0 : Nat), .int .u64 (dgl (x) 1 : Nat), .int .u64 (dgl (x) 2 : Nat), .int .u64 (dgl (x) 3 : Nat), .int .u64 (dgl (x) 4 : Nat), .int .u64 (dgl (x) 5 : Nat), .int .u64 (dgl (x) 6 : Nat), .int .u64 (dgl (x) 7 : Nat)], .bool t]) ∧ Below w.heap.size w w')) :
    Calls Try.prog 25 #[.agg #[.int .u64 (dgl (a) 0 : Nat), .int .u64 (dgl (a) 1 : Nat), .int .u64 (dgl (a) 2 : Nat), .int .u64 (dgl (a) 3 : Nat), .int .u64 (dgl (a) 4 : Nat), .int .u64 (dgl (a) 5 : Nat), .int .u64 (dgl (a) 6 : Nat), .int .u64 (dgl (a) 7 : Nat)], .int .i8 (k : Nat)] w fun e' w' => e' = .returned (.agg #[.int .u64 (dgl (x) 0 : Nat), .int .u64 (dgl (x) 1 : Nat), .int .u64 (dgl (x) 2 : Nat), .int .u64 (dgl (x) 3 : Nat), .int .u64 (dgl (x) 4 : Nat), .int .u64 (dgl (x) 5 : Nat), .int .u64 (dgl (x) 6 : Nat), .int .u64 (dgl (x) 7 : Nat)]) ∧ Below w.heap.size w w' := by
  have hk : (0 : Int) ≤ (k : Int) := by omega
  have HS := hide (tzSt_start a w 32 32)
  go_enter Try.func25, Try.ntmps25
  have ha := HS.out.1.1
  go_wp2_with fail
  refine (HBG.out _).mono ?_
  rintro e w1 ⟨va, rfl, hva, hb1⟩
  replace HS := hide (HS.out.below hb1)
  clear hb1 ha HBG
  go_wp2_with fail
  refine (HSM.out _).mono ?_
  rintro e w2 ⟨vk, rfl, hvk, hb2⟩
  replace HS := hide (HS.out.below hb2)
  replace hva := BigV.below hva hb2
  clear hb2 HSM
  go_wp2_with fail
  refine (HAD.out _ _ _ hva hvk).mono ?_
  rintro e w3 ⟨vr, rfl, hvr, hb3⟩
  replace HS := hide (HS.out.below hb3)
  clear hb3 hva hvk HAD hu hk
  go_wp2_with fail
  refine (HWD.out _ _ hvr).mono ?_
  rintro e w4 ⟨rfl, hb4⟩
  replace HS := hide (HS.out.below hb4)
  clear hb4 hvr HWD
  go_upto_region 8 with fail
  refine wp_gen (fun W => TzSt a w W ∧ LiesF W w4.heap.size (dgl x)) ⟨HS.out.below (below_allocs _ _), liesF_new w4 (dgl x) _⟩ ?_
  clear HS
  generalize w4.heap.size = p7 at *
  rintro W8 h8
  have hx := h8.2.1
  have hr := h8.1.2.1.1
  have hrl := h8.1.2.1.2
  have hrf := h8.1.2.2.1
  have HBE := hide (tzSt_set h8.1 x)
  clear h8
  go_wp2
  exact bodyPost_ret (v := .agg #[.int .u64 (dgl (x) 0 : Nat), .int .u64 (dgl (x) 1 : Nat), .int .u64 (dgl (x) 2 : Nat), .int .u64 (dgl (x) 3 : Nat), .int .u64 (dgl (x) 4 : Nat), .int .u64 (dgl (x) 5 : Nat), .int .u64 (dgl (x) 6 : Nat), .int .u64 (dgl (x) 7 : Nat)]) (by simp [results, Try.results25, go_sem, hr, hrl]) rfl ⟨rfl, HBE.out⟩

set_option maxHeartbeats 2000000 in
theorem bent_G (a k x : Nat) (by_ : Int) (q : Int) (t : Bool) (w : World) (hk : ¬ (0 : Int) ≤ by_) (hu1 : IntKind.i64.wrap by_ = by_) (hu2 : IntKind.i64.wrap (-by_) = (k : Int)) (hu : IntKind.u64.wrap (k : Int) = (k : Int)) (hq : 0 ≤ q)
    (HBG : Hid (∀ w, Calls Try.prog 19 #[.agg #[.int .u64 (dgl (a) 0 : Nat), .int .u64 (dgl (a) 1 : Nat), .int .u64 (dgl (a) 2 : Nat), .int .u64 (dgl (a) 3 : Nat), .int .u64 (dgl (a) 4 : Nat), .int .u64 (dgl (a) 5 : Nat), .int .u64 (dgl (a) 6 : Nat), .int .u64 (dgl (a) 7 : Nat)]] w fun e w' => ∃ v, e = .returned v ∧ BigV w' v a 40 ∧ Below w.heap.size w w'))
    (HSM : Hid (∀ w, Calls Try.prog 18 #[.int .u64 (k : Nat)] w fun e w' => ∃ v, e = .returned v ∧ BigV w' v k 2 ∧ Below w.heap.size w w'))
    (HCM : Hid (∀ u v w, BigV w u a 40 → BigV w v k 2 → Calls Try.prog 20 #[u, v] w fun e w' => e = .returned (.int .i64 q) ∧ w' = w))
    (HSB : Hid (∀ u v w, BigV w u a 40 → BigV w v k 2 → Calls Try.prog 39 #[u, v] w fun e w' => ∃ z, e = .returned z ∧ BigV w' z x 40 ∧ Below w.heap.size w w'))
    (HWD : Hid (∀ v w, BigV w v x 40 → Calls Try.prog 34 #[v] w fun e w' => e = .returned (.tuple #[.agg #[.int .u64 (dgl (x) 0 : Nat), .int .u64 (dgl (x) 1 : Nat), .int .u64 (dgl (x) 2 : Nat), .int .u64 (dgl (x) 3 : Nat), .int .u64 (dgl (x) 4 : Nat), .int .u64 (dgl (x) 5 : Nat), .int .u64 (dgl (x) 6 : Nat), .int .u64 (dgl (x) 7 : Nat)], .bool t]) ∧ Below w.heap.size w w')) :
    Calls Try.prog 25 #[.agg #[.int .u64 (dgl (a) 0 : Nat), .int .u64 (dgl (a) 1 : Nat), .int .u64 (dgl (a) 2 : Nat), .int .u64 (dgl (a) 3 : Nat), .int .u64 (dgl (a) 4 : Nat), .int .u64 (dgl (a) 5 : Nat), .int .u64 (dgl (a) 6 : Nat), .int .u64 (dgl (a) 7 : Nat)], .int .i8 by_] w fun e' w' => e' = .returned (.agg #[.int .u64 (dgl (x) 0 : Nat), .int .u64 (dgl (x) 1 : Nat), .int .u64 (dgl (x) 2 : Nat), .int .u64 (dgl (x) 3 : Nat), .int .u64 (dgl (x) 4 : Nat), .int .u64 (dgl (x) 5 : Nat), .int .u64 (dgl (x) 6 : Nat), .int .u64 (dgl (x) 7 : Nat)]) ∧ Below w.heap.size w w' := by
  have HS := hide (tzSt_start a w 32 32)
  go_enter Try.func25, Try.ntmps25
  have ha := HS.out.1.1
  go_wp2_with fail
  refine (HBG.out _).mono ?_
  rintro e w1 ⟨va, rfl, hva, hb1⟩
  replace HS := hide (HS.out.below hb1)
  clear hb1 ha HBG
  go_wp2_with fail
  refine (HSM.out _).mono ?_
  rintro e w2 ⟨vk, rfl, hvk, hb2⟩
  replace HS := hide (HS.out.below hb2)
  replace hva := BigV.below hva hb2
  clear hb2 HSM
  go_wp2_with fail
  refine (HCM.out _ _ _ hva hvk).mono ?_
  rintro e w2b ⟨rfl, hw⟩
  subst w2b
  clear HCM
  go_wp2_with fail
  refine (HSB.out _ _ _ hva hvk).mono ?_
  rintro e w3 ⟨vr, rfl, hvr, hb3⟩
  replace HS := hide (HS.out.below hb3)
  clear hb3 hva hvk HSB hu hk hu1 hu2 hq
  go_wp2_with fail
  refine (HWD.out _ _ hvr).mono ?_
  rintro e w4 ⟨rfl, hb4⟩
  replace HS := hide (HS.out.below hb4)
  clear hb4 hvr HWD
  go_upto_region 8 with fail
  refine wp_gen (fun W => TzSt a w W ∧ LiesF W w4.heap.size (dgl x)) ⟨HS.out.below (below_allocs _ _), liesF_new w4 (dgl x) _⟩ ?_
  clear HS
  generalize w4.heap.size = p7 at *
  rintro W8 h8
  have hx := h8.2.1
  have hr := h8.1.2.1.1
  have hrl := h8.1.2.1.2
  have hrf := h8.1.2.2.1
  have HBE := hide (tzSt_set h8.1 x)
  clear h8
  go_wp2
  exact bodyPost_ret (v := .agg #[.int .u64 (dgl (x) 0 : Nat), .int .u64 (dgl (x) 1 : Nat), .int .u64 (dgl (x) 2 : Nat), .int .u64 (dgl (x) 3 : Nat), .int .u64 (dgl (x) 4 : Nat), .int .u64 (dgl (x) 5 : Nat), .int .u64 (dgl (x) 6 : Nat), .int .u64 (dgl (x) 7 : Nat)]) (by simp [results, Try.results25, go_sem, hr, hrl]) rfl ⟨rfl, HBE.out⟩

set_option maxHeartbeats 2000000 in
theorem bent_L (a k x : Nat) (by_ : Int) (q : Int) (t : Bool) (w : World) (hk : ¬ (0 : Int) ≤ by_) (hu1 : IntKind.i64.wrap by_ = by_) (hu2 : IntKind.i64.wrap (-by_) = (k : Int)) (hu : IntKind.u64.wrap (k : Int) = (k : Int)) (hq : ¬ 0 ≤ q)
    (HBG : Hid (∀ w, Calls Try.prog 19 #[.agg #[.int .u64 (dgl (a) 0 : Nat), .int .u64 (dgl (a) 1 : Nat), .int .u64 (dgl (a) 2 : Nat), .int .u64 (dgl (a) 3 : Nat), .int .u64 (dgl (a) 4 : Nat), .int .u64 (dgl (a) 5 : Nat), .int .u64 (dgl (a) 6 : Nat), .int .u64 (dgl (a) 7 : Nat)]] w fun e w' => ∃ v, e = .returned v ∧ BigV w' v a 40 ∧ Below w.heap.size w w'))
    (HSM : Hid (∀ w, Calls Try.prog 18 #[.int .u64 (k : Nat)] w fun e w' => ∃ v, e = .returned v ∧ BigV w' v k 2 ∧ Below w.heap.size w w'))
    (HCM : Hid (∀ u v w, BigV w u a 40 → BigV w v k 2 → Calls Try.prog 20 #[u, v] w fun e w' => e = .returned (.int .i64 q) ∧ w' = w))
    (HWD : Hid (∀ v w, BigV w v a 40 → Calls Try.prog 34 #[v] w fun e w' => e = .returned (.tuple #[.agg #[.int .u64 (dgl (x) 0 : Nat), .int .u64 (dgl (x) 1 : Nat), .int .u64 (dgl (x) 2 : Nat), .int .u64 (dgl (x) 3 : Nat), .int .u64 (dgl (x) 4 : Nat), .int .u64 (dgl (x) 5 : Nat), .int .u64 (dgl (x) 6 : Nat), .int .u64 (dgl (x) 7 : Nat)], .bool t]) ∧ Below w.heap.size w w')) :
    Calls Try.prog 25 #[.agg #[.int .u64 (dgl (a) 0 : Nat), .int .u64 (dgl (a) 1 : Nat), .int .u64 (dgl (a) 2 : Nat), .int .u64 (dgl (a) 3 : Nat), .int .u64 (dgl (a) 4 : Nat), .int .u64 (dgl (a) 5 : Nat), .int .u64 (dgl (a) 6 : Nat), .int .u64 (dgl (a) 7 : Nat)], .int .i8 by_] w fun e' w' => e' = .returned (.agg #[.int .u64 (dgl (x) 0 : Nat), .int .u64 (dgl (x) 1 : Nat), .int .u64 (dgl (x) 2 : Nat), .int .u64 (dgl (x) 3 : Nat), .int .u64 (dgl (x) 4 : Nat), .int .u64 (dgl (x) 5 : Nat), .int .u64 (dgl (x) 6 : Nat), .int .u64 (dgl (x) 7 : Nat)]) ∧ Below w.heap.size w w' := by
  have HS := hide (tzSt_start a w 32 32)
  go_enter Try.func25, Try.ntmps25
  have ha := HS.out.1.1
  go_wp2_with fail
  refine (HBG.out _).mono ?_
  rintro e w1 ⟨va, rfl, hva, hb1⟩
  replace HS := hide (HS.out.below hb1)
  clear hb1 ha HBG
  go_wp2_with fail
  refine (HSM.out _).mono ?_
  rintro e w2 ⟨vk, rfl, hvk, hb2⟩
  replace HS := hide (HS.out.below hb2)
  replace hva := BigV.below hva hb2
  clear hb2 HSM
  go_wp2_with fail
  refine (HCM.out _ _ _ hva hvk).mono ?_
  rintro e w2b ⟨rfl, hw⟩
  subst w2b
  clear HCM
  have hvr := hva
  clear hva hvk
  go_wp2_with fail
  refine (HWD.out _ _ hvr).mono ?_
  rintro e w4 ⟨rfl, hb4⟩
  replace HS := hide (HS.out.below hb4)
  clear hb4 hvr HWD
  go_upto_region 8 with fail
  refine wp_gen (fun W => TzSt a w W ∧ LiesF W w4.heap.size (dgl x)) ⟨HS.out.below (below_allocs _ _), liesF_new w4 (dgl x) _⟩ ?_
  clear HS
  generalize w4.heap.size = p7 at *
  rintro W8 h8
  have hx := h8.2.1
  have hr := h8.1.2.1.1
  have hrl := h8.1.2.1.2
  have hrf := h8.1.2.2.1
  have HBE := hide (tzSt_set h8.1 x)
  clear h8
  go_wp2
  exact bodyPost_ret (v := .agg #[.int .u64 (dgl (x) 0 : Nat), .int .u64 (dgl (x) 1 : Nat), .int .u64 (dgl (x) 2 : Nat), .int .u64 (dgl (x) 3 : Nat), .int .u64 (dgl (x) 4 : Nat), .int .u64 (dgl (x) 5 : Nat), .int .u64 (dgl (x) 6 : Nat), .int .u64 (dgl (x) 7 : Nat)]) (by simp [results, Try.results25, go_sem, hr, hrl]) rfl ⟨rfl, HBE.out⟩
end Go.Proofs.Yteocibahclpegaa

/- Contracts: fix.Quotient, Root, Two, Near as numbers; bent guesses; the law's example. -/
set_option linter.unusedVariables false
set_option linter.unusedSimpArgs false
set_option maxRecDepth 8000
namespace Go.Proofs.Yteocibahclpegaa
open Go.RowKit Plain

theorem subQ_leF {a v : Nat} (ha : a < QQ) (h : v ≤ a) : subQ a v = a - v := by
  have h1 : subQ a v + v % QQ = a % QQ + QQ * bor 18446744073709551616 a v 8 := subW_eq (by decide) 8 a v
  have h2 := subQ_lt a v
  rw [Nat.mod_eq_of_lt ha, Nat.mod_eq_of_lt (Nat.lt_of_le_of_lt h ha)] at h1
  rcases Nat.eq_zero_or_pos (bor 18446744073709551616 a v 8) with h3 | h3
  · rw [h3, Nat.mul_zero] at h1
    omega
  · have h4 : QQ * 1 ≤ QQ * bor 18446744073709551616 a v 8 := Nat.mul_le_mul_left _ h3
    omega
theorem subQ_modF {a v : Nat} (ha : a < QQ) (hv : v < QQ) : subQ a v % QQ = (QQ + a - v) % QQ := by
  have h1 : subQ a v + v % QQ = a % QQ + QQ * bor 18446744073709551616 a v 8 := subW_eq (by decide) 8 a v
  have h2 := subQ_lt a v
  rw [Nat.mod_eq_of_lt ha, Nat.mod_eq_of_lt hv] at h1
  have h3 : QQ + a - v = subQ a v + (QQ - QQ * bor 18446744073709551616 a v 8) ∧ QQ * bor 18446744073709551616 a v 8 ≤ QQ := by
    rcases Nat.lt_or_ge (bor 18446744073709551616 a v 8) 2 with h3 | h3
    · have : bor 18446744073709551616 a v 8 = 0 ∨ bor 18446744073709551616 a v 8 = 1 := by omega
      rcases this with h4 | h4 <;> rw [h4] at h1 ⊢ <;> omega
    · have h4 : QQ * 2 ≤ QQ * bor 18446744073709551616 a v 8 := Nat.mul_le_mul_left _ h3
      omega
  rw [h3.1]
  rcases Nat.lt_or_ge (bor 18446744073709551616 a v 8) 1 with h4 | h4
  · rw [show bor 18446744073709551616 a v 8 = 0 by omega, Nat.mul_zero, Nat.sub_zero, Nat.add_mod_right]
  · have h5 : QQ * 1 ≤ QQ * bor 18446744073709551616 a v 8 := Nat.mul_le_mul_left _ h4
    rw [show QQ - QQ * bor 18446744073709551616 a v 8 = 0 by omega, Nat.add_zero]

/-- The numbers that right goes through, from a guess to what is right. -/
def qsN (A G j : Nat) : Nat := if G ≤ A then G + j else G - j
theorem qsN_zero (A G : Nat) : qsN A G 0 = G := by unfold qsN; split <;> omega
theorem qsN_end (A G : Nat) : qsN A G (awN A G) = A := by
  unfold qsN awN
  split <;> split <;> omega
theorem qsN_le {A G j B : Nat} (hA : A ≤ B) (hG : G ≤ B) (hj : j ≤ awN A G) : qsN A G j ≤ B := by
  unfold awN at hj
  unfold qsN
  split <;> split at hj <;> omega
theorem qsN_next {A G j : Nat} (hj : j ≤ awN A G) : (A < qsN A G j ∧ j < awN A G ∧ qsN A G (j + 1) = qsN A G j - 1) ∨ (qsN A G j = A ∧ j = awN A G) ∨ (qsN A G j < A ∧ j < awN A G ∧ qsN A G (j + 1) = qsN A G j + 1) := by
  by_cases h : G ≤ A
  · have e1 : awN A G = A - G := by unfold awN; rw [if_neg (by omega)]
    have e2 : ∀ k, qsN A G k = G + k := fun k => if_pos h
    rw [e1] at hj ⊢
    rw [e2, e2]
    omega
  · have e1 : awN A G = G - A := by unfold awN; rw [if_pos (by omega)]
    have e2 : ∀ k, qsN A G k = G - k := fun k => if_neg h
    rw [e1] at hj ⊢
    rw [e2, e2]
    omega
/-- right, over any closure that tells what a number leaves, and whether it is above A. -/
theorem right_any (fid : Nat) (caps : Array Value) (A G most : Nat) (lv : Nat → Nat) (w : World) (hmost : most ≤ 100) (hA : A < 2 ^ 205) (hG : G < 2 ^ 205)
    (hent : ∀ args w, (callFunc fid args).run Try.prog w = .ok (.enter fid args) w)
    (HCL : ∀ q V, q < 2 ^ 210 → Below w.heap.size w V → Calls Try.prog fid (#[.agg #[.int .u64 (dgl (q) 0 : Nat), .int .u64 (dgl (q) 1 : Nat), .int .u64 (dgl (q) 2 : Nat), .int .u64 (dgl (q) 3 : Nat), .int .u64 (dgl (q) 4 : Nat), .int .u64 (dgl (q) 5 : Nat), .int .u64 (dgl (q) 6 : Nat), .int .u64 (dgl (q) 7 : Nat)]] ++ caps) V fun e w' => e = .returned (.tuple #[.agg #[.int .u64 (dgl (lv q) 0 : Nat), .int .u64 (dgl (lv q) 1 : Nat), .int .u64 (dgl (lv q) 2 : Nat), .int .u64 (dgl (lv q) 3 : Nat), .int .u64 (dgl (lv q) 4 : Nat), .int .u64 (dgl (lv q) 5 : Nat), .int .u64 (dgl (lv q) 6 : Nat), .int .u64 (dgl (lv q) 7 : Nat)], .bool (decide (A < q))]) ∧ Below V.heap.size V w') :
    Calls Try.prog 55 #[.agg #[.int .u64 (dgl (G) 0 : Nat), .int .u64 (dgl (G) 1 : Nat), .int .u64 (dgl (G) 2 : Nat), .int .u64 (dgl (G) 3 : Nat), .int .u64 (dgl (G) 4 : Nat), .int .u64 (dgl (G) 5 : Nat), .int .u64 (dgl (G) 6 : Nat), .int .u64 (dgl (G) 7 : Nat)], .int .i64 (most : Nat), .func (.func fid) #[] caps] w fun e w' => (e = .returned (.tuple #[.agg #[.int .u64 (dgl (A) 0 : Nat), .int .u64 (dgl (A) 1 : Nat), .int .u64 (dgl (A) 2 : Nat), .int .u64 (dgl (A) 3 : Nat), .int .u64 (dgl (A) 4 : Nat), .int .u64 (dgl (A) 5 : Nat), .int .u64 (dgl (A) 6 : Nat), .int .u64 (dgl (A) 7 : Nat)], .agg #[.int .u64 (dgl (lv A) 0 : Nat), .int .u64 (dgl (lv A) 1 : Nat), .int .u64 (dgl (lv A) 2 : Nat), .int .u64 (dgl (lv A) 3 : Nat), .int .u64 (dgl (lv A) 4 : Nat), .int .u64 (dgl (lv A) 5 : Nat), .int .u64 (dgl (lv A) 6 : Nat), .int .u64 (dgl (lv A) 7 : Nat)], .int .i64 (awN A G : Nat), .int .i64 0]) ∧ awN A G ≤ most ∧ Below w.heap.size w w') ∨ (e = .returned (.tuple #[.agg #[.int .u64 (dgl (0) 0 : Nat), .int .u64 (dgl (0) 1 : Nat), .int .u64 (dgl (0) 2 : Nat), .int .u64 (dgl (0) 3 : Nat), .int .u64 (dgl (0) 4 : Nat), .int .u64 (dgl (0) 5 : Nat), .int .u64 (dgl (0) 6 : Nat), .int .u64 (dgl (0) 7 : Nat)], .agg #[.int .u64 (dgl (0) 0 : Nat), .int .u64 (dgl (0) 1 : Nat), .int .u64 (dgl (0) 2 : Nat), .int .u64 (dgl (0) 3 : Nat), .int .u64 (dgl (0) 4 : Nat), .int .u64 (dgl (0) 5 : Nat), .int .u64 (dgl (0) 6 : Nat), .int .u64 (dgl (0) 7 : Nat)], .int .i64 0, .int .i64 6]) ∧ most < awN A G ∧ Below w.heap.size w w') := by
  have h5 : (2 : Nat) ^ 205 + 1 < 2 ^ 210 := by decide +kernel
  have h6 : (2 : Nat) ^ 210 < QQ := by decide +kernel
  have hB : ∀ j, j ≤ awN A G → qsN A G j ≤ 2 ^ 205 := fun j hj => qsN_le (Nat.le_of_lt hA) (Nat.le_of_lt hG) hj
  have h := right_walk fid caps G most (awN A G) (qsN A G) lv (fun q => decide (A < q)) w hmost (hide (qsN_zero A G)) hent (hide fun j hj => by have := hB j hj; omega) (hide fun j hj => by have := hB j hj; omega)
    (hide fun j hj => by
      rcases qsN_next hj with ⟨a, b, c⟩ | ⟨a, b⟩ | ⟨a, b, c⟩
      · exact .inl ⟨⟨decide_eq_true a, decide_eq_true (by omega)⟩, b, by omega, c⟩
      · exact .inr (.inl ⟨decide_eq_false (by omega), decide_eq_true (by omega), b⟩)
      · exact .inr (.inr ⟨decide_eq_false (by omega), decide_eq_false (by omega), b, c⟩)) (hide HCL)
    (hide fun j hj w => (wideAdd_any (qsN A G j) 1 (by have := hB j hj; omega) (by omega) w).mono fun e w' h => ⟨_, h.1, h.2⟩)
    (hide fun j hj h0 w => by
      have hb := hB j hj
      have h := wideSub_any (qsN A G j) 1 (by omega) (by omega) w
      rw [subQ_leF (by omega) h0] at h
      exact h.mono fun e w' h => ⟨_, h.1, h.2⟩)
  rw [qsN_end] at h
  rw [w8_zero]
  exact h

/-- Where a quotient isn't asked for as it may be. -/
theorem fquot_err (n d g : Nat) (most : Int) (hn : n < QQ) (hd : d < QQ) (hg : g < QQ) (he : fmN most ((mayN n d : Nat) : Int) g ≠ 0) (w : World) :
    Calls Try.prog 26 #[.agg #[.int .u64 (dgl (n) 0 : Nat), .int .u64 (dgl (n) 1 : Nat), .int .u64 (dgl (n) 2 : Nat), .int .u64 (dgl (n) 3 : Nat), .int .u64 (dgl (n) 4 : Nat), .int .u64 (dgl (n) 5 : Nat), .int .u64 (dgl (n) 6 : Nat), .int .u64 (dgl (n) 7 : Nat)], .agg #[.int .u64 (dgl (d) 0 : Nat), .int .u64 (dgl (d) 1 : Nat), .int .u64 (dgl (d) 2 : Nat), .int .u64 (dgl (d) 3 : Nat), .int .u64 (dgl (d) 4 : Nat), .int .u64 (dgl (d) 5 : Nat), .int .u64 (dgl (d) 6 : Nat), .int .u64 (dgl (d) 7 : Nat)], .agg #[.int .u64 (dgl (g) 0 : Nat), .int .u64 (dgl (g) 1 : Nat), .int .u64 (dgl (g) 2 : Nat), .int .u64 (dgl (g) 3 : Nat), .int .u64 (dgl (g) 4 : Nat), .int .u64 (dgl (g) 5 : Nat), .int .u64 (dgl (g) 6 : Nat), .int .u64 (dgl (g) 7 : Nat)], .int .i64 most] w fun e' w' => e' = .returned (.tuple #[.agg #[.int .u64 (dgl (0) 0 : Nat), .int .u64 (dgl (0) 1 : Nat), .int .u64 (dgl (0) 2 : Nat), .int .u64 (dgl (0) 3 : Nat), .int .u64 (dgl (0) 4 : Nat), .int .u64 (dgl (0) 5 : Nat), .int .u64 (dgl (0) 6 : Nat), .int .u64 (dgl (0) 7 : Nat)], .agg #[.int .u64 (dgl (0) 0 : Nat), .int .u64 (dgl (0) 1 : Nat), .int .u64 (dgl (0) 2 : Nat), .int .u64 (dgl (0) 3 : Nat), .int .u64 (dgl (0) 4 : Nat), .int .u64 (dgl (0) 5 : Nat), .int .u64 (dgl (0) 6 : Nat), .int .u64 (dgl (0) 7 : Nat)], .int .i64 0, .int .i64 (fmN most ((mayN n d : Nat) : Int) g)]) ∧ Below w.heap.size w w' := by
  rw [w8_zero]
  exact quot_E n d g most _ _ w (by rw [beq_eq_false_iff_ne]; exact he) (hide fun w => may_any n d hn hd w) (hide fun w => fmay_any most _ g hg w)
/-- Where a root isn't. -/
theorem froot_err (n g : Nat) (most : Int) (hn : n < QQ) (hg : g < QQ) (he : fmN most (if n < 2 ^ 256 then 0 else 4) g ≠ 0) (w : World) :
    Calls Try.prog 33 #[.agg #[.int .u64 (dgl (n) 0 : Nat), .int .u64 (dgl (n) 1 : Nat), .int .u64 (dgl (n) 2 : Nat), .int .u64 (dgl (n) 3 : Nat), .int .u64 (dgl (n) 4 : Nat), .int .u64 (dgl (n) 5 : Nat), .int .u64 (dgl (n) 6 : Nat), .int .u64 (dgl (n) 7 : Nat)], .agg #[.int .u64 (dgl (g) 0 : Nat), .int .u64 (dgl (g) 1 : Nat), .int .u64 (dgl (g) 2 : Nat), .int .u64 (dgl (g) 3 : Nat), .int .u64 (dgl (g) 4 : Nat), .int .u64 (dgl (g) 5 : Nat), .int .u64 (dgl (g) 6 : Nat), .int .u64 (dgl (g) 7 : Nat)], .int .i64 most] w fun e' w' => e' = .returned (.tuple #[.agg #[.int .u64 (dgl (0) 0 : Nat), .int .u64 (dgl (0) 1 : Nat), .int .u64 (dgl (0) 2 : Nat), .int .u64 (dgl (0) 3 : Nat), .int .u64 (dgl (0) 4 : Nat), .int .u64 (dgl (0) 5 : Nat), .int .u64 (dgl (0) 6 : Nat), .int .u64 (dgl (0) 7 : Nat)], .agg #[.int .u64 (dgl (0) 0 : Nat), .int .u64 (dgl (0) 1 : Nat), .int .u64 (dgl (0) 2 : Nat), .int .u64 (dgl (0) 3 : Nat), .int .u64 (dgl (0) 4 : Nat), .int .u64 (dgl (0) 5 : Nat), .int .u64 (dgl (0) 6 : Nat), .int .u64 (dgl (0) 7 : Nat)], .int .i64 0, .int .i64 (fmN most (if n < 2 ^ 256 then 0 else 4) g)]) ∧ Below w.heap.size w w' := by
  rw [w8_zero]
  exact root18_E n g most _ _ w (by rw [beq_eq_false_iff_ne]; exact he) (hide fun w => fmayR_any n hn w) (hide fun w => fmay_any most _ g hg w)
theorem quo_left {n d : Nat} (hn : n < QQ) : subQ n (n / d * d) = n % d := by
  rw [subQ_leF hn (Nat.div_mul_le_self n d)]
  have h := Nat.div_add_mod n d
  rw [Nat.mul_comm] at h
  omega
/-- A guess at a quotient, put right. -/
theorem fquot_right (n d g most : Nat) (hmost : most ≤ 100) (hn : n < QQ) (h : mayN n d = 0) (hg : g < 2 ^ 200) (w W : World) (ln : LiesF W w.heap.size (dgl n)) (ld : LiesF W (w.heap.size + 1) (dgl d)) :
    Calls Try.prog 55 #[.agg #[.int .u64 (dgl (g) 0 : Nat), .int .u64 (dgl (g) 1 : Nat), .int .u64 (dgl (g) 2 : Nat), .int .u64 (dgl (g) 3 : Nat), .int .u64 (dgl (g) 4 : Nat), .int .u64 (dgl (g) 5 : Nat), .int .u64 (dgl (g) 6 : Nat), .int .u64 (dgl (g) 7 : Nat)], .int .i64 (most : Nat), .func (.func 56) #[] #[.pointer (some ⟨w.heap.size + 1, 0, none⟩), .pointer (some ⟨w.heap.size, 0, none⟩)]] W fun e w' => (e = .returned (.tuple #[.agg #[.int .u64 (dgl (n / d) 0 : Nat), .int .u64 (dgl (n / d) 1 : Nat), .int .u64 (dgl (n / d) 2 : Nat), .int .u64 (dgl (n / d) 3 : Nat), .int .u64 (dgl (n / d) 4 : Nat), .int .u64 (dgl (n / d) 5 : Nat), .int .u64 (dgl (n / d) 6 : Nat), .int .u64 (dgl (n / d) 7 : Nat)], .agg #[.int .u64 (dgl (n % d) 0 : Nat), .int .u64 (dgl (n % d) 1 : Nat), .int .u64 (dgl (n % d) 2 : Nat), .int .u64 (dgl (n % d) 3 : Nat), .int .u64 (dgl (n % d) 4 : Nat), .int .u64 (dgl (n % d) 5 : Nat), .int .u64 (dgl (n % d) 6 : Nat), .int .u64 (dgl (n % d) 7 : Nat)], .int .i64 (awN (n / d) g : Nat), .int .i64 0]) ∧ awN (n / d) g ≤ most ∧ Below W.heap.size W w') ∨ (e = .returned (.tuple #[.agg #[.int .u64 (dgl (0) 0 : Nat), .int .u64 (dgl (0) 1 : Nat), .int .u64 (dgl (0) 2 : Nat), .int .u64 (dgl (0) 3 : Nat), .int .u64 (dgl (0) 4 : Nat), .int .u64 (dgl (0) 5 : Nat), .int .u64 (dgl (0) 6 : Nat), .int .u64 (dgl (0) 7 : Nat)], .agg #[.int .u64 (dgl (0) 0 : Nat), .int .u64 (dgl (0) 1 : Nat), .int .u64 (dgl (0) 2 : Nat), .int .u64 (dgl (0) 3 : Nat), .int .u64 (dgl (0) 4 : Nat), .int .u64 (dgl (0) 5 : Nat), .int .u64 (dgl (0) 6 : Nat), .int .u64 (dgl (0) 7 : Nat)], .int .i64 0, .int .i64 6]) ∧ most < awN (n / d) g ∧ Below W.heap.size W w') := by
  obtain ⟨h0, h1, h2⟩ := mayN_zero h
  have hq : n / d < 2 ^ 128 := by rw [Nat.div_lt_iff_lt_mul h0, Nat.mul_comm]; exact h2
  have hr := right_any 56 #[.pointer (some ⟨w.heap.size + 1, 0, none⟩), .pointer (some ⟨w.heap.size, 0, none⟩)] (n / d) g most (fun q => subQ n (q * d)) W hmost (Nat.lt_trans hq (by decide +kernel)) (Nat.lt_trans hg (by decide +kernel)) (enters_of Try.func56 (by kernel_rfl) rfl) ?_
  · rw [quo_left hn] at hr
    exact hr
  · intro q V hq2 hb
    have e : decide (n / d < q) = decide (n < q * d) := decide_eq_decide.2 (Nat.div_lt_iff_lt_mul h0)
    rw [e]
    exact quo1_any n d q (w.heap.size + 1) w.heap.size hn h1 hq2 V (ld.below hb) (ln.below hb)
theorem fmN_fine {most g : Nat} (hmost : most ≤ 100) (hg : g < 2 ^ 200) : fmN (most : Nat) 0 g = 0 := by
  have h := bitLen_above g 200
  unfold fmN
  rw [if_neg (by omega), if_neg (by simp), if_neg (fun h1 => absurd (h.1 h1) (Nat.not_le.2 hg))]
theorem fquot_ok (n d g most : Nat) (hmost : most ≤ 100) (hn : n < QQ) (hd : d < QQ) (h : mayN n d = 0) (hg : g < 2 ^ 200) (ha : awN (n / d) g ≤ most) (w : World) :
    Calls Try.prog 26 #[.agg #[.int .u64 (dgl (n) 0 : Nat), .int .u64 (dgl (n) 1 : Nat), .int .u64 (dgl (n) 2 : Nat), .int .u64 (dgl (n) 3 : Nat), .int .u64 (dgl (n) 4 : Nat), .int .u64 (dgl (n) 5 : Nat), .int .u64 (dgl (n) 6 : Nat), .int .u64 (dgl (n) 7 : Nat)], .agg #[.int .u64 (dgl (d) 0 : Nat), .int .u64 (dgl (d) 1 : Nat), .int .u64 (dgl (d) 2 : Nat), .int .u64 (dgl (d) 3 : Nat), .int .u64 (dgl (d) 4 : Nat), .int .u64 (dgl (d) 5 : Nat), .int .u64 (dgl (d) 6 : Nat), .int .u64 (dgl (d) 7 : Nat)], .agg #[.int .u64 (dgl (g) 0 : Nat), .int .u64 (dgl (g) 1 : Nat), .int .u64 (dgl (g) 2 : Nat), .int .u64 (dgl (g) 3 : Nat), .int .u64 (dgl (g) 4 : Nat), .int .u64 (dgl (g) 5 : Nat), .int .u64 (dgl (g) 6 : Nat), .int .u64 (dgl (g) 7 : Nat)], .int .i64 (most : Nat)] w fun e' w' => e' = .returned (.tuple #[.agg #[.int .u64 (dgl (n / d) 0 : Nat), .int .u64 (dgl (n / d) 1 : Nat), .int .u64 (dgl (n / d) 2 : Nat), .int .u64 (dgl (n / d) 3 : Nat), .int .u64 (dgl (n / d) 4 : Nat), .int .u64 (dgl (n / d) 5 : Nat), .int .u64 (dgl (n / d) 6 : Nat), .int .u64 (dgl (n / d) 7 : Nat)], .agg #[.int .u64 (dgl (n % d) 0 : Nat), .int .u64 (dgl (n % d) 1 : Nat), .int .u64 (dgl (n % d) 2 : Nat), .int .u64 (dgl (n % d) 3 : Nat), .int .u64 (dgl (n % d) 4 : Nat), .int .u64 (dgl (n % d) 5 : Nat), .int .u64 (dgl (n % d) 6 : Nat), .int .u64 (dgl (n % d) 7 : Nat)], .int .i64 (awN (n / d) g : Nat), .int .i64 0]) ∧ Below w.heap.size w w' := by
  have hgq : g < QQ := Nat.lt_trans hg (by decide +kernel)
  refine quot_Y n d g (n / d) (n % d) (most : Nat) ((mayN n d : Nat) : Int) (fmN (most : Nat) ((mayN n d : Nat) : Int) g) (awN (n / d) g : Nat) 0 w ?_ (hide fun w => may_any n d hn hd w) (hide fun w => fmay_any _ _ g hgq w) (hide fun W ln ld _ => (fquot_right n d g most hmost hn h hg w W ln ld).mono ?_)
  · rw [h]
    exact fmN_fine hmost hg
  · rintro e w' (⟨h1, -, h3⟩ | ⟨-, h2, -⟩)
    · exact ⟨h1, h3⟩
    · omega
theorem fquot_far (n d g most : Nat) (hmost : most ≤ 100) (hn : n < QQ) (hd : d < QQ) (h : mayN n d = 0) (hg : g < 2 ^ 200) (ha : most < awN (n / d) g) (w : World) :
    Calls Try.prog 26 #[.agg #[.int .u64 (dgl (n) 0 : Nat), .int .u64 (dgl (n) 1 : Nat), .int .u64 (dgl (n) 2 : Nat), .int .u64 (dgl (n) 3 : Nat), .int .u64 (dgl (n) 4 : Nat), .int .u64 (dgl (n) 5 : Nat), .int .u64 (dgl (n) 6 : Nat), .int .u64 (dgl (n) 7 : Nat)], .agg #[.int .u64 (dgl (d) 0 : Nat), .int .u64 (dgl (d) 1 : Nat), .int .u64 (dgl (d) 2 : Nat), .int .u64 (dgl (d) 3 : Nat), .int .u64 (dgl (d) 4 : Nat), .int .u64 (dgl (d) 5 : Nat), .int .u64 (dgl (d) 6 : Nat), .int .u64 (dgl (d) 7 : Nat)], .agg #[.int .u64 (dgl (g) 0 : Nat), .int .u64 (dgl (g) 1 : Nat), .int .u64 (dgl (g) 2 : Nat), .int .u64 (dgl (g) 3 : Nat), .int .u64 (dgl (g) 4 : Nat), .int .u64 (dgl (g) 5 : Nat), .int .u64 (dgl (g) 6 : Nat), .int .u64 (dgl (g) 7 : Nat)], .int .i64 (most : Nat)] w fun e' w' => e' = .returned (.tuple #[.agg #[.int .u64 (dgl (0) 0 : Nat), .int .u64 (dgl (0) 1 : Nat), .int .u64 (dgl (0) 2 : Nat), .int .u64 (dgl (0) 3 : Nat), .int .u64 (dgl (0) 4 : Nat), .int .u64 (dgl (0) 5 : Nat), .int .u64 (dgl (0) 6 : Nat), .int .u64 (dgl (0) 7 : Nat)], .agg #[.int .u64 (dgl (0) 0 : Nat), .int .u64 (dgl (0) 1 : Nat), .int .u64 (dgl (0) 2 : Nat), .int .u64 (dgl (0) 3 : Nat), .int .u64 (dgl (0) 4 : Nat), .int .u64 (dgl (0) 5 : Nat), .int .u64 (dgl (0) 6 : Nat), .int .u64 (dgl (0) 7 : Nat)], .int .i64 0, .int .i64 6]) ∧ Below w.heap.size w w' := by
  have hgq : g < QQ := Nat.lt_trans hg (by decide +kernel)
  refine quot_Y n d g 0 0 (most : Nat) ((mayN n d : Nat) : Int) (fmN (most : Nat) ((mayN n d : Nat) : Int) g) 0 6 w ?_ (hide fun w => may_any n d hn hd w) (hide fun w => fmay_any _ _ g hgq w) (hide fun W ln ld _ => (fquot_right n d g most hmost hn h hg w W ln ld).mono ?_)
  · rw [h]
    exact fmN_fine hmost hg
  · rintro e w' (⟨-, h2, -⟩ | ⟨h1, -, h3⟩)
    · omega
    · exact ⟨h1, h3⟩
/-- A guess at a root, put right. -/
theorem froot_right (n S g most : Nat) (hmost : most ≤ 100) (hn : n < 2 ^ 256) (hs : ∀ y, y ^ 2 ≤ n ↔ y ≤ S) (hg : g < 2 ^ 200) (w W : World) (ln : LiesF W w.heap.size (dgl n)) :
    Calls Try.prog 55 #[.agg #[.int .u64 (dgl (g) 0 : Nat), .int .u64 (dgl (g) 1 : Nat), .int .u64 (dgl (g) 2 : Nat), .int .u64 (dgl (g) 3 : Nat), .int .u64 (dgl (g) 4 : Nat), .int .u64 (dgl (g) 5 : Nat), .int .u64 (dgl (g) 6 : Nat), .int .u64 (dgl (g) 7 : Nat)], .int .i64 (most : Nat), .func (.func 61) #[] #[.pointer (some ⟨w.heap.size, 0, none⟩)]] W fun e w' => (e = .returned (.tuple #[.agg #[.int .u64 (dgl (S) 0 : Nat), .int .u64 (dgl (S) 1 : Nat), .int .u64 (dgl (S) 2 : Nat), .int .u64 (dgl (S) 3 : Nat), .int .u64 (dgl (S) 4 : Nat), .int .u64 (dgl (S) 5 : Nat), .int .u64 (dgl (S) 6 : Nat), .int .u64 (dgl (S) 7 : Nat)], .agg #[.int .u64 (dgl (n - S ^ 2) 0 : Nat), .int .u64 (dgl (n - S ^ 2) 1 : Nat), .int .u64 (dgl (n - S ^ 2) 2 : Nat), .int .u64 (dgl (n - S ^ 2) 3 : Nat), .int .u64 (dgl (n - S ^ 2) 4 : Nat), .int .u64 (dgl (n - S ^ 2) 5 : Nat), .int .u64 (dgl (n - S ^ 2) 6 : Nat), .int .u64 (dgl (n - S ^ 2) 7 : Nat)], .int .i64 (awN S g : Nat), .int .i64 0]) ∧ awN S g ≤ most ∧ Below W.heap.size W w') ∨ (e = .returned (.tuple #[.agg #[.int .u64 (dgl (0) 0 : Nat), .int .u64 (dgl (0) 1 : Nat), .int .u64 (dgl (0) 2 : Nat), .int .u64 (dgl (0) 3 : Nat), .int .u64 (dgl (0) 4 : Nat), .int .u64 (dgl (0) 5 : Nat), .int .u64 (dgl (0) 6 : Nat), .int .u64 (dgl (0) 7 : Nat)], .agg #[.int .u64 (dgl (0) 0 : Nat), .int .u64 (dgl (0) 1 : Nat), .int .u64 (dgl (0) 2 : Nat), .int .u64 (dgl (0) 3 : Nat), .int .u64 (dgl (0) 4 : Nat), .int .u64 (dgl (0) 5 : Nat), .int .u64 (dgl (0) 6 : Nat), .int .u64 (dgl (0) 7 : Nat)], .int .i64 0, .int .i64 6]) ∧ most < awN S g ∧ Below W.heap.size W w') := by
  have hS : S < 2 ^ 128 := root_lt hs (by rw [← Nat.pow_mul]; exact hn)
  have hnq : n < QQ := Nat.lt_trans hn (by decide +kernel)
  have hr := right_any 61 #[.pointer (some ⟨w.heap.size, 0, none⟩)] S g most (fun q => subQ n (q * q)) W hmost (Nat.lt_trans hS (by decide +kernel)) (Nat.lt_trans hg (by decide +kernel)) (enters_of Try.func61 (by kernel_rfl) rfl) ?_
  · have hle := (hs S).2 (Nat.le_refl _)
    rw [Nat.pow_two] at hle
    rw [subQ_leF hnq hle, ← Nat.pow_two] at hr
    exact hr
  · intro q V hq2 hb
    have e : decide (S < q) = decide (n < q * q) := decide_eq_decide.2 (by
      have := hs q
      rw [Nat.pow_two] at this
      omega)
    rw [e]
    exact rot1_any n q w.heap.size hnq hq2 V (ln.below hb)
theorem froot_ok (n S g most : Nat) (hmost : most ≤ 100) (hn : n < 2 ^ 256) (hs : ∀ y, y ^ 2 ≤ n ↔ y ≤ S) (hg : g < 2 ^ 200) (ha : awN S g ≤ most) (w : World) :
    Calls Try.prog 33 #[.agg #[.int .u64 (dgl (n) 0 : Nat), .int .u64 (dgl (n) 1 : Nat), .int .u64 (dgl (n) 2 : Nat), .int .u64 (dgl (n) 3 : Nat), .int .u64 (dgl (n) 4 : Nat), .int .u64 (dgl (n) 5 : Nat), .int .u64 (dgl (n) 6 : Nat), .int .u64 (dgl (n) 7 : Nat)], .agg #[.int .u64 (dgl (g) 0 : Nat), .int .u64 (dgl (g) 1 : Nat), .int .u64 (dgl (g) 2 : Nat), .int .u64 (dgl (g) 3 : Nat), .int .u64 (dgl (g) 4 : Nat), .int .u64 (dgl (g) 5 : Nat), .int .u64 (dgl (g) 6 : Nat), .int .u64 (dgl (g) 7 : Nat)], .int .i64 (most : Nat)] w fun e' w' => e' = .returned (.tuple #[.agg #[.int .u64 (dgl (S) 0 : Nat), .int .u64 (dgl (S) 1 : Nat), .int .u64 (dgl (S) 2 : Nat), .int .u64 (dgl (S) 3 : Nat), .int .u64 (dgl (S) 4 : Nat), .int .u64 (dgl (S) 5 : Nat), .int .u64 (dgl (S) 6 : Nat), .int .u64 (dgl (S) 7 : Nat)], .agg #[.int .u64 (dgl (n - S ^ 2) 0 : Nat), .int .u64 (dgl (n - S ^ 2) 1 : Nat), .int .u64 (dgl (n - S ^ 2) 2 : Nat), .int .u64 (dgl (n - S ^ 2) 3 : Nat), .int .u64 (dgl (n - S ^ 2) 4 : Nat), .int .u64 (dgl (n - S ^ 2) 5 : Nat), .int .u64 (dgl (n - S ^ 2) 6 : Nat), .int .u64 (dgl (n - S ^ 2) 7 : Nat)], .int .i64 (awN S g : Nat), .int .i64 0]) ∧ Below w.heap.size w w' := by
  have hgq : g < QQ := Nat.lt_trans hg (by decide +kernel)
  have hnq : n < QQ := Nat.lt_trans hn (by decide +kernel)
  refine root18_Y n g S (n - S ^ 2) (most : Nat) (if n < 2 ^ 256 then 0 else 4) (fmN (most : Nat) (if n < 2 ^ 256 then 0 else 4) g) (awN S g : Nat) 0 w ?_ (hide fun w => fmayR_any n hnq w) (hide fun w => fmay_any _ _ g hgq w) (hide fun W ln _ => (froot_right n S g most hmost hn hs hg w W ln).mono ?_)
  · rw [if_pos hn]
    exact fmN_fine hmost hg
  · rintro e w' (⟨h1, -, h3⟩ | ⟨-, h2, -⟩)
    · exact ⟨h1, h3⟩
    · omega
theorem froot_far (n S g most : Nat) (hmost : most ≤ 100) (hn : n < 2 ^ 256) (hs : ∀ y, y ^ 2 ≤ n ↔ y ≤ S) (hg : g < 2 ^ 200) (ha : most < awN S g) (w : World) :
    Calls Try.prog 33 #[.agg #[.int .u64 (dgl (n) 0 : Nat), .int .u64 (dgl (n) 1 : Nat), .int .u64 (dgl (n) 2 : Nat), .int .u64 (dgl (n) 3 : Nat), .int .u64 (dgl (n) 4 : Nat), .int .u64 (dgl (n) 5 : Nat), .int .u64 (dgl (n) 6 : Nat), .int .u64 (dgl (n) 7 : Nat)], .agg #[.int .u64 (dgl (g) 0 : Nat), .int .u64 (dgl (g) 1 : Nat), .int .u64 (dgl (g) 2 : Nat), .int .u64 (dgl (g) 3 : Nat), .int .u64 (dgl (g) 4 : Nat), .int .u64 (dgl (g) 5 : Nat), .int .u64 (dgl (g) 6 : Nat), .int .u64 (dgl (g) 7 : Nat)], .int .i64 (most : Nat)] w fun e' w' => e' = .returned (.tuple #[.agg #[.int .u64 (dgl (0) 0 : Nat), .int .u64 (dgl (0) 1 : Nat), .int .u64 (dgl (0) 2 : Nat), .int .u64 (dgl (0) 3 : Nat), .int .u64 (dgl (0) 4 : Nat), .int .u64 (dgl (0) 5 : Nat), .int .u64 (dgl (0) 6 : Nat), .int .u64 (dgl (0) 7 : Nat)], .agg #[.int .u64 (dgl (0) 0 : Nat), .int .u64 (dgl (0) 1 : Nat), .int .u64 (dgl (0) 2 : Nat), .int .u64 (dgl (0) 3 : Nat), .int .u64 (dgl (0) 4 : Nat), .int .u64 (dgl (0) 5 : Nat), .int .u64 (dgl (0) 6 : Nat), .int .u64 (dgl (0) 7 : Nat)], .int .i64 0, .int .i64 6]) ∧ Below w.heap.size w w' := by
  have hgq : g < QQ := Nat.lt_trans hg (by decide +kernel)
  have hnq : n < QQ := Nat.lt_trans hn (by decide +kernel)
  refine root18_Y n g 0 0 (most : Nat) (if n < 2 ^ 256 then 0 else 4) (fmN (most : Nat) (if n < 2 ^ 256 then 0 else 4) g) 0 6 w ?_ (hide fun w => fmayR_any n hnq w) (hide fun w => fmay_any _ _ g hgq w) (hide fun W ln _ => (froot_right n S g most hmost hn hs hg w W ln).mono ?_)
  · rw [if_pos hn]
    exact fmN_fine hmost hg
  · rintro e w' (⟨-, h2, -⟩ | ⟨h1, -, h3⟩)
    · omega
    · exact ⟨h1, h3⟩

theorem cmpN_le0 (a b : Nat) : cmpN a b ≤ 0 ↔ a ≤ b := by
  unfold cmpN
  by_cases h : a < b
  · rw [if_pos h]
    omega
  · rw [if_neg h]
    by_cases h2 : b < a
    · rw [if_pos h2]
      omega
    · rw [if_neg h2]
      omega
theorem cmpN_ge0 (a b : Nat) : 0 ≤ cmpN a b ↔ b ≤ a := by
  unfold cmpN
  by_cases h : a < b
  · rw [if_pos h]
    omega
  · rw [if_neg h]
    by_cases h2 : b < a
    · rw [if_pos h2]
      omega
    · rw [if_neg h2]
      omega
/-- The guess that the law bends. -/
def bnN (a : Nat) (b : Int) : Nat := if 0 ≤ b then a + b.toNat else if (-b).toNat ≤ a then a - (-b).toNat else a
theorem bent_any (a : Nat) (b : Int) (h1 : -128 ≤ b) (h2 : b < 128) (ha : a < QQ) (w : World) :
    Calls Try.prog 25 #[.agg #[.int .u64 (dgl (a) 0 : Nat), .int .u64 (dgl (a) 1 : Nat), .int .u64 (dgl (a) 2 : Nat), .int .u64 (dgl (a) 3 : Nat), .int .u64 (dgl (a) 4 : Nat), .int .u64 (dgl (a) 5 : Nat), .int .u64 (dgl (a) 6 : Nat), .int .u64 (dgl (a) 7 : Nat)], .int .i8 b] w fun e' w' => e' = .returned (.agg #[.int .u64 (dgl (bnN a b) 0 : Nat), .int .u64 (dgl (bnN a b) 1 : Nat), .int .u64 (dgl (bnN a b) 2 : Nat), .int .u64 (dgl (bnN a b) 3 : Nat), .int .u64 (dgl (bnN a b) 4 : Nat), .int .u64 (dgl (bnN a b) 5 : Nat), .int .u64 (dgl (bnN a b) 6 : Nat), .int .u64 (dgl (bnN a b) 7 : Nat)]) ∧ Below w.heap.size w w' := by
  have HBG := hide fun w => refBig_any a ha w
  by_cases h : 0 ≤ b
  · obtain ⟨k, rfl⟩ : ∃ k : Nat, b = (k : Nat) := ⟨b.toNat, by omega⟩
    rw [show bnN a (k : Nat) = a + k by unfold bnN; rw [if_pos h, Int.toNat_natCast]]
    exact bent_P a k (a + k) _ w (by rw [IntKind.wrap_u64]; omega) HBG (hide fun w => small_any k (by omega) w) (hide fun u v w hu hv => (refAdd_any a k 40 2 u v w hu hv (by decide) (by decide)).mono fun e w' ⟨z, e1, e2, e3⟩ => ⟨z, e1, e2.mono (by decide), e3⟩) (hide fun v w hv => refWide_any (a + k) 41 v w hv)
  · obtain ⟨k, hk⟩ : ∃ k : Nat, -b = (k : Nat) := ⟨(-b).toNat, by omega⟩
    have e1 : (-b).toNat = k := by omega
    have HSM := hide fun w => small_any k (by omega) w
    have HCM := hide fun u v w (hu : BigV w u a 40) (hv : BigV w v k 2) => cmp_any a k 40 2 u v w hu hv
    by_cases hle : k ≤ a
    · rw [show bnN a b = a - k by unfold bnN; rw [if_neg h, e1, if_pos hle]]
      exact bent_G a k (a - k) b (cmpN a k) _ w h (by rw [IntKind.wrap_i64]; omega) (by rw [IntKind.wrap_i64]; omega) (by rw [IntKind.wrap_u64]; omega) ((cmpN_ge0 a k).2 hle) HBG HSM HCM (hide fun u v w hu hv => refSub_any a k 40 2 u v w hu hv (by decide) hle) (hide fun v w hv => refWide_any (a - k) 40 v w hv)
    · rw [show bnN a b = a by unfold bnN; rw [if_neg h, e1, if_neg hle]]
      exact bent_L a k a b (cmpN a k) _ w h (by rw [IntKind.wrap_i64]; omega) (by rw [IntKind.wrap_i64]; omega) (by rw [IntKind.wrap_u64]; omega) (fun hq => hle ((cmpN_ge0 a k).1 hq)) HBG HSM HCM (hide fun v w hv => refWide_any a 40 v w hv)

/-- A power of 2, one more than n, where it is below 2^512. -/
def pwN (n : Int) : Nat := if -1 ≤ n ∧ n ≤ 510 then 2 ^ (n + 1).toNat else 0
theorem pwN_lt (n : Int) : pwN n < QQ := by
  unfold pwN
  split
  · rename_i h
    have h1 : (n + 1).toNat ≤ 511 := by omega
    exact Nat.lt_of_le_of_lt (Nat.pow_le_pow_right (by decide) h1) (by decide +kernel)
  · decide +kernel
theorem ftwo_any (a : Nat) (n : Int) (h1 : -9223372036854775808 ≤ n) (h2 : n ≤ 9223372036854775807) (ha : a < QQ) (w : World) :
    Calls Try.prog 41 #[.int .i64 n, .agg #[.int .u64 (dgl (a) 0 : Nat), .int .u64 (dgl (a) 1 : Nat), .int .u64 (dgl (a) 2 : Nat), .int .u64 (dgl (a) 3 : Nat), .int .u64 (dgl (a) 4 : Nat), .int .u64 (dgl (a) 5 : Nat), .int .u64 (dgl (a) 6 : Nat), .int .u64 (dgl (a) 7 : Nat)]] w fun e' w' => e' = .returned (.agg #[.int .u64 (dgl (QQ + pwN n - a) 0 : Nat), .int .u64 (dgl (QQ + pwN n - a) 1 : Nat), .int .u64 (dgl (QQ + pwN n - a) 2 : Nat), .int .u64 (dgl (QQ + pwN n - a) 3 : Nat), .int .u64 (dgl (QQ + pwN n - a) 4 : Nat), .int .u64 (dgl (QQ + pwN n - a) 5 : Nat), .int .u64 (dgl (QQ + pwN n - a) 6 : Nat), .int .u64 (dgl (QQ + pwN n - a) 7 : Nat)]) ∧ Below w.heap.size w w' := by
  rw [← w8_mod (subQ_modF (pwN_lt n) ha)]
  refine ftwo_walk a (pwN n) _ n (IntKind.i64.wrap (n + 1)) _ w (hide rfl) (hide fun w => power_num _ (pwN n) 512 (qq_pow 512 (by decide)) rfl ?_ w) (hide fun w => wideSub_any (pwN n) a (pwN_lt n) ha w)
  rw [IntKind.wrap_i64]
  unfold pwN
  by_cases h : n = 9223372036854775807
  · rw [if_neg (by omega), if_neg (by omega)]
  · by_cases h3 : -1 ≤ n ∧ n ≤ 510
    · rw [if_pos h3, if_pos (by omega)]
      congr 1
      omega
    · rw [if_neg h3, if_neg (by omega)]
theorem fnear_any (a b m : Nat) (hm : m ≤ 9223372036854775807) (ha : a < QQ) (hb : b < QQ) (w : World) :
    Calls Try.prog 42 #[.agg #[.int .u64 (dgl (a) 0 : Nat), .int .u64 (dgl (a) 1 : Nat), .int .u64 (dgl (a) 2 : Nat), .int .u64 (dgl (a) 3 : Nat), .int .u64 (dgl (a) 4 : Nat), .int .u64 (dgl (a) 5 : Nat), .int .u64 (dgl (a) 6 : Nat), .int .u64 (dgl (a) 7 : Nat)], .agg #[.int .u64 (dgl (b) 0 : Nat), .int .u64 (dgl (b) 1 : Nat), .int .u64 (dgl (b) 2 : Nat), .int .u64 (dgl (b) 3 : Nat), .int .u64 (dgl (b) 4 : Nat), .int .u64 (dgl (b) 5 : Nat), .int .u64 (dgl (b) 6 : Nat), .int .u64 (dgl (b) 7 : Nat)], .int .i64 (m : Nat)] w fun e' w' => e' = .returned (.bool (decide (awN a b ≤ m))) ∧ Below w.heap.size w w' := by
  have hmq : m < QQ := Nat.lt_of_le_of_lt hm (by decide +kernel)
  have HU : Hid (IntKind.u64.wrap (m : Int) = (m : Int)) := hide (by rw [IntKind.wrap_u64]; omega)
  have HO : Hid (∀ i, i < 8 → dg [m] i = dgl m i) := fun i hi => (dig_one (β := 18446744073709551616) (by omega)).2 i
  have HC1 := hide fun w => wideCmp_any a b ha hb w
  have hz : ∀ d, decide (cmpN d m ≤ 0) = decide (d ≤ m) := fun d => decide_eq_decide.2 (cmpN_le0 d m)
  by_cases h : a < b
  · refine fnear_Y a b (subQ b a) m (cmpN a b) (cmpN (b - a) m) _ _ w (by unfold cmpN; rw [if_pos h]; decide) HU ?_ HO HC1 (hide fun w => wideSub_any b a hb ha w) (hide fun w => ?_)
    · rw [hz, show awN a b = b - a by unfold awN; rw [if_pos h]]
      exact hide rfl
    · rw [subQ_leF hb (Nat.le_of_lt h)]
      exact wideCmp_any (b - a) m (by omega) hmq w
  · refine fnear_N a b (subQ a b) m (cmpN a b) (cmpN (a - b) m) _ _ w (by have := (cmpN_ge0 a b).2 (Nat.not_lt.1 h); omega) HU ?_ HO HC1 (hide fun w => wideSub_any a b ha hb w) (hide fun w => ?_)
    · rw [hz, show awN a b = a - b by unfold awN; rw [if_neg h]]
      exact hide rfl
    · rw [subQ_leF ha (by omega)]
      exact wideCmp_any (a - b) m (by omega) hmq w

set_option maxHeartbeats 2000000 in
theorem awake18_walk (a b : Nat) (ha : ∀ w, (Op.equalIn 10000 32 (.agg #[.int .u64 (dgl (a) 0 : Nat), .int .u64 (dgl (a) 1 : Nat), .int .u64 (dgl (a) 2 : Nat), .int .u64 (dgl (a) 3 : Nat), .int .u64 (dgl (a) 4 : Nat), .int .u64 (dgl (a) 5 : Nat), .int .u64 (dgl (a) 6 : Nat), .int .u64 (dgl (a) 7 : Nat)]) (.agg #[.int .u64 14, .int .u64 0, .int .u64 0, .int .u64 0, .int .u64 0, .int .u64 0, .int .u64 0, .int .u64 0])).run Try.prog w = .ok true w) (hb : ∀ w, (Op.equalIn 10000 32 (.agg #[.int .u64 (dgl (b) 0 : Nat), .int .u64 (dgl (b) 1 : Nat), .int .u64 (dgl (b) 2 : Nat), .int .u64 (dgl (b) 3 : Nat), .int .u64 (dgl (b) 4 : Nat), .int .u64 (dgl (b) 5 : Nat), .int .u64 (dgl (b) 6 : Nat), .int .u64 (dgl (b) 7 : Nat)]) (.agg #[.int .u64 2, .int .u64 0, .int .u64 0, .int .u64 0, .int .u64 0, .int .u64 0, .int .u64 0, .int .u64 0])).run Try.prog w = .ok true w)
    (HD : Hid (∀ w, Calls Try.prog 26 #[.agg #[.int .u64 100, .int .u64 0, .int .u64 0, .int .u64 0, .int .u64 0, .int .u64 0, .int .u64 0, .int .u64 0], .agg #[.int .u64 7, .int .u64 0, .int .u64 0, .int .u64 0, .int .u64 0, .int .u64 0, .int .u64 0, .int .u64 0], .agg #[.int .u64 12, .int .u64 0, .int .u64 0, .int .u64 0, .int .u64 0, .int .u64 0, .int .u64 0, .int .u64 0], .int .i64 5] w fun e w' => e = .returned (.tuple #[.agg #[.int .u64 (dgl (a) 0 : Nat), .int .u64 (dgl (a) 1 : Nat), .int .u64 (dgl (a) 2 : Nat), .int .u64 (dgl (a) 3 : Nat), .int .u64 (dgl (a) 4 : Nat), .int .u64 (dgl (a) 5 : Nat), .int .u64 (dgl (a) 6 : Nat), .int .u64 (dgl (a) 7 : Nat)], .agg #[.int .u64 (dgl (b) 0 : Nat), .int .u64 (dgl (b) 1 : Nat), .int .u64 (dgl (b) 2 : Nat), .int .u64 (dgl (b) 3 : Nat), .int .u64 (dgl (b) 4 : Nat), .int .u64 (dgl (b) 5 : Nat), .int .u64 (dgl (b) 6 : Nat), .int .u64 (dgl (b) 7 : Nat)], .int .i64 2, .int .i64 0]) ∧ Below w.heap.size w w')) (w : World) :
    Calls Try.prog 27 #[] w fun e w' => e = .returned (.bool true) ∧ Below w.heap.size w w' := by
  go_enter Try.func27, Try.ntmps27
  go_wp2_with fail
  refine (HD.out _).mono ?_
  rintro e w1 ⟨rfl, hb1⟩
  go_upto_region 2 with fail
  refine wp_gen (fun W => R2St w1.heap.size (w1.heap.size + 1) a b w W) (r2_put w w1 a b hb1 _ _) ?_
  clear hb1 HD
  rintro W2 h2
  have hl1 := h2.lx.1
  have hl2 := h2.ly.1
  have HB := hide h2.bel
  clear h2
  go_wp2
  go_ret
  exact ⟨rfl, HB.out⟩
theorem awake18_any (w : World) : Calls Try.prog 27 #[] w fun e w' => e = .returned (.bool true) ∧ Below w.heap.size w w' := by
  have hq : 18446744073709551616 < QQ := by decide +kernel
  refine awake18_walk 14 2 (fun w => ?_) (fun w => ?_) (fun w => ?_) w
  · have := wide_lit 14 14 (by omega) (by decide) w
    rw [decide_eq_true rfl] at this
    exact this
  · have := wide_lit 2 2 (by omega) (by decide) w
    rw [decide_eq_true rfl] at this
    exact this
  · have h := fquot_ok 100 7 12 5 (by decide) (by omega) (by omega) (by decide +kernel) (by decide +kernel) (by decide +kernel) w
    rw [w8_small 100 (by decide), w8_small 7 (by decide), w8_small 12 (by decide)] at h
    exact h
end Go.Proofs.Yteocibahclpegaa

/- Contracts: numbers of fix's laws. -/
set_option linter.unusedVariables false
set_option linter.unusedSimpArgs false
set_option maxRecDepth 8000
namespace Go.Proofs.Yteocibahclpegaa
open Go.RowKit Plain

theorem fmN_a {m c : Int} {G : Nat} (h : m < 0) : fmN m c G = 1 := by unfold fmN; rw [if_pos (.inl h)]
theorem fmN_A {m c : Int} {G : Nat} (h : 100 < m) : fmN m c G = 1 := by unfold fmN; rw [if_pos (.inr h)]
theorem fmN_b {m c : Int} {G : Nat} (h0 : ¬ m < 0) (h1 : ¬ 100 < m) (hc : c ≠ 0) : fmN m c G = c := by unfold fmN; rw [if_neg (by omega), if_pos hc]
theorem fmN_c {m c : Int} {G : Nat} (h0 : ¬ m < 0) (h1 : ¬ 100 < m) (hc : c = 0) (hL : 200 < Go.bitLen G) : fmN m c G = 4 := by unfold fmN; rw [if_neg (by omega), if_neg (by omega), if_pos hL]
theorem bnN_lt {a : Nat} {b : Int} (ha : a < 2 ^ 128) (hb : b < 128) : bnN a b < QQ := by
  have h1 : (2 : Nat) ^ 128 + 128 < QQ := by decide +kernel
  unfold bnN
  split
  · omega
  · split <;> omega
end Go.Proofs.Yteocibahclpegaa

