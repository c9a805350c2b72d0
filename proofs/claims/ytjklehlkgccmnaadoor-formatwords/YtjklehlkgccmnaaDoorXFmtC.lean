/- Contracts and laws: FmtC. -/
import Derived.Test.YtjklehlkgccmnaaDoorXFmtB
import Derived.Test.YtjklehlkgccmnaaDoorBaseK
import Derived.Test.YtjklehlkgccmnaaDoorBaseM
import Derived.Test.YtjklehlkgccmnaaDoorBaseQ
/- Contracts: the closures that tell a format's field and fraction. -/
set_option linter.unusedVariables false
set_option linter.unusedSimpArgs false
set_option maxRecDepth 8000
namespace Go.Proofs.YtjklehlkgccmnaaDoor
open Go.RowKit Plain

/-- What such a closure goes by: the format's record, and two results. -/
structure CloSt (B : Nat) (w : World) (k : Nat → Int) (W : World) : Prop where
  rk : ∀ i, i < 5 → W.cell? ⟨B, i, none⟩ = some (.int .i64 (k i))
  l1 : LiesF W (B + 1) (fun _ => 0)
  l2 : LiesF W (B + 1 + 1) (fun _ => 0)
  f1 : ∀ i, W.frozen? ⟨B + 1, i, none⟩ = false
  f2 : ∀ i, W.frozen? ⟨B + 1 + 1, i, none⟩ = false
  bel : Below B w W
theorem CloSt.below {B : Nat} {w : World} {k : Nat → Int} {W W' : World} (h : CloSt B w k W) (hb : Below W.heap.size W W') : CloSt B w k W' :=
  have hl := h.l1.2
  ⟨fun i hi => (hb.cell (p := ⟨B, i, none⟩) (show B < _ by omega)).trans (h.rk i hi), h.l1.below hb, h.l2.below hb, fun i => (hb.frozen (p := ⟨B + 1, i, none⟩) h.l1.2).trans (h.f1 i),
    fun i => (hb.frozen (p := ⟨B + 1 + 1, i, none⟩) h.l2.2).trans (h.f2 i), h.bel.trans (hb.mono (by omega))⟩
theorem rec5_new (w : World) (k : Nat → Int) (e : TypeId) (i : Nat) (hi : i < 5) : (w.alloc (.cells #[.int .i64 (k 0), .int .i64 (k 1), .int .i64 (k 2), .int .i64 (k 3), .int .i64 (k 4)] e)).cell? ⟨w.heap.size, i, none⟩ = some (.int .i64 (k i)) := by
  match i, hi with
  | 0, _ | 1, _ | 2, _ | 3, _ | 4, _ => simp [go_sem]
theorem cloSt_start (k : Nat → Int) (w : World) : CloSt w.heap.size w k (((w.alloc (.cells #[.int .i64 (k 0), .int .i64 (k 1), .int .i64 (k 2), .int .i64 (k 3), .int .i64 (k 4)] 23)).alloc (.cells #[.int .u64 0, .int .u64 0, .int .u64 0, .int .u64 0, .int .u64 0, .int .u64 0, .int .u64 0, .int .u64 0] 43)).alloc (.cells #[.int .u64 0, .int .u64 0, .int .u64 0, .int .u64 0, .int .u64 0, .int .u64 0, .int .u64 0, .int .u64 0] 43)) := by
  have hl1 := liesF_new (w.alloc (.cells #[.int .i64 (k 0), .int .i64 (k 1), .int .i64 (k 2), .int .i64 (k 3), .int .i64 (k 4)] 23)) (fun _ => 0) 43
  have hl2 := liesF_new ((w.alloc (.cells #[.int .i64 (k 0), .int .i64 (k 1), .int .i64 (k 2), .int .i64 (k 3), .int .i64 (k 4)] 23)).alloc (.cells #[.int .u64 0, .int .u64 0, .int .u64 0, .int .u64 0, .int .u64 0, .int .u64 0, .int .u64 0, .int .u64 0] 43)) (fun _ => 0) 43
  have hb1 := below_allocs (w.alloc (.cells #[.int .i64 (k 0), .int .i64 (k 1), .int .i64 (k 2), .int .i64 (k 3), .int .i64 (k 4)] 23)) (.cells #[.int .u64 0, .int .u64 0, .int .u64 0, .int .u64 0, .int .u64 0, .int .u64 0, .int .u64 0, .int .u64 0] 43)
  have hb2 := below_allocs ((w.alloc (.cells #[.int .i64 (k 0), .int .i64 (k 1), .int .i64 (k 2), .int .i64 (k 3), .int .i64 (k 4)] 23)).alloc (.cells #[.int .u64 0, .int .u64 0, .int .u64 0, .int .u64 0, .int .u64 0, .int .u64 0, .int .u64 0, .int .u64 0] 43)) (.cells #[.int .u64 0, .int .u64 0, .int .u64 0, .int .u64 0, .int .u64 0, .int .u64 0, .int .u64 0, .int .u64 0] 43)
  have hb3 := below_trans hb1 hb2
  rw [World.size_alloc] at hl1
  rw [World.size_alloc, World.size_alloc] at hl2
  rw [World.size_alloc] at hb3
  exact ⟨fun i hi => (hb3.cell (p := ⟨w.heap.size, i, none⟩) (show w.heap.size < w.heap.size + 1 by omega)).trans (rec5_new w k _ i hi), hl1.alloc _, hl2, fun i => by simp [go_sem], fun i => by simp [go_sem],
    below_trans (below_allocs w _) (below_trans (below_allocs _ _) (below_allocs _ _))⟩

theorem wideOf_nil (w : World) : Calls Tryd.prog 58 #[.slice none 0 0] w fun e w' => e = .returned (.agg #[.int .u64 (dgl (0) 0 : Nat), .int .u64 (dgl (0) 1 : Nat), .int .u64 (dgl (0) 2 : Nat), .int .u64 (dgl (0) 3 : Nat), .int .u64 (dgl (0) 4 : Nat), .int .u64 (dgl (0) 5 : Nat), .int .u64 (dgl (0) 6 : Nat), .int .u64 (dgl (0) 7 : Nat)]) ∧ Below w.heap.size w w' := by
  refine wideOf_any [] 0 _ w (Rd.nil mk64 w) (fun i hi => ?_)
  rw [dgl_zero]
  rfl
theorem wideOf_n (x : Nat) (hx : x < 18446744073709551616) (w : World) (b : Nat) (hb : b = w.heap.size) :
    Calls Tryd.prog 58 #[.slice (some ⟨b, 0, none⟩) 1 1] (w.alloc (.cells #[.int .u64 (x : Nat)] 33)) fun e w' => e = .returned (.agg #[.int .u64 (dgl (x) 0 : Nat), .int .u64 (dgl (x) 1 : Nat), .int .u64 (dgl (x) 2 : Nat), .int .u64 (dgl (x) 3 : Nat), .int .u64 (dgl (x) 4 : Nat), .int .u64 (dgl (x) 5 : Nat), .int .u64 (dgl (x) 6 : Nat), .int .u64 (dgl (x) 7 : Nat)]) ∧ Below w.heap.size w w' := by
  subst hb
  have hr := Rd.lit (mk := mk64) w 33 [.int .u64 (x : Nat)] [x] rfl 1 (Nat.le_refl 1) (by decide)
  refine (wideOf_any [x] x _ _ hr (fun i hi => (dig_one (β := 18446744073709551616) hx).2 i)).mono ?_
  rintro e w' ⟨rfl, hb⟩
  exact ⟨rfl, below_trans (below_allocs w _) hb⟩

set_option maxHeartbeats 1000000 in
theorem inf1_any (k : Nat → Int) (a : Nat) (HM : Hid (∀ w, Calls Tryd.prog 57 #[.int .i64 (k 4)] w fun e w' => e = .returned (.agg #[.int .u64 (dgl (a) 0 : Nat), .int .u64 (dgl (a) 1 : Nat), .int .u64 (dgl (a) 2 : Nat), .int .u64 (dgl (a) 3 : Nat), .int .u64 (dgl (a) 4 : Nat), .int .u64 (dgl (a) 5 : Nat), .int .u64 (dgl (a) 6 : Nat), .int .u64 (dgl (a) 7 : Nat)]) ∧ Below w.heap.size w w')) (w : World) :
    Calls Tryd.prog 56 #[.agg #[.int .i64 (k 0), .int .i64 (k 1), .int .i64 (k 2), .int .i64 (k 3), .int .i64 (k 4)]] w fun e w' => e = .returned (.tuple #[.agg #[.int .u64 (dgl (a) 0 : Nat), .int .u64 (dgl (a) 1 : Nat), .int .u64 (dgl (a) 2 : Nat), .int .u64 (dgl (a) 3 : Nat), .int .u64 (dgl (a) 4 : Nat), .int .u64 (dgl (a) 5 : Nat), .int .u64 (dgl (a) 6 : Nat), .int .u64 (dgl (a) 7 : Nat)], .agg #[.int .u64 (dgl (0) 0 : Nat), .int .u64 (dgl (0) 1 : Nat), .int .u64 (dgl (0) 2 : Nat), .int .u64 (dgl (0) 3 : Nat), .int .u64 (dgl (0) 4 : Nat), .int .u64 (dgl (0) 5 : Nat), .int .u64 (dgl (0) 6 : Nat), .int .u64 (dgl (0) 7 : Nat)]]) ∧ Below w.heap.size w w' := by
  have HST := hide (cloSt_start k w)
  go_enter Tryd.func56, Tryd.ntmps56
  go_wp2_with fail
  refine (HM.out _).mono ?_
  rintro e w1 ⟨rfl, hb1⟩
  replace HST := hide (HST.out.below hb1)
  clear hb1
  go_wp2_with fail
  refine (wideOf_nil _).mono ?_
  rintro e w2 ⟨rfl, hb2⟩
  replace HST := hide (HST.out.below hb2)
  clear hb2
  have h1 := HST.out.l1.1
  have h2 := HST.out.l2.1
  have f1 := HST.out.f1
  have f2 := HST.out.f2
  have q1 := HST.out.l1.2
  have q2 := HST.out.l2.2
  have HB := hide HST.out.bel
  clear HST
  go_wp2
  exact bodyPost_ret (v := .tuple #[.agg #[.int .u64 (dgl (a) 0 : Nat), .int .u64 (dgl (a) 1 : Nat), .int .u64 (dgl (a) 2 : Nat), .int .u64 (dgl (a) 3 : Nat), .int .u64 (dgl (a) 4 : Nat), .int .u64 (dgl (a) 5 : Nat), .int .u64 (dgl (a) 6 : Nat), .int .u64 (dgl (a) 7 : Nat)], .agg #[.int .u64 (dgl (0) 0 : Nat), .int .u64 (dgl (0) 1 : Nat), .int .u64 (dgl (0) 2 : Nat), .int .u64 (dgl (0) 3 : Nat), .int .u64 (dgl (0) 4 : Nat), .int .u64 (dgl (0) 5 : Nat), .int .u64 (dgl (0) 6 : Nat), .int .u64 (dgl (0) 7 : Nat)]]) (by simp [results, Tryd.results56, go_sem, h1, h2, q1, q2]) rfl ⟨rfl, below_set8 (below_set8 HB.out _ (by omega) _ _ _ _ _ _ _ _) _ (by omega) _ _ _ _ _ _ _ _⟩

set_option maxHeartbeats 1000000 in
theorem nought1_any (k : Nat → Int)  (w : World) :
    Calls Tryd.prog 65 #[.agg #[.int .i64 (k 0), .int .i64 (k 1), .int .i64 (k 2), .int .i64 (k 3), .int .i64 (k 4)]] w fun e w' => e = .returned (.tuple #[.agg #[.int .u64 (dgl (0) 0 : Nat), .int .u64 (dgl (0) 1 : Nat), .int .u64 (dgl (0) 2 : Nat), .int .u64 (dgl (0) 3 : Nat), .int .u64 (dgl (0) 4 : Nat), .int .u64 (dgl (0) 5 : Nat), .int .u64 (dgl (0) 6 : Nat), .int .u64 (dgl (0) 7 : Nat)], .agg #[.int .u64 (dgl (0) 0 : Nat), .int .u64 (dgl (0) 1 : Nat), .int .u64 (dgl (0) 2 : Nat), .int .u64 (dgl (0) 3 : Nat), .int .u64 (dgl (0) 4 : Nat), .int .u64 (dgl (0) 5 : Nat), .int .u64 (dgl (0) 6 : Nat), .int .u64 (dgl (0) 7 : Nat)]]) ∧ Below w.heap.size w w' := by
  have HST := hide (cloSt_start k w)
  go_enter Tryd.func65, Tryd.ntmps65
  go_wp2_with fail
  refine (wideOf_nil _).mono ?_
  rintro e w1 ⟨rfl, hb1⟩
  replace HST := hide (HST.out.below hb1)
  clear hb1
  go_wp2_with fail
  refine (wideOf_nil _).mono ?_
  rintro e w2 ⟨rfl, hb2⟩
  replace HST := hide (HST.out.below hb2)
  clear hb2
  have h1 := HST.out.l1.1
  have h2 := HST.out.l2.1
  have f1 := HST.out.f1
  have f2 := HST.out.f2
  have q1 := HST.out.l1.2
  have q2 := HST.out.l2.2
  have HB := hide HST.out.bel
  clear HST
  go_wp2
  exact bodyPost_ret (v := .tuple #[.agg #[.int .u64 (dgl (0) 0 : Nat), .int .u64 (dgl (0) 1 : Nat), .int .u64 (dgl (0) 2 : Nat), .int .u64 (dgl (0) 3 : Nat), .int .u64 (dgl (0) 4 : Nat), .int .u64 (dgl (0) 5 : Nat), .int .u64 (dgl (0) 6 : Nat), .int .u64 (dgl (0) 7 : Nat)], .agg #[.int .u64 (dgl (0) 0 : Nat), .int .u64 (dgl (0) 1 : Nat), .int .u64 (dgl (0) 2 : Nat), .int .u64 (dgl (0) 3 : Nat), .int .u64 (dgl (0) 4 : Nat), .int .u64 (dgl (0) 5 : Nat), .int .u64 (dgl (0) 6 : Nat), .int .u64 (dgl (0) 7 : Nat)]]) (by simp [results, Tryd.results65, go_sem, h1, h2, q1, q2]) rfl ⟨rfl, below_set8 (below_set8 HB.out _ (by omega) _ _ _ _ _ _ _ _) _ (by omega) _ _ _ _ _ _ _ _⟩

set_option maxHeartbeats 1000000 in
theorem least1_any (k : Nat → Int)  (w : World) :
    Calls Tryd.prog 63 #[.agg #[.int .i64 (k 0), .int .i64 (k 1), .int .i64 (k 2), .int .i64 (k 3), .int .i64 (k 4)]] w fun e w' => e = .returned (.tuple #[.agg #[.int .u64 (dgl (0) 0 : Nat), .int .u64 (dgl (0) 1 : Nat), .int .u64 (dgl (0) 2 : Nat), .int .u64 (dgl (0) 3 : Nat), .int .u64 (dgl (0) 4 : Nat), .int .u64 (dgl (0) 5 : Nat), .int .u64 (dgl (0) 6 : Nat), .int .u64 (dgl (0) 7 : Nat)], .agg #[.int .u64 (dgl (1) 0 : Nat), .int .u64 (dgl (1) 1 : Nat), .int .u64 (dgl (1) 2 : Nat), .int .u64 (dgl (1) 3 : Nat), .int .u64 (dgl (1) 4 : Nat), .int .u64 (dgl (1) 5 : Nat), .int .u64 (dgl (1) 6 : Nat), .int .u64 (dgl (1) 7 : Nat)]]) ∧ Below w.heap.size w w' := by
  have HST := hide (cloSt_start k w)
  go_enter Tryd.func63, Tryd.ntmps63
  go_wp2_with fail
  refine (wideOf_nil _).mono ?_
  rintro e w1 ⟨rfl, hb1⟩
  replace HST := hide (HST.out.below hb1)
  clear hb1
  go_wp2_with fail
  refine (wideOf_one _ _ (by simp)).mono ?_
  rintro e w2 ⟨rfl, hb2⟩
  replace HST := hide (HST.out.below hb2)
  clear hb2
  have h1 := HST.out.l1.1
  have h2 := HST.out.l2.1
  have f1 := HST.out.f1
  have f2 := HST.out.f2
  have q1 := HST.out.l1.2
  have q2 := HST.out.l2.2
  have HB := hide HST.out.bel
  clear HST
  go_wp2
  exact bodyPost_ret (v := .tuple #[.agg #[.int .u64 (dgl (0) 0 : Nat), .int .u64 (dgl (0) 1 : Nat), .int .u64 (dgl (0) 2 : Nat), .int .u64 (dgl (0) 3 : Nat), .int .u64 (dgl (0) 4 : Nat), .int .u64 (dgl (0) 5 : Nat), .int .u64 (dgl (0) 6 : Nat), .int .u64 (dgl (0) 7 : Nat)], .agg #[.int .u64 (dgl (1) 0 : Nat), .int .u64 (dgl (1) 1 : Nat), .int .u64 (dgl (1) 2 : Nat), .int .u64 (dgl (1) 3 : Nat), .int .u64 (dgl (1) 4 : Nat), .int .u64 (dgl (1) 5 : Nat), .int .u64 (dgl (1) 6 : Nat), .int .u64 (dgl (1) 7 : Nat)]]) (by simp [results, Tryd.results63, go_sem, h1, h2, q1, q2]) rfl ⟨rfl, below_set8 (below_set8 HB.out _ (by omega) _ _ _ _ _ _ _ _) _ (by omega) _ _ _ _ _ _ _ _⟩

set_option maxHeartbeats 1000000 in
theorem one1_any (k : Nat → Int) (x : Nat) (hx : x < 18446744073709551616) (hw : IntKind.u64.wrap (k 2) = (x : Int)) (w : World) :
    Calls Tryd.prog 64 #[.agg #[.int .i64 (k 0), .int .i64 (k 1), .int .i64 (k 2), .int .i64 (k 3), .int .i64 (k 4)]] w fun e w' => e = .returned (.tuple #[.agg #[.int .u64 (dgl (x) 0 : Nat), .int .u64 (dgl (x) 1 : Nat), .int .u64 (dgl (x) 2 : Nat), .int .u64 (dgl (x) 3 : Nat), .int .u64 (dgl (x) 4 : Nat), .int .u64 (dgl (x) 5 : Nat), .int .u64 (dgl (x) 6 : Nat), .int .u64 (dgl (x) 7 : Nat)], .agg #[.int .u64 (dgl (0) 0 : Nat), .int .u64 (dgl (0) 1 : Nat), .int .u64 (dgl (0) 2 : Nat), .int .u64 (dgl (0) 3 : Nat), .int .u64 (dgl (0) 4 : Nat), .int .u64 (dgl (0) 5 : Nat), .int .u64 (dgl (0) 6 : Nat), .int .u64 (dgl (0) 7 : Nat)]]) ∧ Below w.heap.size w w' := by
  have HST := hide (cloSt_start k w)
  go_enter Tryd.func64, Tryd.ntmps64
  have HX := hide hx
  clear hx
  go_wp2_with fail
  refine (wideOf_n x HX.out _ _ (by simp)).mono ?_
  rintro e w1 ⟨rfl, hb1⟩
  replace HST := hide (HST.out.below hb1)
  clear hb1
  go_wp2_with fail
  refine (wideOf_nil _).mono ?_
  rintro e w2 ⟨rfl, hb2⟩
  replace HST := hide (HST.out.below hb2)
  clear hb2
  have h1 := HST.out.l1.1
  have h2 := HST.out.l2.1
  have f1 := HST.out.f1
  have f2 := HST.out.f2
  have q1 := HST.out.l1.2
  have q2 := HST.out.l2.2
  have HB := hide HST.out.bel
  clear HST
  go_wp2
  exact bodyPost_ret (v := .tuple #[.agg #[.int .u64 (dgl (x) 0 : Nat), .int .u64 (dgl (x) 1 : Nat), .int .u64 (dgl (x) 2 : Nat), .int .u64 (dgl (x) 3 : Nat), .int .u64 (dgl (x) 4 : Nat), .int .u64 (dgl (x) 5 : Nat), .int .u64 (dgl (x) 6 : Nat), .int .u64 (dgl (x) 7 : Nat)], .agg #[.int .u64 (dgl (0) 0 : Nat), .int .u64 (dgl (0) 1 : Nat), .int .u64 (dgl (0) 2 : Nat), .int .u64 (dgl (0) 3 : Nat), .int .u64 (dgl (0) 4 : Nat), .int .u64 (dgl (0) 5 : Nat), .int .u64 (dgl (0) 6 : Nat), .int .u64 (dgl (0) 7 : Nat)]]) (by simp [results, Tryd.results64, go_sem, h1, h2, q1, q2]) rfl ⟨rfl, below_set8 (below_set8 HB.out _ (by omega) _ _ _ _ _ _ _ _) _ (by omega) _ _ _ _ _ _ _ _⟩

set_option maxHeartbeats 1000000 in
theorem nan1_any (k : Nat → Int) (a b : Nat) (HM : Hid (∀ w, Calls Tryd.prog 57 #[.int .i64 (k 4)] w fun e w' => e = .returned (.agg #[.int .u64 (dgl (a) 0 : Nat), .int .u64 (dgl (a) 1 : Nat), .int .u64 (dgl (a) 2 : Nat), .int .u64 (dgl (a) 3 : Nat), .int .u64 (dgl (a) 4 : Nat), .int .u64 (dgl (a) 5 : Nat), .int .u64 (dgl (a) 6 : Nat), .int .u64 (dgl (a) 7 : Nat)]) ∧ Below w.heap.size w w')) (HP : Hid (∀ w, Calls Tryd.prog 60 #[.int .i64 (k 1 - 2)] w fun e w' => e = .returned (.agg #[.int .u64 (dgl (b) 0 : Nat), .int .u64 (dgl (b) 1 : Nat), .int .u64 (dgl (b) 2 : Nat), .int .u64 (dgl (b) 3 : Nat), .int .u64 (dgl (b) 4 : Nat), .int .u64 (dgl (b) 5 : Nat), .int .u64 (dgl (b) 6 : Nat), .int .u64 (dgl (b) 7 : Nat)]) ∧ Below w.heap.size w w')) (hw : IntKind.i64.wrap (k 1 - 2) = k 1 - 2) (w : World) :
    Calls Tryd.prog 59 #[.agg #[.int .i64 (k 0), .int .i64 (k 1), .int .i64 (k 2), .int .i64 (k 3), .int .i64 (k 4)]] w fun e w' => e = .returned (.tuple #[.agg #[.int .u64 (dgl (a) 0 : Nat), .int .u64 (dgl (a) 1 : Nat), .int .u64 (dgl (a) 2 : Nat), .int .u64 (dgl (a) 3 : Nat), .int .u64 (dgl (a) 4 : Nat), .int .u64 (dgl (a) 5 : Nat), .int .u64 (dgl (a) 6 : Nat), .int .u64 (dgl (a) 7 : Nat)], .agg #[.int .u64 (dgl (b) 0 : Nat), .int .u64 (dgl (b) 1 : Nat), .int .u64 (dgl (b) 2 : Nat), .int .u64 (dgl (b) 3 : Nat), .int .u64 (dgl (b) 4 : Nat), .int .u64 (dgl (b) 5 : Nat), .int .u64 (dgl (b) 6 : Nat), .int .u64 (dgl (b) 7 : Nat)]]) ∧ Below w.heap.size w w' := by
  have HST := hide (cloSt_start k w)
  go_enter Tryd.func59, Tryd.ntmps59
  go_upto_region 1 with fail
  refine wp_gen (fun W => CloSt w.heap.size w k W) HST.out ?_
  rintro W1 h1
  clear HST
  refine wp_region_grow 7 [(4, .val (.pointer (some ⟨w.heap.size, 4, none⟩))), (5, .val (.int .i64 (k 4))), (6, .val (.agg #[.int .u64 (dgl (a) 0 : Nat), .int .u64 (dgl (a) 1 : Nat), .int .u64 (dgl (a) 2 : Nat), .int .u64 (dgl (a) 3 : Nat), .int .u64 (dgl (a) 4 : Nat), .int .u64 (dgl (a) 5 : Nat), .int .u64 (dgl (a) 6 : Nat), .int .u64 (dgl (a) 7 : Nat)])), (7, .val (.pointer (some ⟨w.heap.size, 1, none⟩))), (8, .val (.int .i64 (k 1))), (9, .val (.int .i64 (k 1 - 2))), (10, .val (.agg #[.int .u64 (dgl (b) 0 : Nat), .int .u64 (dgl (b) 1 : Nat), .int .u64 (dgl (b) 2 : Nat), .int .u64 (dgl (b) 3 : Nat), .int .u64 (dgl (b) 4 : Nat), .int .u64 (dgl (b) 5 : Nat), .int .u64 (dgl (b) 6 : Nat), .int .u64 (dgl (b) 7 : Nat)]))]
    (fun W => CloSt w.heap.size w k W) mixedOk (by kernel_rfl) (by kernel_rfl) (h1.below (Below.refl _ _).drew) (fun W W' h hb => h.below hb) ?_ ?_
  · refine gSt (gStep_run rfl ?_) ?_
    · intro ρ W hC hc hf hL
      have e1 : ρ (.tmp 1) = .pointer (some ⟨w.heap.size, 0, none⟩) := hL 1 (by decide +kernel)
      simp [go_sem, hc, hf, e1]
      exact ⟨Below.refl _ _, rfl⟩
    refine gSt (gStep_run rfl ?_) ?_
    · intro ρ W hC hc hf hL
      have e4 : ρ (.tmp 4) = .pointer (some ⟨w.heap.size, 4, none⟩) := hL 4 (by decide +kernel)
      have hl := hC.rk 4 (by decide)
      simp [go_sem, hc, hf, e4, hl]
      exact ⟨Below.refl _ _, rfl⟩
    refine gSt (gStep_run rfl ?_) ?_
    · intro ρ W hC hc hf hL
      have e5 : ρ (.tmp 5) = .int .i64 (k 4) := hL 5 (by decide +kernel)
      simp [go_sem, hc, hf, e5]
      refine (HM.out W).mono ?_
      rintro e w' ⟨rfl, hb⟩
      exact ⟨_, rfl, by first | exact hb | (subst hb; exact Below.refl _ _), rfl⟩
    refine gSt (gStep_run rfl ?_) ?_
    · intro ρ W hC hc hf hL
      have e1 : ρ (.tmp 1) = .pointer (some ⟨w.heap.size, 0, none⟩) := hL 1 (by decide +kernel)
      simp [go_sem, hc, hf, e1]
      exact ⟨Below.refl _ _, rfl⟩
    refine gSt (gStep_run rfl ?_) ?_
    · intro ρ W hC hc hf hL
      have e7 : ρ (.tmp 7) = .pointer (some ⟨w.heap.size, 1, none⟩) := hL 7 (by decide +kernel)
      have hl := hC.rk 1 (by decide)
      simp [go_sem, hc, hf, e7, hl]
      exact ⟨Below.refl _ _, rfl⟩
    refine gSt (gStep_run rfl ?_) ?_
    · intro ρ W hC hc hf hL
      have e8 : ρ (.tmp 8) = .int .i64 (k 1) := hL 8 (by decide +kernel)
      simp [go_sem, hc, hf, e8, hw]
      exact ⟨Below.refl _ _, rfl⟩
    refine gSt (gStep_run rfl ?_) ?_
    · intro ρ W hC hc hf hL
      have e9 : ρ (.tmp 9) = .int .i64 (k 1 - 2) := hL 9 (by decide +kernel)
      simp [go_sem, hc, hf, e9]
      refine (HP.out W).mono ?_
      rintro e w' ⟨rfl, hb⟩
      exact ⟨_, rfl, by first | exact hb | (subst hb; exact Below.refl _ _), rfl⟩
    exact gSt0
  · intro W hC
    refine gFi 4 rfl ?_
    rintro _ rfl
    refine gFi 5 rfl ?_
    rintro _ rfl
    refine gFi 6 rfl ?_
    rintro _ rfl
    refine gFi 7 rfl ?_
    rintro _ rfl
    refine gFi 8 rfl ?_
    rintro _ rfl
    refine gFi 9 rfl ?_
    rintro _ rfl
    refine gFi 10 rfl ?_
    rintro _ rfl
    refine gFi0 ?_
    simp only [List.drop_succ_cons, List.drop_zero, Act.put, List.setIfInBounds_toArray, List.set_cons_succ, List.set_cons_zero]
    have HST := hide hC
    clear hC h1
    have h1 := HST.out.l1.1
    have h2 := HST.out.l2.1
    have f1 := HST.out.f1
    have f2 := HST.out.f2
    have q1 := HST.out.l1.2
    have q2 := HST.out.l2.2
    have HB := hide HST.out.bel
    clear HST
    go_wp2
    exact bodyPost_ret (v := .tuple #[.agg #[.int .u64 (dgl (a) 0 : Nat), .int .u64 (dgl (a) 1 : Nat), .int .u64 (dgl (a) 2 : Nat), .int .u64 (dgl (a) 3 : Nat), .int .u64 (dgl (a) 4 : Nat), .int .u64 (dgl (a) 5 : Nat), .int .u64 (dgl (a) 6 : Nat), .int .u64 (dgl (a) 7 : Nat)], .agg #[.int .u64 (dgl (b) 0 : Nat), .int .u64 (dgl (b) 1 : Nat), .int .u64 (dgl (b) 2 : Nat), .int .u64 (dgl (b) 3 : Nat), .int .u64 (dgl (b) 4 : Nat), .int .u64 (dgl (b) 5 : Nat), .int .u64 (dgl (b) 6 : Nat), .int .u64 (dgl (b) 7 : Nat)]]) (by simp [results, Tryd.results59, go_sem, h1, h2, q1, q2]) rfl ⟨rfl, below_set8 (below_set8 HB.out _ (by omega) _ _ _ _ _ _ _ _) _ (by omega) _ _ _ _ _ _ _ _⟩

set_option maxHeartbeats 1000000 in
theorem max1_any (k : Nat → Int) (a c b : Nat) (HM : Hid (∀ w, Calls Tryd.prog 57 #[.int .i64 (k 4 - 1)] w fun e w' => e = .returned (.agg #[.int .u64 (dgl (a) 0 : Nat), .int .u64 (dgl (a) 1 : Nat), .int .u64 (dgl (a) 2 : Nat), .int .u64 (dgl (a) 3 : Nat), .int .u64 (dgl (a) 4 : Nat), .int .u64 (dgl (a) 5 : Nat), .int .u64 (dgl (a) 6 : Nat), .int .u64 (dgl (a) 7 : Nat)]) ∧ Below w.heap.size w w')) (HS : Hid (∀ w, Calls Tryd.prog 62 #[.agg #[.int .u64 (dgl (a) 0 : Nat), .int .u64 (dgl (a) 1 : Nat), .int .u64 (dgl (a) 2 : Nat), .int .u64 (dgl (a) 3 : Nat), .int .u64 (dgl (a) 4 : Nat), .int .u64 (dgl (a) 5 : Nat), .int .u64 (dgl (a) 6 : Nat), .int .u64 (dgl (a) 7 : Nat)], .int .i64 1] w fun e w' => e = .returned (.agg #[.int .u64 (dgl (c) 0 : Nat), .int .u64 (dgl (c) 1 : Nat), .int .u64 (dgl (c) 2 : Nat), .int .u64 (dgl (c) 3 : Nat), .int .u64 (dgl (c) 4 : Nat), .int .u64 (dgl (c) 5 : Nat), .int .u64 (dgl (c) 6 : Nat), .int .u64 (dgl (c) 7 : Nat)]) ∧ Below w.heap.size w w')) (HP : Hid (∀ w, Calls Tryd.prog 57 #[.int .i64 (k 1 - 1)] w fun e w' => e = .returned (.agg #[.int .u64 (dgl (b) 0 : Nat), .int .u64 (dgl (b) 1 : Nat), .int .u64 (dgl (b) 2 : Nat), .int .u64 (dgl (b) 3 : Nat), .int .u64 (dgl (b) 4 : Nat), .int .u64 (dgl (b) 5 : Nat), .int .u64 (dgl (b) 6 : Nat), .int .u64 (dgl (b) 7 : Nat)]) ∧ Below w.heap.size w w')) (hw4 : IntKind.i64.wrap (k 4 - 1) = k 4 - 1) (hw1 : IntKind.i64.wrap (k 1 - 1) = k 1 - 1) (w : World) :
    Calls Tryd.prog 61 #[.agg #[.int .i64 (k 0), .int .i64 (k 1), .int .i64 (k 2), .int .i64 (k 3), .int .i64 (k 4)]] w fun e w' => e = .returned (.tuple #[.agg #[.int .u64 (dgl (c) 0 : Nat), .int .u64 (dgl (c) 1 : Nat), .int .u64 (dgl (c) 2 : Nat), .int .u64 (dgl (c) 3 : Nat), .int .u64 (dgl (c) 4 : Nat), .int .u64 (dgl (c) 5 : Nat), .int .u64 (dgl (c) 6 : Nat), .int .u64 (dgl (c) 7 : Nat)], .agg #[.int .u64 (dgl (b) 0 : Nat), .int .u64 (dgl (b) 1 : Nat), .int .u64 (dgl (b) 2 : Nat), .int .u64 (dgl (b) 3 : Nat), .int .u64 (dgl (b) 4 : Nat), .int .u64 (dgl (b) 5 : Nat), .int .u64 (dgl (b) 6 : Nat), .int .u64 (dgl (b) 7 : Nat)]]) ∧ Below w.heap.size w w' := by
  have HST := hide (cloSt_start k w)
  go_enter Tryd.func61, Tryd.ntmps61
  go_upto_region 1 with fail
  refine wp_gen (fun W => CloSt w.heap.size w k W) HST.out ?_
  rintro W1 h1
  clear HST
  refine wp_region_grow 9 [(4, .val (.pointer (some ⟨w.heap.size, 4, none⟩))), (5, .val (.int .i64 (k 4))), (6, .val (.int .i64 (k 4 - 1))), (7, .val (.agg #[.int .u64 (dgl (a) 0 : Nat), .int .u64 (dgl (a) 1 : Nat), .int .u64 (dgl (a) 2 : Nat), .int .u64 (dgl (a) 3 : Nat), .int .u64 (dgl (a) 4 : Nat), .int .u64 (dgl (a) 5 : Nat), .int .u64 (dgl (a) 6 : Nat), .int .u64 (dgl (a) 7 : Nat)])), (8, .val (.agg #[.int .u64 (dgl (c) 0 : Nat), .int .u64 (dgl (c) 1 : Nat), .int .u64 (dgl (c) 2 : Nat), .int .u64 (dgl (c) 3 : Nat), .int .u64 (dgl (c) 4 : Nat), .int .u64 (dgl (c) 5 : Nat), .int .u64 (dgl (c) 6 : Nat), .int .u64 (dgl (c) 7 : Nat)])), (9, .val (.pointer (some ⟨w.heap.size, 1, none⟩))), (10, .val (.int .i64 (k 1))), (11, .val (.int .i64 (k 1 - 1))), (12, .val (.agg #[.int .u64 (dgl (b) 0 : Nat), .int .u64 (dgl (b) 1 : Nat), .int .u64 (dgl (b) 2 : Nat), .int .u64 (dgl (b) 3 : Nat), .int .u64 (dgl (b) 4 : Nat), .int .u64 (dgl (b) 5 : Nat), .int .u64 (dgl (b) 6 : Nat), .int .u64 (dgl (b) 7 : Nat)]))]
    (fun W => CloSt w.heap.size w k W) mixedOk (by kernel_rfl) (by kernel_rfl) (h1.below (Below.refl _ _).drew) (fun W W' h hb => h.below hb) ?_ ?_
  · refine gSt (gStep_run rfl ?_) ?_
    · intro ρ W hC hc hf hL
      have e1 : ρ (.tmp 1) = .pointer (some ⟨w.heap.size, 0, none⟩) := hL 1 (by decide +kernel)
      simp [go_sem, hc, hf, e1]
      exact ⟨Below.refl _ _, rfl⟩
    refine gSt (gStep_run rfl ?_) ?_
    · intro ρ W hC hc hf hL
      have e4 : ρ (.tmp 4) = .pointer (some ⟨w.heap.size, 4, none⟩) := hL 4 (by decide +kernel)
      have hl := hC.rk 4 (by decide)
      simp [go_sem, hc, hf, e4, hl]
      exact ⟨Below.refl _ _, rfl⟩
    refine gSt (gStep_run rfl ?_) ?_
    · intro ρ W hC hc hf hL
      have e5 : ρ (.tmp 5) = .int .i64 (k 4) := hL 5 (by decide +kernel)
      simp [go_sem, hc, hf, e5, hw4]
      exact ⟨Below.refl _ _, rfl⟩
    refine gSt (gStep_run rfl ?_) ?_
    · intro ρ W hC hc hf hL
      have e6 : ρ (.tmp 6) = .int .i64 (k 4 - 1) := hL 6 (by decide +kernel)
      simp [go_sem, hc, hf, e6]
      refine (HM.out W).mono ?_
      rintro e w' ⟨rfl, hb⟩
      exact ⟨_, rfl, by first | exact hb | (subst hb; exact Below.refl _ _), rfl⟩
    refine gSt (gStep_run rfl ?_) ?_
    · intro ρ W hC hc hf hL
      have e7 : ρ (.tmp 7) = .agg #[.int .u64 (dgl (a) 0 : Nat), .int .u64 (dgl (a) 1 : Nat), .int .u64 (dgl (a) 2 : Nat), .int .u64 (dgl (a) 3 : Nat), .int .u64 (dgl (a) 4 : Nat), .int .u64 (dgl (a) 5 : Nat), .int .u64 (dgl (a) 6 : Nat), .int .u64 (dgl (a) 7 : Nat)] := hL 7 (by decide +kernel)
      simp [go_sem, hc, hf, e7]
      refine (HS.out W).mono ?_
      rintro e w' ⟨rfl, hb⟩
      exact ⟨_, rfl, by first | exact hb | (subst hb; exact Below.refl _ _), rfl⟩
    refine gSt (gStep_run rfl ?_) ?_
    · intro ρ W hC hc hf hL
      have e1 : ρ (.tmp 1) = .pointer (some ⟨w.heap.size, 0, none⟩) := hL 1 (by decide +kernel)
      simp [go_sem, hc, hf, e1]
      exact ⟨Below.refl _ _, rfl⟩
    refine gSt (gStep_run rfl ?_) ?_
    · intro ρ W hC hc hf hL
      have e9 : ρ (.tmp 9) = .pointer (some ⟨w.heap.size, 1, none⟩) := hL 9 (by decide +kernel)
      have hl := hC.rk 1 (by decide)
      simp [go_sem, hc, hf, e9, hl]
      exact ⟨Below.refl _ _, rfl⟩
    refine gSt (gStep_run rfl ?_) ?_
    · intro ρ W hC hc hf hL
      have e10 : ρ (.tmp 10) = .int .i64 (k 1) := hL 10 (by decide +kernel)
      simp [go_sem, hc, hf, e10, hw1]
      exact ⟨Below.refl _ _, rfl⟩
    refine gSt (gStep_run rfl ?_) ?_
    · intro ρ W hC hc hf hL
      have e11 : ρ (.tmp 11) = .int .i64 (k 1 - 1) := hL 11 (by decide +kernel)
      simp [go_sem, hc, hf, e11]
      refine (HP.out W).mono ?_
      rintro e w' ⟨rfl, hb⟩
      exact ⟨_, rfl, by first | exact hb | (subst hb; exact Below.refl _ _), rfl⟩
    exact gSt0
  · intro W hC
    refine gFi 4 rfl ?_
    rintro _ rfl
    refine gFi 5 rfl ?_
    rintro _ rfl
    refine gFi 6 rfl ?_
    rintro _ rfl
    refine gFi 7 rfl ?_
    rintro _ rfl
    refine gFi 8 rfl ?_
    rintro _ rfl
    refine gFi 9 rfl ?_
    rintro _ rfl
    refine gFi 10 rfl ?_
    rintro _ rfl
    refine gFi 11 rfl ?_
    rintro _ rfl
    refine gFi 12 rfl ?_
    rintro _ rfl
    refine gFi0 ?_
    simp only [List.drop_succ_cons, List.drop_zero, Act.put, List.setIfInBounds_toArray, List.set_cons_succ, List.set_cons_zero]
    have HST := hide hC
    clear hC h1
    have h1 := HST.out.l1.1
    have h2 := HST.out.l2.1
    have f1 := HST.out.f1
    have f2 := HST.out.f2
    have q1 := HST.out.l1.2
    have q2 := HST.out.l2.2
    have HB := hide HST.out.bel
    clear HST
    go_wp2
    exact bodyPost_ret (v := .tuple #[.agg #[.int .u64 (dgl (c) 0 : Nat), .int .u64 (dgl (c) 1 : Nat), .int .u64 (dgl (c) 2 : Nat), .int .u64 (dgl (c) 3 : Nat), .int .u64 (dgl (c) 4 : Nat), .int .u64 (dgl (c) 5 : Nat), .int .u64 (dgl (c) 6 : Nat), .int .u64 (dgl (c) 7 : Nat)], .agg #[.int .u64 (dgl (b) 0 : Nat), .int .u64 (dgl (b) 1 : Nat), .int .u64 (dgl (b) 2 : Nat), .int .u64 (dgl (b) 3 : Nat), .int .u64 (dgl (b) 4 : Nat), .int .u64 (dgl (b) 5 : Nat), .int .u64 (dgl (b) 6 : Nat), .int .u64 (dgl (b) 7 : Nat)]]) (by simp [results, Tryd.results61, go_sem, h1, h2, q1, q2]) rfl ⟨rfl, below_set8 (below_set8 HB.out _ (by omega) _ _ _ _ _ _ _ _) _ (by omega) _ _ _ _ _ _ _ _⟩

end Go.Proofs.YtjklehlkgccmnaaDoor

