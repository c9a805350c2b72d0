/- Contracts and laws: FmtC. -/
import Derived.Test.YtidfegilddlglaaDoorXFmtB
import Derived.Test.YtidfegilddlglaaDoorBaseK
import Derived.Test.YtidfegilddlglaaDoorBaseM
import Derived.Test.YtidfegilddlglaaDoorBaseQ
/- Contracts: the closures that tell a format's field and fraction. -/
set_option linter.unusedVariables false
set_option linter.unusedSimpArgs false
set_option maxRecDepth 8000
namespace Go.Proofs.YtidfegilddlglaaDoor
open Go.RowKit Plain

/-- What such a closure goes by: the format's record, and two results. -/
structure CloSt (B : Nat) (w : World) (k : Nat → Int) (W : World) : Prop where
  rk : ∀ i, i < 5 → W.cell? ⟨B, i, none⟩ = some (.int .i64 (k i))
  l1 : LiesF W (B + 1) (fun _ => 0)
  l2 : LiesF W (B + 1 + 1) (fun _ => 0)
  f1 : ∀ i, W.frozen? ⟨B + 1, i, none⟩ = false
  f2 : ∀ i, W.frozen? ⟨B + 1 + 1, i, none⟩ = false
  bel : Below B w W
theorem CloSt.below {B : Nat} {w : World} {k : Nat → Int} {W W' : World} (h : CloSt B w k W) (hb : Below W.heap.size W W') : CloSt B w k W' :=
  have hl := h.l1.2
  ⟨fun i hi => (hb.cell (p := ⟨B, i, none⟩) (show B < _ by omega)).trans (h.rk i hi), h.l1.below hb, h.l2.below hb, fun i => (hb.frozen (p := ⟨B + 1, i, none⟩) h.l1.2).trans (h.f1 i),
    fun i => (hb.frozen (p := ⟨B + 1 + 1, i, none⟩) h.l2.2).trans (h.f2 i), h.bel.trans (hb.mono (by omega))⟩
theorem rec5_new (w : World) (k : Nat → Int) (e : TypeId) (i : Nat) (hi : i < 5) : (w.alloc (.cells #[.int .i64 (k 0), .int .i64 (k 1), .int .i64 (k 2), .int .i64 (k 3), .int .i64 (k 4)] e)).cell? ⟨w.heap.size, i, none⟩ = some (.int .i64 (k i)) := by
  match i, hi with
  | 0, _ | 1, _ | 2, _ | 3, _ | 4, _ => simp [go_sem]
theorem cloSt_start (k : Nat → Int) (w : World) : CloSt w.heap.size w k (((w.alloc (.cells #[.int .i64 (k 0), .int .i64 (k 1), .int .i64 (k 2), .int .i64 (k 3), .int .i64 (k 4)] 69)).alloc (.cells #[.int .u64 0, .int .u64 0, .int .u64 0, .int .u64 0, .int .u64 0, .int .u64 0, .int .u64 0, .int .u64 0] 28)).alloc (.cells #[.int .u64 0, .int .u64 0, .int .u64 0, .int .u64 0, .int .u64 0, .int .u64 0, .int .u64 0, .int .u64 0] 28)) := by
  have hl1 := liesF_new (w.alloc (.cells #[.int .i64 (k 0), .int .i64 (k 1), .int .i64 (k 2), .int .i64 (k 3), .int .i64 (k 4)] 69)) (fun _ => 0) 28
  have hl2 := liesF_new ((w.alloc (.cells #[.int .i64 (k 0), .int .i64 (k 1), .int .i64 (k 2), .int .i64 (k 3), .int .i64 (k 4)] 69)).alloc (.cells #[.int .u64 0, .int .u64 0, .int .u64 0, .int .u64 0, .int .u64 0, .int .u64 0, .int .u64 0, .int .u64 0] 28)) (fun _ => 0) 28
  have hb1 := below_allocs (w.alloc (.cells #[.int .i64 (k 0), .int .i64 (k 1), .int .i64 (k 2), .int .i64 (k 3), .int .i64 (k 4)] 69)) (.cells #[.int .u64 0, .int .u64 0, .int .u64 0, .int .u64 0, .int .u64 0, .int .u64 0, .int .u64 0, .int .u64 0] 28)
  have hb2 := below_allocs ((w.alloc (.cells #[.int .i64 (k 0), .int .i64 (k 1), .int .i64 (k 2), .int .i64 (k 3), .int .i64 (k 4)] 69)).alloc (.cells #[.int .u64 0, .int .u64 0, .int .u64 0, .int .u64 0, .int .u64 0, .int .u64 0, .int .u64 0, .int .u64 0] 28)) (.cells #[.int .u64 0, .int .u64 0, .int .u64 0, .int .u64 0, .int .u64 0, .int .u64 0, .int .u64 0, .int .u64 0] 28)
  have hb3 := below_trans hb1 hb2
  rw [World.size_alloc] at hl1
  rw [World.size_alloc, World.size_alloc] at hl2
  rw [World.size_alloc] at hb3
  exact ⟨fun i hi => (hb3.cell (p := ⟨w.heap.size, i, none⟩) (show w.heap.size < w.heap.size + 1 by omega)).trans (rec5_new w k _ i hi), hl1.alloc _, hl2, fun i => by simp [go_sem], fun i => by simp [go_sem],
    below_trans (below_allocs w _) (below_trans (below_allocs _ _) (below_allocs _ _))⟩

theorem wideOf_nil (w : World) : Calls Tryd.prog 70 #[.slice none 0 0] w fun e w' => e = .returned (.agg #[.int .u64 (dgl (0) 0 : Nat), .int .u64 (dgl (0) 1 : Nat), .int .u64 (dgl (0) 2 : Nat), .int .u64 (dgl (0) 3 : Nat), .int .u64 (dgl (0) 4 : Nat), .int .u64 (dgl (0) 5 : Nat), .int .u64 (dgl (0) 6 : Nat), .int .u64 (dgl (0) 7 : Nat)]) ∧ Below w.heap.size w w' := by
  refine wideOf_any [] 0 _ w (Rd.nil mk64 w) (fun i hi => ?_)
  rw [dgl_zero]
  rfl
theorem wideOf_n (x : Nat) (hx : x < 18446744073709551616) (w : World) (b : Nat) (hb : b = w.heap.size) :
    Calls Tryd.prog 70 #[.slice (some ⟨b, 0, none⟩) 1 1] (w.alloc (.cells #[.int .u64 (x : Nat)] 22)) fun e w' => e = .returned (.agg #[.int .u64 (dgl (x) 0 : Nat), .int .u64 (dgl (x) 1 : Nat), .int .u64 (dgl (x) 2 : Nat), .int .u64 (dgl (x) 3 : Nat), .int .u64 (dgl (x) 4 : Nat), .int .u64 (dgl (x) 5 : Nat), .int .u64 (dgl (x) 6 : Nat), .int .u64 (dgl (x) 7 : Nat)]) ∧ Below w.heap.size w w' := by
  subst hb
  have hr := Rd.lit (mk := mk64) w 22 [.int .u64 (x : Nat)] [x] rfl 1 (Nat.le_refl 1) (by decide)
  refine (wideOf_any [x] x _ _ hr (fun i hi => (dig_one (β := 18446744073709551616) hx).2 i)).mono ?_
  rintro e w' ⟨rfl, hb⟩
  exact ⟨rfl, below_trans (below_allocs w _) hb⟩

set_option maxHeartbeats 1000000 in
theorem nought1_any (k : Nat → Int)  (w : World) :
    Calls Tryd.prog 106 #[.agg #[.int .i64 (k 0), .int .i64 (k 1), .int .i64 (k 2), .int .i64 (k 3), .int .i64 (k 4)]] w fun e w' => e = .returned (.tuple #[.agg #[.int .u64 (dgl (0) 0 : Nat), .int .u64 (dgl (0) 1 : Nat), .int .u64 (dgl (0) 2 : Nat), .int .u64 (dgl (0) 3 : Nat), .int .u64 (dgl (0) 4 : Nat), .int .u64 (dgl (0) 5 : Nat), .int .u64 (dgl (0) 6 : Nat), .int .u64 (dgl (0) 7 : Nat)], .agg #[.int .u64 (dgl (0) 0 : Nat), .int .u64 (dgl (0) 1 : Nat), .int .u64 (dgl (0) 2 : Nat), .int .u64 (dgl (0) 3 : Nat), .int .u64 (dgl (0) 4 : Nat), .int .u64 (dgl (0) 5 : Nat), .int .u64 (dgl (0) 6 : Nat), .int .u64 (dgl (0) 7 : Nat)]]) ∧ Below w.heap.size w w' := by
  have HST := hide (cloSt_start k w)
  go_enter Tryd.func106, Tryd.ntmps106
  go_wp2_with fail
  refine (wideOf_nil _).mono ?_
  rintro e w1 ⟨rfl, hb1⟩
  replace HST := hide (HST.out.below hb1)
  clear hb1
  go_wp2_with fail
  refine (wideOf_nil _).mono ?_
  rintro e w2 ⟨rfl, hb2⟩
  replace HST := hide (HST.out.below hb2)
  clear hb2
  have h1 := HST.out.l1.1
  have h2 := HST.out.l2.1
  have f1 := HST.out.f1
  have f2 := HST.out.f2
  have q1 := HST.out.l1.2
  have q2 := HST.out.l2.2
  have HB := hide HST.out.bel
  clear HST
  go_wp2
  exact bodyPost_ret (v := .tuple #[.agg #[.int .u64 (dgl (0) 0 : Nat), .int .u64 (dgl (0) 1 : Nat), .int .u64 (dgl (0) 2 : Nat), .int .u64 (dgl (0) 3 : Nat), .int .u64 (dgl (0) 4 : Nat), .int .u64 (dgl (0) 5 : Nat), .int .u64 (dgl (0) 6 : Nat), .int .u64 (dgl (0) 7 : Nat)], .agg #[.int .u64 (dgl (0) 0 : Nat), .int .u64 (dgl (0) 1 : Nat), .int .u64 (dgl (0) 2 : Nat), .int .u64 (dgl (0) 3 : Nat), .int .u64 (dgl (0) 4 : Nat), .int .u64 (dgl (0) 5 : Nat), .int .u64 (dgl (0) 6 : Nat), .int .u64 (dgl (0) 7 : Nat)]]) (by simp [results, Tryd.results106, go_sem, h1, h2, q1, q2]) rfl ⟨rfl, below_set8 (below_set8 HB.out _ (by omega) _ _ _ _ _ _ _ _) _ (by omega) _ _ _ _ _ _ _ _⟩

end Go.Proofs.YtidfegilddlglaaDoor

