/- Contracts and laws: ClsN. -/
import Derived.Test.YtidfegilddlglaaDoorXClsM
/- Contracts: the closures of class.Fraction, Abs, Flip. -/
set_option linter.unusedVariables false
set_option linter.unusedSimpArgs false
set_option maxRecDepth 8000
namespace Go.Proofs.YtidfegilddlglaaDoor
open Go.RowKit Plain

set_option maxHeartbeats 1000000 in
theorem fracC1_any (k : Nat → Int) (ng : Bool) (fd r : Nat) (w : World) : Calls Tryd.prog 59 #[.agg #[.int .i64 (k 0), .int .i64 (k 1), .int .i64 (k 2), .int .i64 (k 3), .int .i64 (k 4)], .agg #[.bool ng, .int .i64 ((fd : Nat)), .int .u64 (dgl r 0 : Nat), .int .u64 (dgl r 1 : Nat), .int .u64 (dgl r 2 : Nat), .int .u64 (dgl r 3 : Nat), .int .u64 (dgl r 4 : Nat), .int .u64 (dgl r 5 : Nat), .int .u64 (dgl r 6 : Nat), .int .u64 (dgl r 7 : Nat)]] w fun e w' => e = .returned (.agg #[.int .u64 (dgl (r) 0 : Nat), .int .u64 (dgl (r) 1 : Nat), .int .u64 (dgl (r) 2 : Nat), .int .u64 (dgl (r) 3 : Nat), .int .u64 (dgl (r) 4 : Nat), .int .u64 (dgl (r) 5 : Nat), .int .u64 (dgl (r) 6 : Nat), .int .u64 (dgl (r) 7 : Nat)]) ∧ Below w.heap.size w w' := by
  go_enter Tryd.func59, Tryd.ntmps59
  go_wp2
  exact bodyPost_ret (v := .agg #[.int .u64 (dgl (r) 0 : Nat), .int .u64 (dgl (r) 1 : Nat), .int .u64 (dgl (r) 2 : Nat), .int .u64 (dgl (r) 3 : Nat), .int .u64 (dgl (r) 4 : Nat), .int .u64 (dgl (r) 5 : Nat), .int .u64 (dgl (r) 6 : Nat), .int .u64 (dgl (r) 7 : Nat)]) (by simp [results, Tryd.results59, go_sem]) rfl ⟨rfl, by first | exact below_trans (below_allocs _ _) (below_trans (below_allocs _ _) (below_allocs _ _)) | exact below_set8 (below_trans (below_allocs _ _) (below_trans (below_allocs _ _) (below_allocs _ _))) _ (by omega) _ _ _ _ _ _ _ _⟩

/-- What the closures of Abs and Flip go by: where f lies, and the table of formats. -/
structure CapF (q : Nat) (f : Int) (W : World) : Prop where
  g : FmtG W
  c : W.cell? ⟨q, 0, none⟩ = some (.int .i64 f)
  lt : q < W.heap.size
theorem CapF.below {q : Nat} {f : Int} {W W' : World} (h : CapF q f W) (hb : Below W.heap.size W W') : CapF q f W' :=
  ⟨h.g.below hb, (hb.cell (p := ⟨q, 0, none⟩) h.lt).trans h.c, Nat.lt_of_lt_of_le h.lt hb.size⟩
structure AbSt (q : Nat) (f : Int) (w : World) (ng : Bool) (fd r : Nat) (W : World) : Prop where
  cf : CapF q f W
  p0 : W.cell? ⟨w.heap.size + 1, 0, none⟩ = some (.bool ng)
  r0 : W.cell? ⟨w.heap.size + 1 + 1, 0, none⟩ = some (.int .u64 0)
  r1 : W.cell? ⟨w.heap.size + 1 + 1, 1, none⟩ = some (.int .u64 0)
  fz : ∀ i, W.frozen? ⟨w.heap.size + 1 + 1, i, none⟩ = false
  lt : w.heap.size + 1 + 1 < W.heap.size
  bel : Below w.heap.size w W
theorem AbSt.below {q : Nat} {f : Int} {w : World} {ng : Bool} {fd r : Nat} {W W' : World} (h : AbSt q f w ng fd r W) (hb : Below W.heap.size W W') : AbSt q f w ng fd r W' :=
  have hl := h.lt
  ⟨h.cf.below hb, (hb.cell (p := ⟨w.heap.size + 1, 0, none⟩) (show w.heap.size + 1 < W.heap.size by omega)).trans h.p0, (hb.cell (p := ⟨w.heap.size + 1 + 1, 0, none⟩) h.lt).trans h.r0, (hb.cell (p := ⟨w.heap.size + 1 + 1, 1, none⟩) h.lt).trans h.r1,
    fun i => (hb.frozen (p := ⟨w.heap.size + 1 + 1, i, none⟩) h.lt).trans (h.fz i), Nat.lt_of_lt_of_le h.lt hb.size, below_trans h.bel hb⟩
theorem abSt_start (q : Nat) (f : Int) (k : Nat → Int) (w : World) (ng : Bool) (fd r : Nat) (h : CapF q f w) : AbSt q f w ng fd r (((w.alloc (.cells #[.int .i64 (k 0), .int .i64 (k 1), .int .i64 (k 2), .int .i64 (k 3), .int .i64 (k 4)] 69)).alloc (.cells #[.bool ng, .int .i64 ((fd : Nat)), .int .u64 (dgl r 0 : Nat), .int .u64 (dgl r 1 : Nat), .int .u64 (dgl r 2 : Nat), .int .u64 (dgl r 3 : Nat), .int .u64 (dgl r 4 : Nat), .int .u64 (dgl r 5 : Nat), .int .u64 (dgl r 6 : Nat), .int .u64 (dgl r 7 : Nat)] 71)).alloc (.cells #[.int .u64 0, .int .u64 0] 24)) :=
  ⟨h.below (below_trans (below_allocs _ _) (below_trans (below_allocs _ _) (below_allocs _ _))), by simp [go_sem], by simp [go_sem], by simp [go_sem], fun i => by simp [go_sem], by simp, below_trans (below_allocs _ _) (below_trans (below_allocs _ _) (below_allocs _ _))⟩

set_option maxHeartbeats 1000000 in
theorem absC1_any (q : Nat) (f : Int) (k : Nat → Int) (ng : Bool) (fd r x y : Nat)
    (HSG : Hid (∀ w, FmtG w → Calls Tryd.prog 62 #[.int .i64 f, .bool false, .agg #[.bool ng, .int .i64 ((fd : Nat)), .int .u64 (dgl r 0 : Nat), .int .u64 (dgl r 1 : Nat), .int .u64 (dgl r 2 : Nat), .int .u64 (dgl r 3 : Nat), .int .u64 (dgl r 4 : Nat), .int .u64 (dgl r 5 : Nat), .int .u64 (dgl r 6 : Nat), .int .u64 (dgl r 7 : Nat)]] w fun e w' => e = .returned (.agg #[.int .u64 (x : Nat), .int .u64 (y : Nat)]) ∧ Below w.heap.size w w')) (w : World) (hc : CapF q f w) :
    Calls Tryd.prog 61 #[.agg #[.int .i64 (k 0), .int .i64 (k 1), .int .i64 (k 2), .int .i64 (k 3), .int .i64 (k 4)], .agg #[.bool ng, .int .i64 ((fd : Nat)), .int .u64 (dgl r 0 : Nat), .int .u64 (dgl r 1 : Nat), .int .u64 (dgl r 2 : Nat), .int .u64 (dgl r 3 : Nat), .int .u64 (dgl r 4 : Nat), .int .u64 (dgl r 5 : Nat), .int .u64 (dgl r 6 : Nat), .int .u64 (dgl r 7 : Nat)], .pointer (some ⟨q, 0, none⟩)] w fun e w' => e = .returned (.agg #[.int .u64 (x : Nat), .int .u64 (y : Nat)]) ∧ Below w.heap.size w w' := by
  have HST := hide (abSt_start q f k w ng fd r hc)
  have hcc := HST.out.cf.c
  have hcl := HST.out.cf.lt
  have hq := hc.lt
  clear hc
  go_enter Tryd.func61, Tryd.ntmps61
  go_wp2_with fail
  refine (HSG.out _ HST.out.cf.g).mono ?_
  rintro e w1 ⟨rfl, hb1⟩
  replace HST := hide (HST.out.below hb1)
  clear hb1 hcc hcl hq
  have r0 := HST.out.r0
  have r1 := HST.out.r1
  have hrf := HST.out.fz
  have hlt := HST.out.lt
  have HB := hide HST.out.bel
  clear HST
  go_wp2
  exact bodyPost_ret (v := .agg #[.int .u64 (x : Nat), .int .u64 (y : Nat)]) (by simp [results, Tryd.results61, go_sem, hlt, r0, r1]) rfl ⟨rfl, (HB.out.setCell (p := ⟨w.heap.size + 1 + 1, 0, none⟩) (by simp; omega) _).setCell (p := ⟨w.heap.size + 1 + 1, 1, none⟩) (by simp; omega) _⟩

set_option maxHeartbeats 1000000 in
theorem flipC1_any (q : Nat) (f : Int) (k : Nat → Int) (ng : Bool) (fd r x y : Nat)
    (HSG : Hid (∀ w, FmtG w → Calls Tryd.prog 62 #[.int .i64 f, .bool (!ng), .agg #[.bool ng, .int .i64 ((fd : Nat)), .int .u64 (dgl r 0 : Nat), .int .u64 (dgl r 1 : Nat), .int .u64 (dgl r 2 : Nat), .int .u64 (dgl r 3 : Nat), .int .u64 (dgl r 4 : Nat), .int .u64 (dgl r 5 : Nat), .int .u64 (dgl r 6 : Nat), .int .u64 (dgl r 7 : Nat)]] w fun e w' => e = .returned (.agg #[.int .u64 (x : Nat), .int .u64 (y : Nat)]) ∧ Below w.heap.size w w')) (w : World) (hc : CapF q f w) :
    Calls Tryd.prog 63 #[.agg #[.int .i64 (k 0), .int .i64 (k 1), .int .i64 (k 2), .int .i64 (k 3), .int .i64 (k 4)], .agg #[.bool ng, .int .i64 ((fd : Nat)), .int .u64 (dgl r 0 : Nat), .int .u64 (dgl r 1 : Nat), .int .u64 (dgl r 2 : Nat), .int .u64 (dgl r 3 : Nat), .int .u64 (dgl r 4 : Nat), .int .u64 (dgl r 5 : Nat), .int .u64 (dgl r 6 : Nat), .int .u64 (dgl r 7 : Nat)], .pointer (some ⟨q, 0, none⟩)] w fun e w' => e = .returned (.agg #[.int .u64 (x : Nat), .int .u64 (y : Nat)]) ∧ Below w.heap.size w w' := by
  have HST := hide (abSt_start q f k w ng fd r hc)
  have hcc := HST.out.cf.c
  have hcl := HST.out.cf.lt
  have hq := hc.lt
  clear hc
  go_enter Tryd.func63, Tryd.ntmps63
  go_wp2_with fail
  refine (HSG.out _ HST.out.cf.g).mono ?_
  rintro e w1 ⟨rfl, hb1⟩
  replace HST := hide (HST.out.below hb1)
  clear hb1 hcc hcl hq
  have r0 := HST.out.r0
  have r1 := HST.out.r1
  have hrf := HST.out.fz
  have hlt := HST.out.lt
  have HB := hide HST.out.bel
  clear HST
  go_wp2
  exact bodyPost_ret (v := .agg #[.int .u64 (x : Nat), .int .u64 (y : Nat)]) (by simp [results, Tryd.results63, go_sem, hlt, r0, r1]) rfl ⟨rfl, (HB.out.setCell (p := ⟨w.heap.size + 1 + 1, 0, none⟩) (by simp; omega) _).setCell (p := ⟨w.heap.size + 1 + 1, 1, none⟩) (by simp; omega) _⟩

end Go.Proofs.YtidfegilddlglaaDoor

