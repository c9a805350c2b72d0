/- Contracts and laws: ClsM. -/
import Derived.Test.YtidfegilddlglaaDoorXClsL
/- Contracts: class.signed. -/
set_option linter.unusedVariables false
set_option linter.unusedSimpArgs false
set_option maxRecDepth 8000
namespace Go.Proofs.YtidfegilddlglaaDoor
open Go.RowKit Plain

structure SgSt (w : World) (ng : Bool) (fd r : Nat) (W : World) : Prop where
  p1 : W.cell? ⟨w.heap.size, 1, none⟩ = some (.int .i64 (fd : Nat))
  p2 : ∀ i, i < 8 → W.cell? ⟨w.heap.size, 2 + i, none⟩ = some (.int .u64 (dgl r i : Nat))
  r0 : W.cell? ⟨w.heap.size + 1, 0, none⟩ = some (.int .u64 0)
  r1 : W.cell? ⟨w.heap.size + 1, 1, none⟩ = some (.int .u64 0)
  f : ∀ i, W.frozen? ⟨w.heap.size + 1, i, none⟩ = false
  lt : w.heap.size + 1 < W.heap.size
  bel : Below w.heap.size w W
theorem SgSt.below {w : World} {ng : Bool} {fd r : Nat} {W W' : World} (h : SgSt w ng fd r W) (hb : Below W.heap.size W W') : SgSt w ng fd r W' :=
  have hl := h.lt
  ⟨(hb.cell (p := ⟨w.heap.size, 1, none⟩) (show w.heap.size < W.heap.size by omega)).trans h.p1, fun i hi => (hb.cell (p := ⟨w.heap.size, 2 + i, none⟩) (show w.heap.size < W.heap.size by omega)).trans (h.p2 i hi), (hb.cell (p := ⟨w.heap.size + 1, 0, none⟩) h.lt).trans h.r0, (hb.cell (p := ⟨w.heap.size + 1, 1, none⟩) h.lt).trans h.r1,
    fun i => (hb.frozen (p := ⟨w.heap.size + 1, i, none⟩) h.lt).trans (h.f i), Nat.lt_of_lt_of_le h.lt hb.size, below_trans h.bel hb⟩
theorem sgSt_start (w : World) (ng : Bool) (fd r : Nat) : SgSt w ng fd r ((w.alloc (.cells #[.bool ng, .int .i64 ((fd : Nat)), .int .u64 (dgl r 0 : Nat), .int .u64 (dgl r 1 : Nat), .int .u64 (dgl r 2 : Nat), .int .u64 (dgl r 3 : Nat), .int .u64 (dgl r 4 : Nat), .int .u64 (dgl r 5 : Nat), .int .u64 (dgl r 6 : Nat), .int .u64 (dgl r 7 : Nat)] 71)).alloc (.cells #[.int .u64 0, .int .u64 0] 24)) := by
  refine ⟨by simp [go_sem], fun i hi => ?_, by simp [go_sem], by simp [go_sem], fun i => by simp [go_sem], by simp, below_trans (below_allocs _ _) (below_allocs _ _)⟩
  match i, hi with
  | 0, _ | 1, _ | 2, _ | 3, _ | 4, _ | 5, _ | 6, _ | 7, _ => simp [go_sem]

set_option maxHeartbeats 1000000 in
theorem signed_walk (f : Int) (neg ng ok : Bool) (fd r x y : Nat)
    (HMK : Hid (∀ w, FmtG w → Calls Tryd.prog 26 #[.int .i64 f, .bool neg, .int .i64 ((fd : Nat) : Int), .agg #[.int .u64 (dgl (r) 0 : Nat), .int .u64 (dgl (r) 1 : Nat), .int .u64 (dgl (r) 2 : Nat), .int .u64 (dgl (r) 3 : Nat), .int .u64 (dgl (r) 4 : Nat), .int .u64 (dgl (r) 5 : Nat), .int .u64 (dgl (r) 6 : Nat), .int .u64 (dgl (r) 7 : Nat)]] w fun e w' => e = .returned (.tuple #[.agg #[.int .u64 (x : Nat), .int .u64 (y : Nat)], .bool ok]) ∧ Below w.heap.size w w')) (w : World) (hg : FmtG w) :
    Calls Tryd.prog 62 #[.int .i64 f, .bool neg, .agg #[.bool ng, .int .i64 ((fd : Nat)), .int .u64 (dgl r 0 : Nat), .int .u64 (dgl r 1 : Nat), .int .u64 (dgl r 2 : Nat), .int .u64 (dgl r 3 : Nat), .int .u64 (dgl r 4 : Nat), .int .u64 (dgl r 5 : Nat), .int .u64 (dgl r 6 : Nat), .int .u64 (dgl r 7 : Nat)]] w fun e w' => e = .returned (.agg #[.int .u64 (x : Nat), .int .u64 (y : Nat)]) ∧ Below w.heap.size w w' := by
  have HST := hide (sgSt_start w ng fd r)
  have HG := hide (hg.below HST.out.bel)
  clear hg
  go_enter Tryd.func62, Tryd.ntmps62
  go_wp2_with fail
  refine (HMK.out _ HG.out).mono ?_
  rintro e w1 ⟨rfl, hb1⟩
  replace HST := hide ((HST.out.below hb1).below (below_allocs _ (.cells #[.int .u64 (x : Nat), .int .u64 (y : Nat)] 24)))
  clear hb1 HG
  have r0 := HST.out.r0
  have r1 := HST.out.r1
  have hrf := HST.out.f
  have hlt := HST.out.lt
  have HB := hide HST.out.bel
  clear HST
  go_wp2
  exact bodyPost_ret (v := .agg #[.int .u64 (x : Nat), .int .u64 (y : Nat)]) (by simp [results, Tryd.results62, go_sem, hlt, r0, r1]) rfl ⟨rfl, (HB.out.setCell (p := ⟨w.heap.size + 1, 0, none⟩) (Nat.le_succ _) _).setCell (p := ⟨w.heap.size + 1, 1, none⟩) (Nat.le_succ _) _⟩

end Go.Proofs.YtidfegilddlglaaDoor

