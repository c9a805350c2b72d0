/- Contracts and laws: CntA, NanC, NanD, PckA, PckB. -/
import Derived.Test.YtpcjdllijkjdkaaDoorPartAT
import Derived.Deep.Slices
import Derived.Test.YtpcjdllijkjdkaaDoorPartAW
import Derived.Test.YtpcjdllijkjdkaaDoorPartAY
import Derived.Test.YtpcjdllijkjdkaaDoorPartAX
import Derived.Test.YtpcjdllijkjdkaaDoorPartAO
/- Contracts: class.Count; slices of words; arrays of seven ints. -/
set_option linter.unusedVariables false
set_option linter.unusedSimpArgs false
set_option maxRecDepth 8000
namespace Go.Proofs.YtpcjdllijkjdkaaDoor
open Go.ChangeShapes Go.WideShapes Go.ChangeAt Go.RowKit Go.Deep Plain

end Go.Proofs.YtpcjdllijkjdkaaDoor

/- Contracts: the document's Quieted; nan.None, Of and what it hands on; slices.IndexFunc, ContainsFunc over words. -/
set_option linter.unusedVariables false
set_option linter.unusedSimpArgs false
set_option maxRecDepth 8000
namespace Go.Proofs.YtpcjdllijkjdkaaDoor
open Go.RowKit Plain

end Go.Proofs.YtpcjdllijkjdkaaDoor

/- Contracts: nan.None, Of; the document's Of. -/
set_option linter.unusedVariables false
set_option linter.unusedSimpArgs false
set_option maxRecDepth 8000
namespace Go.Proofs.YtpcjdllijkjdkaaDoor
open Go.RowKit Plain

structure NoSt  (w W : World) : Prop where
  g : FmtG W
  gl : 1 < w.heap.size
  r : WB W (w.heap.size) (0) (0)
  fr : ∀ i, W.frozen? ⟨w.heap.size, i, none⟩ = false
  lt : w.heap.size < W.heap.size
  bel : Below w.heap.size w W
theorem NoSt.under  {w W W' : World} (h : NoSt w W) {C : Nat} (hb : Below C W W') (hc : w.heap.size < C) : NoSt w W' :=
  ⟨⟨fun i hi => (hb.cell (p := ⟨1, i, none⟩) (show 1 < C by have := h.gl; omega)).trans (h.g.c i hi), Nat.lt_of_lt_of_le h.g.lt hb.size⟩, h.gl, h.r.under hb (show w.heap.size < C by omega), fun i => (hb.frozen (p := ⟨w.heap.size, i, none⟩) (show w.heap.size < C by omega)).trans (h.fr i), Nat.lt_of_lt_of_le h.lt hb.size, h.bel.trans (hb.mono (by omega))⟩
theorem NoSt.below  {w W W' : World} (h : NoSt w W) (hb : Below W.heap.size W W') : NoSt w W' := h.under hb h.lt
theorem noSt_start (w : World) (hg : FmtG w) : NoSt w (w.alloc (.cells #[.int .u64 0, .int .u64 0] 28)) :=
  ⟨hg.below (below_allocs _ _), hg.lt, wb_new _ _, fun i => by simp [go_sem], by simp, below_allocs _ _⟩

end Go.Proofs.YtpcjdllijkjdkaaDoor

/- Contracts: pack.top, Right, precise, odd, beyond, closures; law09's right. -/
set_option linter.unusedVariables false
set_option linter.unusedSimpArgs false
set_option maxRecDepth 8000
namespace Go.Proofs.YtpcjdllijkjdkaaDoor
open Go.RowKit Plain

structure NnSt (neg : Bool) (z : Int) (s : Nat) (w W : World) : Prop where
  n : NB W (w.heap.size) (neg) (z) (s)
  lt : w.heap.size < W.heap.size
  bel : Below w.heap.size w W
theorem NnSt.under {neg : Bool} {z : Int} {s : Nat} {w W W' : World} (h : NnSt neg z s w W) {C : Nat} (hb : Below C W W') (hc : w.heap.size < C) : NnSt neg z s w W' :=
  ⟨h.n.under hb (show w.heap.size < C by omega), Nat.lt_of_lt_of_le h.lt hb.size, h.bel.trans (hb.mono (by omega))⟩
theorem NnSt.below {neg : Bool} {z : Int} {s : Nat} {w W W' : World} (h : NnSt neg z s w W) (hb : Below W.heap.size W W') : NnSt neg z s w W' := h.under hb h.lt
theorem nnSt_start (neg : Bool) (z : Int) (s : Nat) (w : World) : NnSt neg z s w (w.alloc (.cells #[.bool (neg), .int .i64 (z), .int .u64 (dgl (s) 0 : Nat), .int .u64 (dgl (s) 1 : Nat), .int .u64 (dgl (s) 2 : Nat), .int .u64 (dgl (s) 3 : Nat), .int .u64 (dgl (s) 4 : Nat), .int .u64 (dgl (s) 5 : Nat), .int .u64 (dgl (s) 6 : Nat), .int .u64 (dgl (s) 7 : Nat)] 26)) :=
  ⟨nb_new w neg z s 26, by simp, below_allocs _ _⟩
set_option maxHeartbeats 2000000 in
theorem ptop_any (neg : Bool) (z : Int) (s : Nat) (hs : s < QQ) (hz : -4000000 ≤ z ∧ z ≤ 4000000) (w : World) : Calls Tryd.prog 81 #[.agg #[.bool (neg), .int .i64 (z), .int .u64 (dgl (s) 0 : Nat), .int .u64 (dgl (s) 1 : Nat), .int .u64 (dgl (s) 2 : Nat), .int .u64 (dgl (s) 3 : Nat), .int .u64 (dgl (s) 4 : Nat), .int .u64 (dgl (s) 5 : Nat), .int .u64 (dgl (s) 6 : Nat), .int .u64 (dgl (s) 7 : Nat)]] w fun e w' => e = .returned (.int .i64 (z + (Go.bitLen s : Int) - 1)) ∧ Below w.heap.size w w' := by
  have HS := hide (nnSt_start neg z s w)
  have HLN := hide (fun w => wideLen_any s hs w)
  have hl := len_qq hs
  clear hs
  generalize Go.bitLen s = l at *
  go_enter Tryd.func81, Tryd.ntmps81
  go_upto_region 1 with fail
  refine wp_gen (fun W => NnSt neg z s w W) HS.out ?_
  clear HS
  rintro W1 h1
  refine wp_region_grow 8 [(3, .val (.pointer (some ⟨w.heap.size, 1, none⟩))), (4, .val (.int .i64 z)), (5, .val (.pointer (some ⟨w.heap.size, 2, none⟩))), (6, .val (.agg #[.int .u64 (dgl (s) 0 : Nat), .int .u64 (dgl (s) 1 : Nat), .int .u64 (dgl (s) 2 : Nat), .int .u64 (dgl (s) 3 : Nat), .int .u64 (dgl (s) 4 : Nat), .int .u64 (dgl (s) 5 : Nat), .int .u64 (dgl (s) 6 : Nat), .int .u64 (dgl (s) 7 : Nat)])), (7, .val (.int .i64 (l : Nat))), (8, .val (.int .i64 (z + (l : Int)))), (9, .val (.int .i64 (z + (l : Int) - 1))), (2, .val (.int .i64 (z + (l : Int) - 1)))]
    (fun W => NnSt neg z s w W) mixedOk (by kernel_rfl) (by kernel_rfl) (h1.below (Below.refl _ _).drew) (fun W W' h hb => h.below hb) ?_ ?_
  · refine gSt (gStep_run rfl ?_) ?_
    · intro ρ W hC hc hf hL
      have e1 : ρ (.tmp 1) = .pointer (some ⟨w.heap.size, 0, none⟩) := hL 1 (by decide +kernel)
      simp [go_sem, hc, hf, e1]
      exact ⟨Below.refl _ _, rfl⟩
    refine gSt (gStep_run rfl ?_) ?_
    · intro ρ W hC hc hf hL
      have e3 : ρ (.tmp 3) = .pointer (some ⟨w.heap.size, 1, none⟩) := hL 3 (by decide +kernel)
      have q := hC.n.e
      simp [go_sem, hc, hf, e3, q]
      exact ⟨Below.refl _ _, rfl⟩
    refine gSt (gStep_run rfl ?_) ?_
    · intro ρ W hC hc hf hL
      have e1 : ρ (.tmp 1) = .pointer (some ⟨w.heap.size, 0, none⟩) := hL 1 (by decide +kernel)
      simp [go_sem, hc, hf, e1]
      exact ⟨Below.refl _ _, rfl⟩
    refine gSt (gStep_run rfl ?_) ?_
    · intro ρ W hC hc hf hL
      have e5 : ρ (.tmp 5) = .pointer (some ⟨w.heap.size, 2, none⟩) := hL 5 (by decide +kernel)
      have q0 := hC.n.x0
      have q1 := hC.n.x1
      have q2 := hC.n.x2
      have q3 := hC.n.x3
      have q4 := hC.n.x4
      have q5 := hC.n.x5
      have q6 := hC.n.x6
      have q7 := hC.n.x7
      simp [go_sem, hc, hf, e5, q0, q1, q2, q3, q4, q5, q6, q7]
      exact ⟨Below.refl _ _, rfl⟩
    refine gSt (gStep_run rfl ?_) ?_
    · intro ρ W hC hc hf hL
      have e6 : ρ (.tmp 6) = .agg #[.int .u64 (dgl (s) 0 : Nat), .int .u64 (dgl (s) 1 : Nat), .int .u64 (dgl (s) 2 : Nat), .int .u64 (dgl (s) 3 : Nat), .int .u64 (dgl (s) 4 : Nat), .int .u64 (dgl (s) 5 : Nat), .int .u64 (dgl (s) 6 : Nat), .int .u64 (dgl (s) 7 : Nat)] := hL 6 (by decide +kernel)
      simp [go_sem, hc, hf, e6]
      refine (HLN.out W).mono ?_
      rintro e w' ⟨rfl, hb⟩
      exact ⟨_, rfl, by first | exact hb | (subst hb; exact Below.refl _ _), rfl⟩
    refine gSt (gStep_run rfl ?_) ?_
    · intro ρ W hC hc hf hL
      have e4 : ρ (.tmp 4) = .int .i64 z := hL 4 (by decide +kernel)
      have e7 : ρ (.tmp 7) = .int .i64 (l : Nat) := hL 7 (by decide +kernel)
      have hw : IntKind.i64.wrap (z + (l : Int)) = z + (l : Int) := by rw [IntKind.wrap_i64]; omega
      simp [go_sem, hc, hf, e4, e7, hw]
      exact ⟨Below.refl _ _, rfl⟩
    refine gSt (gStep_run rfl ?_) ?_
    · intro ρ W hC hc hf hL
      have e8 : ρ (.tmp 8) = .int .i64 (z + (l : Int)) := hL 8 (by decide +kernel)
      have hw : IntKind.i64.wrap (z + (l : Int) - 1) = z + (l : Int) - 1 := by rw [IntKind.wrap_i64]; omega
      simp [go_sem, hc, hf, e8, hw]
      exact ⟨Below.refl _ _, rfl⟩
    refine gSt (gStep_run rfl (gRun_move 9 2 (.inr rfl) rfl (by decide +kernel) (fun v w h => h))) ?_
    exact gSt0
  · intro W hC
    refine gFi 3 rfl ?_
    rintro _ rfl
    refine gFi 4 rfl ?_
    rintro _ rfl
    refine gFi 5 rfl ?_
    rintro _ rfl
    refine gFi 6 rfl ?_
    rintro _ rfl
    refine gFi 7 rfl ?_
    rintro _ rfl
    refine gFi 8 rfl ?_
    rintro _ rfl
    refine gFi 9 rfl ?_
    rintro _ rfl
    refine gFi 2 rfl ?_
    rintro _ rfl
    refine gFi0 ?_
    simp only [List.drop_succ_cons, List.drop_zero, Act.put, List.setIfInBounds_toArray, List.set_cons_succ, List.set_cons_zero]
    have HB := hide hC.bel
    clear hC h1
    go_wp2
    go_ret
    exact ⟨rfl, HB.out⟩

/-- May a number be rounded to so many digits? -/
def rightB (p z : Int) (s : Nat) (more : Bool) : Bool := decide (1 ≤ p) && (decide (p ≤ 500) && (rgt z && (decide (Go.bitLen s ≤ 511) && (!more || decide (p < (Go.bitLen s : Int))))))

set_option maxHeartbeats 4000000 in
theorem pright_any (p z : Int) (neg more : Bool) (s : Nat) (hs : s < QQ) (w : World) : Calls Tryd.prog 18 #[.int .i64 p, .agg #[.bool (neg), .int .i64 (z), .int .u64 (dgl (s) 0 : Nat), .int .u64 (dgl (s) 1 : Nat), .int .u64 (dgl (s) 2 : Nat), .int .u64 (dgl (s) 3 : Nat), .int .u64 (dgl (s) 4 : Nat), .int .u64 (dgl (s) 5 : Nat), .int .u64 (dgl (s) 6 : Nat), .int .u64 (dgl (s) 7 : Nat)], .bool more] w fun e w' => e = .returned (.bool (rightB p z s more)) ∧ Below w.heap.size w w' := by
  have HS := hide (nnSt_start neg z s w)
  have HLN := hide (fun w => wideLen_any s hs w)
  have HRI := hide (fun w => uRight_any neg z s w)
  have hl := len_qq hs
  clear hs
  have HD : Hid (∀ b, decide (1 ≤ p) = b → rightB p z s more = (b && (decide (p ≤ 500) && (rgt z && (decide (Go.bitLen s ≤ 511) && (!more || decide (p < (Go.bitLen s : Int)))))))) := fun b h => by rw [← h]; rfl
  generalize Go.bitLen s = l at *
  generalize rightB p z s more = R at *
  generalize rgt z = rg at *
  go_enter Tryd.func18, Tryd.ntmps18
  go_upto_region 1 with fail
  refine wp_gen (fun W => NnSt neg z s w W) HS.out ?_
  clear HS
  rintro W1 h1
  have HS := hide h1
  clear h1
  by_cases hp1 : 1 ≤ p
  · by_cases hp2 : p ≤ 500
    · cases rg
      · have hq1 : ¬ p < 1 := by omega
        have hq2 : ¬ (500 : Int) < p := by omega
        have ln := HS.out.n.n
        have le := HS.out.n.e
        have l0 := HS.out.n.x0
        have l1 := HS.out.n.x1
        have l2 := HS.out.n.x2
        have l3 := HS.out.n.x3
        have l4 := HS.out.n.x4
        have l5 := HS.out.n.x5
        have l6 := HS.out.n.x6
        have l7 := HS.out.n.x7
        go_wp2_with fail
        refine (HRI.out _).mono ?_
        rintro e w4 ⟨rfl, hb4⟩
        replace HS := hide (HS.out.below hb4)
        clear hb4
        clear ln le l0 l1 l2 l3 l4 l5 l6 l7
        have HR : Hid (R = false) := by unfold Hid; rw [HD.out _ (decide_eq_true hp1), decide_eq_true hp2]; rfl
        have HB := hide HS.out.bel
        clear HS
        go_wp2
        go_ret
        exact ⟨ret_bl HR.out.symm, HB.out⟩
      · by_cases hl5 : l ≤ 511
        · cases more
          · have hq1 : ¬ p < 1 := by omega
            have hq2 : ¬ (500 : Int) < p := by omega
            have ln := HS.out.n.n
            have le := HS.out.n.e
            have l0 := HS.out.n.x0
            have l1 := HS.out.n.x1
            have l2 := HS.out.n.x2
            have l3 := HS.out.n.x3
            have l4 := HS.out.n.x4
            have l5 := HS.out.n.x5
            have l6 := HS.out.n.x6
            have l7 := HS.out.n.x7
            go_wp2_with fail
            refine (HRI.out _).mono ?_
            rintro e w4 ⟨rfl, hb4⟩
            replace HS := hide (HS.out.below hb4)
            clear hb4
            clear ln le l0 l1 l2 l3 l4 l5 l6 l7
            have ln := HS.out.n.n
            have le := HS.out.n.e
            have l0 := HS.out.n.x0
            have l1 := HS.out.n.x1
            have l2 := HS.out.n.x2
            have l3 := HS.out.n.x3
            have l4 := HS.out.n.x4
            have l5 := HS.out.n.x5
            have l6 := HS.out.n.x6
            have l7 := HS.out.n.x7
            go_wp2_with fail
            refine (HLN.out _).mono ?_
            rintro e w3 ⟨rfl, hb3⟩
            replace HS := hide (HS.out.below hb3)
            clear hb3
            clear ln le l0 l1 l2 l3 l4 l5 l6 l7
            have HR : Hid (R = true) := by unfold Hid; rw [HD.out _ (decide_eq_true hp1), decide_eq_true hp2, decide_eq_true hl5]; rfl
            have hl6 : (l : Int) ≤ 511 := by omega
            have HB := hide HS.out.bel
            clear HS
            go_wp2
            go_ret
            exact ⟨ret_bl HR.out.symm, HB.out⟩
          · have hq1 : ¬ p < 1 := by omega
            have hq2 : ¬ (500 : Int) < p := by omega
            have ln := HS.out.n.n
            have le := HS.out.n.e
            have l0 := HS.out.n.x0
            have l1 := HS.out.n.x1
            have l2 := HS.out.n.x2
            have l3 := HS.out.n.x3
            have l4 := HS.out.n.x4
            have l5 := HS.out.n.x5
            have l6 := HS.out.n.x6
            have l7 := HS.out.n.x7
            go_wp2_with fail
            refine (HRI.out _).mono ?_
            rintro e w4 ⟨rfl, hb4⟩
            replace HS := hide (HS.out.below hb4)
            clear hb4
            clear ln le l0 l1 l2 l3 l4 l5 l6 l7
            have ln := HS.out.n.n
            have le := HS.out.n.e
            have l0 := HS.out.n.x0
            have l1 := HS.out.n.x1
            have l2 := HS.out.n.x2
            have l3 := HS.out.n.x3
            have l4 := HS.out.n.x4
            have l5 := HS.out.n.x5
            have l6 := HS.out.n.x6
            have l7 := HS.out.n.x7
            go_wp2_with fail
            refine (HLN.out _).mono ?_
            rintro e w3 ⟨rfl, hb3⟩
            replace HS := hide (HS.out.below hb3)
            clear hb3
            clear ln le l0 l1 l2 l3 l4 l5 l6 l7
            have HR : Hid (R = decide (p < (l : Int))) := by unfold Hid; rw [HD.out _ (decide_eq_true hp1), decide_eq_true hp2, decide_eq_true hl5]; rfl
            have hl6 : (l : Int) ≤ 511 := by omega
            have HB := hide HS.out.bel
            clear HS
            go_wp2
            go_ret
            exact ⟨ret_bl HR.out.symm, HB.out⟩
        · have hq1 : ¬ p < 1 := by omega
          have hq2 : ¬ (500 : Int) < p := by omega
          have ln := HS.out.n.n
          have le := HS.out.n.e
          have l0 := HS.out.n.x0
          have l1 := HS.out.n.x1
          have l2 := HS.out.n.x2
          have l3 := HS.out.n.x3
          have l4 := HS.out.n.x4
          have l5 := HS.out.n.x5
          have l6 := HS.out.n.x6
          have l7 := HS.out.n.x7
          go_wp2_with fail
          refine (HRI.out _).mono ?_
          rintro e w4 ⟨rfl, hb4⟩
          replace HS := hide (HS.out.below hb4)
          clear hb4
          clear ln le l0 l1 l2 l3 l4 l5 l6 l7
          have ln := HS.out.n.n
          have le := HS.out.n.e
          have l0 := HS.out.n.x0
          have l1 := HS.out.n.x1
          have l2 := HS.out.n.x2
          have l3 := HS.out.n.x3
          have l4 := HS.out.n.x4
          have l5 := HS.out.n.x5
          have l6 := HS.out.n.x6
          have l7 := HS.out.n.x7
          go_wp2_with fail
          refine (HLN.out _).mono ?_
          rintro e w3 ⟨rfl, hb3⟩
          replace HS := hide (HS.out.below hb3)
          clear hb3
          clear ln le l0 l1 l2 l3 l4 l5 l6 l7
          have HR : Hid (R = false) := by unfold Hid; rw [HD.out _ (decide_eq_true hp1), decide_eq_true hp2, decide_eq_false hl5]; rfl
          have hl6 : ¬ (l : Int) ≤ 511 := by omega
          have HB := hide HS.out.bel
          clear HS
          go_wp2
          go_ret
          exact ⟨ret_bl HR.out.symm, HB.out⟩
    · have HR : Hid (R = false) := by unfold Hid; rw [HD.out _ (decide_eq_true (by omega)), decide_eq_false (show ¬ p ≤ 500 by omega)]; rfl
      have hq1 : ¬ p < 1 := by omega
      have hq2 : (500 : Int) < p := by omega
      have HB := hide HS.out.bel
      clear HS
      go_wp2
      go_ret
      exact ⟨ret_bl HR.out.symm, HB.out⟩
  · have HR : Hid (R = false) := by unfold Hid; rw [HD.out _ (decide_eq_false (by omega))]; rfl
    have hq1 : p < 1 := by omega
    have HB := hide HS.out.bel
    clear HS
    go_wp2
    go_ret
    exact ⟨ret_bl HR.out.symm, HB.out⟩

set_option maxHeartbeats 4000000 in
theorem lright_any (p z : Int) (neg more : Bool) (s : Nat) (hs : s < QQ) (w : World) : Calls Tryd.prog 19 #[.int .i64 p, .agg #[.bool (neg), .int .i64 (z), .int .u64 (dgl (s) 0 : Nat), .int .u64 (dgl (s) 1 : Nat), .int .u64 (dgl (s) 2 : Nat), .int .u64 (dgl (s) 3 : Nat), .int .u64 (dgl (s) 4 : Nat), .int .u64 (dgl (s) 5 : Nat), .int .u64 (dgl (s) 6 : Nat), .int .u64 (dgl (s) 7 : Nat)], .bool more] w fun e w' => e = .returned (.bool (rightB p z s more)) ∧ Below w.heap.size w w' := by
  have HS := hide (nnSt_start neg z s w)
  have HBG := hide (fun w => refBig_any s hs w)
  have HLN := hide (fun v w h => refLen_any s 40 v w h (by decide))
  have HRI := hide (fun w => refRight_any neg z s w)
  have hl := len_qq hs
  clear hs
  have HD : Hid (∀ b, decide (1 ≤ p) = b → rightB p z s more = (b && (decide (p ≤ 500) && (rgt z && (decide (Go.bitLen s ≤ 511) && (!more || decide (p < (Go.bitLen s : Int)))))))) := fun b h => by rw [← h]; rfl
  generalize Go.bitLen s = l at *
  generalize rightB p z s more = R at *
  generalize rgt z = rg at *
  go_enter Tryd.func19, Tryd.ntmps19
  go_upto_region 1 with fail
  refine wp_gen (fun W => NnSt neg z s w W) HS.out ?_
  clear HS
  rintro W1 h1
  have HS := hide h1
  clear h1
  by_cases hp1 : 1 ≤ p
  · by_cases hp2 : p ≤ 500
    · cases rg
      · have ln := HS.out.n.n
        have le := HS.out.n.e
        have l0 := HS.out.n.x0
        have l1 := HS.out.n.x1
        have l2 := HS.out.n.x2
        have l3 := HS.out.n.x3
        have l4 := HS.out.n.x4
        have l5 := HS.out.n.x5
        have l6 := HS.out.n.x6
        have l7 := HS.out.n.x7
        go_wp2_with fail
        refine (HBG.out _).mono ?_
        rintro e w2 ⟨v2, rfl, hv2, hb2⟩
        replace HS := hide (HS.out.below hb2)
        clear hb2
        go_wp2_with fail
        refine (HLN.out _ _ hv2).mono ?_
        rintro e w3 ⟨rfl, hw⟩
        subst w3
        clear hv2
        clear ln le l0 l1 l2 l3 l4 l5 l6 l7
        have hq1 : ¬ p < 1 := by omega
        have hq2 : ¬ (500 : Int) < p := by omega
        have ln := HS.out.n.n
        have le := HS.out.n.e
        have l0 := HS.out.n.x0
        have l1 := HS.out.n.x1
        have l2 := HS.out.n.x2
        have l3 := HS.out.n.x3
        have l4 := HS.out.n.x4
        have l5 := HS.out.n.x5
        have l6 := HS.out.n.x6
        have l7 := HS.out.n.x7
        go_wp2_with fail
        refine (HRI.out _).mono ?_
        rintro e w4 ⟨rfl, hb4⟩
        replace HS := hide (HS.out.below hb4)
        clear hb4
        clear ln le l0 l1 l2 l3 l4 l5 l6 l7
        have HR : Hid (R = false) := by unfold Hid; rw [HD.out _ (decide_eq_true hp1), decide_eq_true hp2]; rfl
        have HB := hide HS.out.bel
        clear HS
        go_wp2
        go_ret
        exact ⟨ret_bl HR.out.symm, HB.out⟩
      · by_cases hl5 : l ≤ 511
        · cases more
          · have ln := HS.out.n.n
            have le := HS.out.n.e
            have l0 := HS.out.n.x0
            have l1 := HS.out.n.x1
            have l2 := HS.out.n.x2
            have l3 := HS.out.n.x3
            have l4 := HS.out.n.x4
            have l5 := HS.out.n.x5
            have l6 := HS.out.n.x6
            have l7 := HS.out.n.x7
            go_wp2_with fail
            refine (HBG.out _).mono ?_
            rintro e w2 ⟨v2, rfl, hv2, hb2⟩
            replace HS := hide (HS.out.below hb2)
            clear hb2
            go_wp2_with fail
            refine (HLN.out _ _ hv2).mono ?_
            rintro e w3 ⟨rfl, hw⟩
            subst w3
            clear hv2
            clear ln le l0 l1 l2 l3 l4 l5 l6 l7
            have hq1 : ¬ p < 1 := by omega
            have hq2 : ¬ (500 : Int) < p := by omega
            have ln := HS.out.n.n
            have le := HS.out.n.e
            have l0 := HS.out.n.x0
            have l1 := HS.out.n.x1
            have l2 := HS.out.n.x2
            have l3 := HS.out.n.x3
            have l4 := HS.out.n.x4
            have l5 := HS.out.n.x5
            have l6 := HS.out.n.x6
            have l7 := HS.out.n.x7
            go_wp2_with fail
            refine (HRI.out _).mono ?_
            rintro e w4 ⟨rfl, hb4⟩
            replace HS := hide (HS.out.below hb4)
            clear hb4
            clear ln le l0 l1 l2 l3 l4 l5 l6 l7
            have HR : Hid (R = true) := by unfold Hid; rw [HD.out _ (decide_eq_true hp1), decide_eq_true hp2, decide_eq_true hl5]; rfl
            have hl6 : (l : Int) ≤ 511 := by omega
            have HB := hide HS.out.bel
            clear HS
            go_wp2
            go_ret
            exact ⟨ret_bl HR.out.symm, HB.out⟩
          · have ln := HS.out.n.n
            have le := HS.out.n.e
            have l0 := HS.out.n.x0
            have l1 := HS.out.n.x1
            have l2 := HS.out.n.x2
            have l3 := HS.out.n.x3
            have l4 := HS.out.n.x4
            have l5 := HS.out.n.x5
            have l6 := HS.out.n.x6
            have l7 := HS.out.n.x7
            go_wp2_with fail
            refine (HBG.out _).mono ?_
            rintro e w2 ⟨v2, rfl, hv2, hb2⟩
            replace HS := hide (HS.out.below hb2)
            clear hb2
            go_wp2_with fail
            refine (HLN.out _ _ hv2).mono ?_
            rintro e w3 ⟨rfl, hw⟩
            subst w3
            clear hv2
            clear ln le l0 l1 l2 l3 l4 l5 l6 l7
            have hq1 : ¬ p < 1 := by omega
            have hq2 : ¬ (500 : Int) < p := by omega
            have ln := HS.out.n.n
            have le := HS.out.n.e
            have l0 := HS.out.n.x0
            have l1 := HS.out.n.x1
            have l2 := HS.out.n.x2
            have l3 := HS.out.n.x3
            have l4 := HS.out.n.x4
            have l5 := HS.out.n.x5
            have l6 := HS.out.n.x6
            have l7 := HS.out.n.x7
            go_wp2_with fail
            refine (HRI.out _).mono ?_
            rintro e w4 ⟨rfl, hb4⟩
            replace HS := hide (HS.out.below hb4)
            clear hb4
            clear ln le l0 l1 l2 l3 l4 l5 l6 l7
            have HR : Hid (R = decide (p < (l : Int))) := by unfold Hid; rw [HD.out _ (decide_eq_true hp1), decide_eq_true hp2, decide_eq_true hl5]; rfl
            have hl6 : (l : Int) ≤ 511 := by omega
            have HB := hide HS.out.bel
            clear HS
            go_wp2
            go_ret
            exact ⟨ret_bl HR.out.symm, HB.out⟩
        · have ln := HS.out.n.n
          have le := HS.out.n.e
          have l0 := HS.out.n.x0
          have l1 := HS.out.n.x1
          have l2 := HS.out.n.x2
          have l3 := HS.out.n.x3
          have l4 := HS.out.n.x4
          have l5 := HS.out.n.x5
          have l6 := HS.out.n.x6
          have l7 := HS.out.n.x7
          go_wp2_with fail
          refine (HBG.out _).mono ?_
          rintro e w2 ⟨v2, rfl, hv2, hb2⟩
          replace HS := hide (HS.out.below hb2)
          clear hb2
          go_wp2_with fail
          refine (HLN.out _ _ hv2).mono ?_
          rintro e w3 ⟨rfl, hw⟩
          subst w3
          clear hv2
          clear ln le l0 l1 l2 l3 l4 l5 l6 l7
          have hq1 : ¬ p < 1 := by omega
          have hq2 : ¬ (500 : Int) < p := by omega
          have ln := HS.out.n.n
          have le := HS.out.n.e
          have l0 := HS.out.n.x0
          have l1 := HS.out.n.x1
          have l2 := HS.out.n.x2
          have l3 := HS.out.n.x3
          have l4 := HS.out.n.x4
          have l5 := HS.out.n.x5
          have l6 := HS.out.n.x6
          have l7 := HS.out.n.x7
          go_wp2_with fail
          refine (HRI.out _).mono ?_
          rintro e w4 ⟨rfl, hb4⟩
          replace HS := hide (HS.out.below hb4)
          clear hb4
          clear ln le l0 l1 l2 l3 l4 l5 l6 l7
          have HR : Hid (R = false) := by unfold Hid; rw [HD.out _ (decide_eq_true hp1), decide_eq_true hp2, decide_eq_false hl5]; rfl
          have hl6 : ¬ (l : Int) ≤ 511 := by omega
          have HB := hide HS.out.bel
          clear HS
          go_wp2
          go_ret
          exact ⟨ret_bl HR.out.symm, HB.out⟩
    · have ln := HS.out.n.n
      have le := HS.out.n.e
      have l0 := HS.out.n.x0
      have l1 := HS.out.n.x1
      have l2 := HS.out.n.x2
      have l3 := HS.out.n.x3
      have l4 := HS.out.n.x4
      have l5 := HS.out.n.x5
      have l6 := HS.out.n.x6
      have l7 := HS.out.n.x7
      go_wp2_with fail
      refine (HBG.out _).mono ?_
      rintro e w2 ⟨v2, rfl, hv2, hb2⟩
      replace HS := hide (HS.out.below hb2)
      clear hb2
      go_wp2_with fail
      refine (HLN.out _ _ hv2).mono ?_
      rintro e w3 ⟨rfl, hw⟩
      subst w3
      clear hv2
      clear ln le l0 l1 l2 l3 l4 l5 l6 l7
      have HR : Hid (R = false) := by unfold Hid; rw [HD.out _ (decide_eq_true (by omega)), decide_eq_false (show ¬ p ≤ 500 by omega)]; rfl
      have hq1 : ¬ p < 1 := by omega
      have hq2 : (500 : Int) < p := by omega
      have HB := hide HS.out.bel
      clear HS
      go_wp2
      go_ret
      exact ⟨ret_bl HR.out.symm, HB.out⟩
  · have ln := HS.out.n.n
    have le := HS.out.n.e
    have l0 := HS.out.n.x0
    have l1 := HS.out.n.x1
    have l2 := HS.out.n.x2
    have l3 := HS.out.n.x3
    have l4 := HS.out.n.x4
    have l5 := HS.out.n.x5
    have l6 := HS.out.n.x6
    have l7 := HS.out.n.x7
    go_wp2_with fail
    refine (HBG.out _).mono ?_
    rintro e w2 ⟨v2, rfl, hv2, hb2⟩
    replace HS := hide (HS.out.below hb2)
    clear hb2
    go_wp2_with fail
    refine (HLN.out _ _ hv2).mono ?_
    rintro e w3 ⟨rfl, hw⟩
    subst w3
    clear hv2
    clear ln le l0 l1 l2 l3 l4 l5 l6 l7
    have HR : Hid (R = false) := by unfold Hid; rw [HD.out _ (decide_eq_false (by omega))]; rfl
    have hq1 : p < 1 := by omega
    have HB := hide HS.out.bel
    clear HS
    go_wp2
    go_ret
    exact ⟨ret_bl HR.out.symm, HB.out⟩

/-- A closure that pack.precise makes. -/
def precV (q : Nat) : Value := .func (.func 119) #[] #[.pointer (some ⟨q, 0, none⟩)]
structure CapP (q : Nat) (p : Int) (W : World) : Prop where
  c : W.cell? ⟨q, 0, none⟩ = some (.int .i64 p)
  lt : q < W.heap.size
theorem CapP.below {q : Nat} {p : Int} {W W' : World} (h : CapP q p W) (hb : Below W.heap.size W W') : CapP q p W' :=
  ⟨(hb.cell (p := ⟨q, 0, none⟩) h.lt).trans h.c, Nat.lt_of_lt_of_le h.lt hb.size⟩
def SlotIs.prec (p : Int) : SlotIs := ⟨fun v w => ∃ q, v = precV q ∧ CapP q p w, fun v w w' hb ⟨q, h1, h2⟩ => ⟨q, h1, h2.below hb⟩⟩
theorem precise_any (p : Int) (w : World) : Calls Tryd.prog 62 #[.int .i64 p] w fun e w' => e = .returned (precV w.heap.size) ∧ CapP w.heap.size p w' ∧ Below w.heap.size w w' := by
  have HC := hide (show CapP w.heap.size p (w.alloc (.cells #[.int .i64 p] 3)) ∧ Below w.heap.size w (w.alloc (.cells #[.int .i64 p] 3)) from ⟨⟨by simp [go_sem], by simp⟩, below_allocs _ _⟩)
  go_enter Tryd.func62, Tryd.ntmps62
  go_wp2
  go_ret
  exact ⟨rfl, HC.out.1, HC.out.2⟩
theorem precC_any (q : Nat) (p t : Int) (hp : -10000000 ≤ p ∧ p ≤ 10000000) (ht : -10000000 ≤ t ∧ t ≤ 10000000) (w : World) (hc : CapP q p w) : Calls Tryd.prog 119 (#[.int .i64 t] ++ #[.pointer (some ⟨q, 0, none⟩)]) w fun e w' => e = .returned (.int .i64 (t - p + 1)) ∧ Below w.heap.size w w' := by
  have h0 := hc.c
  have h1 := hc.lt
  have hw1 : IntKind.i64.wrap (t - p) = t - p := by rw [IntKind.wrap_i64]; omega
  have hw2 : IntKind.i64.wrap (t - p + 1) = t - p + 1 := by rw [IntKind.wrap_i64]; omega
  clear hc hp ht
  show Calls Tryd.prog 119 #[.int .i64 t, .pointer (some ⟨q, 0, none⟩)] w _
  go_enter Tryd.func119, Tryd.ntmps119
  go_wp2
  go_ret
  exact ⟨rfl, Below.refl _ _⟩
structure CapK (q : Nat) (k : Nat → Int) (W : World) : Prop where
  c : ∀ i, i < 5 → W.cell? ⟨q, i, none⟩ = some (.int .i64 (k i))
  lt : q < W.heap.size
theorem CapK.below {q : Nat} {k : Nat → Int} {W W' : World} (h : CapK q k W) (hb : Below W.heap.size W W') : CapK q k W' :=
  ⟨fun i hi => (hb.cell (p := ⟨q, i, none⟩) h.lt).trans (h.c i hi), Nat.lt_of_lt_of_le h.lt hb.size⟩
theorem CapK.under {q : Nat} {k : Nat → Int} {W W' : World} (h : CapK q k W) {C : Nat} (hb : Below C W W') (hc : q < C) : CapK q k W' :=
  ⟨fun i hi => (hb.cell (p := ⟨q, i, none⟩) hc).trans (h.c i hi), Nat.lt_of_lt_of_le h.lt hb.size⟩
theorem rndC_any (q : Nat) (k : Nat → Int) (t : Int) (hp : -10000000 ≤ k 1 ∧ k 1 ≤ 10000000) (ht : -10000000 ≤ k 3 ∧ k 3 ≤ 10000000) (w : World) (hc : CapK q k w) : Calls Tryd.prog 83 (#[.int .i64 t] ++ #[.pointer (some ⟨q, 0, none⟩)]) w fun e w' => e = .returned (.int .i64 (k 3 - k 1 + 1)) ∧ Below w.heap.size w w' := by
  have h0 := hc.c 3 (by decide)
  have h2 := hc.c 1 (by decide)
  have h1 := hc.lt
  have hw1 : IntKind.i64.wrap (k 3 - k 1) = k 3 - k 1 := by rw [IntKind.wrap_i64]; omega
  have hw2 : IntKind.i64.wrap (k 3 - k 1 + 1) = k 3 - k 1 + 1 := by rw [IntKind.wrap_i64]; omega
  clear hc hp ht
  show Calls Tryd.prog 83 #[.int .i64 t, .pointer (some ⟨q, 0, none⟩)] w _
  go_enter Tryd.func83, Tryd.ntmps83
  go_wp2
  go_ret
  exact ⟨rfl, Below.refl _ _⟩
structure PoSt (neg : Bool) (z : Int) (s : Nat) (w W : World) : Prop where
  n : NB W (w.heap.size) (neg) (z) (s)
  r : NB W (w.heap.size + 1) (false) (0) (0)
  fr : ∀ i, W.frozen? ⟨w.heap.size + 1, i, none⟩ = false
  lt : w.heap.size + 1 < W.heap.size
  bel : Below w.heap.size w W
theorem PoSt.under {neg : Bool} {z : Int} {s : Nat} {w W W' : World} (h : PoSt neg z s w W) {C : Nat} (hb : Below C W W') (hc : w.heap.size + 1 < C) : PoSt neg z s w W' :=
  ⟨h.n.under hb (show w.heap.size < C by omega), h.r.under hb (show w.heap.size + 1 < C by omega), fun i => (hb.frozen (p := ⟨w.heap.size + 1, i, none⟩) (show w.heap.size + 1 < C by omega)).trans (h.fr i), Nat.lt_of_lt_of_le h.lt hb.size, h.bel.trans (hb.mono (by omega))⟩
theorem PoSt.below {neg : Bool} {z : Int} {s : Nat} {w W W' : World} (h : PoSt neg z s w W) (hb : Below W.heap.size W W') : PoSt neg z s w W' := h.under hb h.lt
theorem poSt_start (neg : Bool) (z : Int) (s : Nat) (w : World) : PoSt neg z s w ((w.alloc (.cells #[.bool (neg), .int .i64 (z), .int .u64 (dgl (s) 0 : Nat), .int .u64 (dgl (s) 1 : Nat), .int .u64 (dgl (s) 2 : Nat), .int .u64 (dgl (s) 3 : Nat), .int .u64 (dgl (s) 4 : Nat), .int .u64 (dgl (s) 5 : Nat), .int .u64 (dgl (s) 6 : Nat), .int .u64 (dgl (s) 7 : Nat)] 26)).alloc (.cells #[.bool false, .int .i64 0, .int .u64 0, .int .u64 0, .int .u64 0, .int .u64 0, .int .u64 0, .int .u64 0, .int .u64 0, .int .u64 0] 26)) := by
  have h1 := nb_zero (w.alloc (.cells #[.bool (neg), .int .i64 (z), .int .u64 (dgl (s) 0 : Nat), .int .u64 (dgl (s) 1 : Nat), .int .u64 (dgl (s) 2 : Nat), .int .u64 (dgl (s) 3 : Nat), .int .u64 (dgl (s) 4 : Nat), .int .u64 (dgl (s) 5 : Nat), .int .u64 (dgl (s) 6 : Nat), .int .u64 (dgl (s) 7 : Nat)] 26)) 26
  rw [World.size_alloc] at h1
  exact ⟨(nb_new w neg z s 26).below (below_allocs _ _), h1, fun i => by simp [go_sem], by simp, below_trans (below_allocs _ _) (below_allocs _ _)⟩
set_option maxHeartbeats 1000000 in
theorem beyond_I (f m : Int) (neg : Bool) (a : Nat)
    (HGR : Hid (∀ w, Calls Tryd.prog 126 #[.int .i64 m, .bool neg, .bool false, .int .i64 3] w fun e w' => e = .returned (.bool true) ∧ Below w.heap.size w w'))
    (HFM : Hid (∀ w, FmtG w → Calls Tryd.prog 127 #[.int .i64 f, .bool neg] w fun e w' => e = .returned (.agg #[.int .u64 (dgl (a) 1 : Nat), .int .u64 (dgl (a) 0 : Nat)]) ∧ Below w.heap.size w w')) (w : World) (hg : FmtG w) :
    Calls Tryd.prog 82 #[.int .i64 f, .int .i64 m, .bool neg] w fun e w' => e = .returned (.agg #[.int .u64 (dgl (a) 1 : Nat), .int .u64 (dgl (a) 0 : Nat)]) ∧ Below w.heap.size w w' := by
  have HS := hide (noSt_start w hg)
  clear hg
  go_enter Tryd.func82, Tryd.ntmps82
  go_upto_region 1 with fail
  refine wp_gen (fun W => NoSt w W) HS.out ?_
  clear HS
  rintro W1 h1
  have HS := hide h1
  clear h1
  go_wp2_with fail
  refine (HGR.out _).mono ?_
  rintro e w1 ⟨rfl, hb1⟩
  replace HS := hide (HS.out.below hb1)
  clear hb1
  go_wp2_with fail
  refine (HFM.out _ HS.out.g).mono ?_
  rintro e w2 ⟨rfl, hb2⟩
  replace HS := hide (HS.out.below hb2)
  clear hb2
  have rh := HS.out.r.h
  have rl := HS.out.r.l
  have hrf := HS.out.fr
  have hlt := HS.out.lt
  have HB := hide HS.out.bel
  clear HS
  go_wp2
  exact bodyPost_ret (v := .agg #[.int .u64 (dgl (a) 1 : Nat), .int .u64 (dgl (a) 0 : Nat)]) (by simp [results, Tryd.results82, go_sem, hlt, rh, rl]) rfl ⟨rfl, (HB.out.setCell (p := ⟨w.heap.size, 0, none⟩) (Nat.le_refl _) _).setCell (p := ⟨w.heap.size, 1, none⟩) (Nat.le_refl _) _⟩

set_option maxHeartbeats 1000000 in
theorem beyond_M (f m : Int) (neg : Bool) (a : Nat)
    (HGR : Hid (∀ w, Calls Tryd.prog 126 #[.int .i64 m, .bool neg, .bool false, .int .i64 3] w fun e w' => e = .returned (.bool false) ∧ Below w.heap.size w w'))
    (HFM : Hid (∀ w, FmtG w → Calls Tryd.prog 128 #[.int .i64 f, .bool neg] w fun e w' => e = .returned (.agg #[.int .u64 (dgl (a) 1 : Nat), .int .u64 (dgl (a) 0 : Nat)]) ∧ Below w.heap.size w w')) (w : World) (hg : FmtG w) :
    Calls Tryd.prog 82 #[.int .i64 f, .int .i64 m, .bool neg] w fun e w' => e = .returned (.agg #[.int .u64 (dgl (a) 1 : Nat), .int .u64 (dgl (a) 0 : Nat)]) ∧ Below w.heap.size w w' := by
  have HS := hide (noSt_start w hg)
  clear hg
  go_enter Tryd.func82, Tryd.ntmps82
  go_upto_region 1 with fail
  refine wp_gen (fun W => NoSt w W) HS.out ?_
  clear HS
  rintro W1 h1
  have HS := hide h1
  clear h1
  go_wp2_with fail
  refine (HGR.out _).mono ?_
  rintro e w1 ⟨rfl, hb1⟩
  replace HS := hide (HS.out.below hb1)
  clear hb1
  go_wp2_with fail
  refine (HFM.out _ HS.out.g).mono ?_
  rintro e w2 ⟨rfl, hb2⟩
  replace HS := hide (HS.out.below hb2)
  clear hb2
  have rh := HS.out.r.h
  have rl := HS.out.r.l
  have hrf := HS.out.fr
  have hlt := HS.out.lt
  have HB := hide HS.out.bel
  clear HS
  go_wp2
  exact bodyPost_ret (v := .agg #[.int .u64 (dgl (a) 1 : Nat), .int .u64 (dgl (a) 0 : Nat)]) (by simp [results, Tryd.results82, go_sem, hlt, rh, rl]) rfl ⟨rfl, (HB.out.setCell (p := ⟨w.heap.size, 0, none⟩) (Nat.le_refl _) _).setCell (p := ⟨w.heap.size, 1, none⟩) (Nat.le_refl _) _⟩

end Go.Proofs.YtpcjdllijkjdkaaDoor

/- Contracts: pack.cut, Digits, Round, over what their parts tell. -/
set_option linter.unusedVariables false
set_option linter.unusedSimpArgs false
set_option maxRecDepth 8000
namespace Go.Proofs.YtpcjdllijkjdkaaDoor
open Go.RowKit Plain

set_option maxHeartbeats 4000000 in
theorem pcut_walk (z tp la by_ m : Int) (neg more off : Bool) (s q fid : Nat) (caps : Array Value) (C0 : World → Prop) (hC0s : ∀ W W', C0 W → Below W.heap.size W W' → C0 W') (hent : ∀ args w, (callFunc fid args).run Tryd.prog w = .ok (.enter fid args) w)
    (HTP : Hid (∀ w, Calls Tryd.prog 81 #[.agg #[.bool (neg), .int .i64 (z), .int .u64 (dgl (s) 0 : Nat), .int .u64 (dgl (s) 1 : Nat), .int .u64 (dgl (s) 2 : Nat), .int .u64 (dgl (s) 3 : Nat), .int .u64 (dgl (s) 4 : Nat), .int .u64 (dgl (s) 5 : Nat), .int .u64 (dgl (s) 6 : Nat), .int .u64 (dgl (s) 7 : Nat)]] w fun e w' => e = .returned (.int .i64 tp) ∧ Below w.heap.size w w'))
    (HCL : Hid (∀ w, C0 w → Calls Tryd.prog fid (#[.int .i64 tp] ++ caps) w fun e w' => e = .returned (.int .i64 la) ∧ Below w.heap.size w w'))
    (hz : -4000000 ≤ z ∧ z ≤ 4000000) (hla : -10000000 ≤ la ∧ la ≤ 10000000) (HBY : Hid (max (la - z) 0 = by_))
    (HCU : Hid (∀ w, Calls Tryd.prog 118 #[.agg #[.int .u64 (dgl (s) 0 : Nat), .int .u64 (dgl (s) 1 : Nat), .int .u64 (dgl (s) 2 : Nat), .int .u64 (dgl (s) 3 : Nat), .int .u64 (dgl (s) 4 : Nat), .int .u64 (dgl (s) 5 : Nat), .int .u64 (dgl (s) 6 : Nat), .int .u64 (dgl (s) 7 : Nat)], .int .i64 by_, .bool more, .int .i64 m, .bool neg] w fun e w' => e = .returned (.tuple #[.agg #[.int .u64 (dgl (q) 0 : Nat), .int .u64 (dgl (q) 1 : Nat), .int .u64 (dgl (q) 2 : Nat), .int .u64 (dgl (q) 3 : Nat), .int .u64 (dgl (q) 4 : Nat), .int .u64 (dgl (q) 5 : Nat), .int .u64 (dgl (q) 6 : Nat), .int .u64 (dgl (q) 7 : Nat)], .bool off]) ∧ Below w.heap.size w w')) (w : World) (hc0 : C0 w) :
    Calls Tryd.prog 61 #[.int .i64 m, .agg #[.bool (neg), .int .i64 (z), .int .u64 (dgl (s) 0 : Nat), .int .u64 (dgl (s) 1 : Nat), .int .u64 (dgl (s) 2 : Nat), .int .u64 (dgl (s) 3 : Nat), .int .u64 (dgl (s) 4 : Nat), .int .u64 (dgl (s) 5 : Nat), .int .u64 (dgl (s) 6 : Nat), .int .u64 (dgl (s) 7 : Nat)], .bool more, .func (.func fid) #[] caps] w fun e w' => e = .returned (.tuple #[.agg #[.bool (neg), .int .i64 (z + by_), .int .u64 (dgl (q) 0 : Nat), .int .u64 (dgl (q) 1 : Nat), .int .u64 (dgl (q) 2 : Nat), .int .u64 (dgl (q) 3 : Nat), .int .u64 (dgl (q) 4 : Nat), .int .u64 (dgl (q) 5 : Nat), .int .u64 (dgl (q) 6 : Nat), .int .u64 (dgl (q) 7 : Nat)], .bool off]) ∧ Below w.heap.size w w' := by
  have HS := hide (show PoSt neg z s w _ ∧ C0 _ from ⟨poSt_start neg z s w, hC0s _ _ (hC0s _ _ hc0 (below_allocs _ (.cells #[.bool (neg), .int .i64 (z), .int .u64 (dgl (s) 0 : Nat), .int .u64 (dgl (s) 1 : Nat), .int .u64 (dgl (s) 2 : Nat), .int .u64 (dgl (s) 3 : Nat), .int .u64 (dgl (s) 4 : Nat), .int .u64 (dgl (s) 5 : Nat), .int .u64 (dgl (s) 6 : Nat), .int .u64 (dgl (s) 7 : Nat)] 26))) (below_allocs _ (.cells #[.bool false, .int .i64 0, .int .u64 0, .int .u64 0, .int .u64 0, .int .u64 0, .int .u64 0, .int .u64 0, .int .u64 0, .int .u64 0] 26))⟩)
  clear hc0
  have hby : -20000000 ≤ by_ ∧ by_ ≤ 20000000 := by have := HBY.out; omega
  go_enter Tryd.func61, Tryd.ntmps61
  go_upto_region 1 with fail
  refine wp_gen (fun W => PoSt neg z s w W ∧ C0 W) HS.out ?_
  clear HS
  rintro W1 h1
  refine wp_region_grow 9 [(13, .val (.func (.func fid) #[] caps)), (14, .val (.agg #[.bool (neg), .int .i64 (z), .int .u64 (dgl (s) 0 : Nat), .int .u64 (dgl (s) 1 : Nat), .int .u64 (dgl (s) 2 : Nat), .int .u64 (dgl (s) 3 : Nat), .int .u64 (dgl (s) 4 : Nat), .int .u64 (dgl (s) 5 : Nat), .int .u64 (dgl (s) 6 : Nat), .int .u64 (dgl (s) 7 : Nat)])), (15, .val (.int .i64 tp)), (16, .val (.int .i64 la)), (17, .val (.pointer (some ⟨w.heap.size, 1, none⟩))), (18, .val (.int .i64 z)), (19, .val (.int .i64 (la - z))), (20, .val (.int .i64 by_)), (10, .val (.int .i64 by_))]
    (fun W => PoSt neg z s w W ∧ C0 W) mixedOk (by kernel_rfl) (by kernel_rfl) (⟨h1.1.below (Below.refl _ _).drew, hC0s _ _ h1.2 (Below.refl _ _).drew⟩) (fun W W' h hb => ⟨h.1.below hb, hC0s _ _ h.2 hb⟩) ?_ ?_
  · refine gSt (gStep_run rfl (gRun_move 3 13 (.inl rfl) rfl (by decide +kernel) (fun v w h => h))) ?_
    refine gSt (gStep_run rfl ?_) ?_
    · intro ρ W hC hc hf hL
      have e5 : ρ (.tmp 5) = .pointer (some ⟨w.heap.size, 0, none⟩) := hL 5 (by decide +kernel)
      have ln := hC.1.n.n
      have le := hC.1.n.e
      have l0 := hC.1.n.x0
      have l1 := hC.1.n.x1
      have l2 := hC.1.n.x2
      have l3 := hC.1.n.x3
      have l4 := hC.1.n.x4
      have l5 := hC.1.n.x5
      have l6 := hC.1.n.x6
      have l7 := hC.1.n.x7
      simp [go_sem, hc, hf, e5, ln, le, l0, l1, l2, l3, l4, l5, l6, l7]
      exact ⟨Below.refl _ _, rfl⟩
    refine gSt (gStep_run rfl ?_) ?_
    · intro ρ W hC hc hf hL
      have e14 : ρ (.tmp 14) = .agg #[.bool (neg), .int .i64 (z), .int .u64 (dgl (s) 0 : Nat), .int .u64 (dgl (s) 1 : Nat), .int .u64 (dgl (s) 2 : Nat), .int .u64 (dgl (s) 3 : Nat), .int .u64 (dgl (s) 4 : Nat), .int .u64 (dgl (s) 5 : Nat), .int .u64 (dgl (s) 6 : Nat), .int .u64 (dgl (s) 7 : Nat)] := hL 14 (by decide +kernel)
      simp [go_sem, hc, hf, e14]
      refine (HTP.out W).mono ?_
      rintro e w' ⟨rfl, hb⟩
      exact ⟨_, rfl, by first | exact hb | (subst hb; exact Below.refl _ _), rfl⟩
    refine gSt (gStep_run rfl ?_) ?_
    · intro ρ W hC hc hf hL
      have e13 : ρ (.tmp 13) = .func (.func fid) #[] caps := hL 13 (by decide +kernel)
      have e15 : ρ (.tmp 15) = .int .i64 tp := hL 15 (by decide +kernel)
      have he := hent
      simp [go_sem, hc, hf, e13, e15, he]
      refine (HCL.out W hC.2).mono ?_
      rintro e w' ⟨rfl, hb⟩
      exact ⟨_, rfl, by first | exact hb | (subst hb; exact Below.refl _ _), rfl⟩
    refine gSt (gStep_run rfl ?_) ?_
    · intro ρ W hC hc hf hL
      have e5 : ρ (.tmp 5) = .pointer (some ⟨w.heap.size, 0, none⟩) := hL 5 (by decide +kernel)
      simp [go_sem, hc, hf, e5]
      exact ⟨Below.refl _ _, rfl⟩
    refine gSt (gStep_run rfl ?_) ?_
    · intro ρ W hC hc hf hL
      have e17 : ρ (.tmp 17) = .pointer (some ⟨w.heap.size, 1, none⟩) := hL 17 (by decide +kernel)
      have le := hC.1.n.e
      simp [go_sem, hc, hf, e17, le]
      exact ⟨Below.refl _ _, rfl⟩
    refine gSt (gStep_run rfl ?_) ?_
    · intro ρ W hC hc hf hL
      have e16 : ρ (.tmp 16) = .int .i64 la := hL 16 (by decide +kernel)
      have e18 : ρ (.tmp 18) = .int .i64 z := hL 18 (by decide +kernel)
      have hw : IntKind.i64.wrap (la - z) = la - z := by rw [IntKind.wrap_i64]; omega
      simp [go_sem, hc, hf, e16, e18, hw]
      exact ⟨Below.refl _ _, rfl⟩
    refine gSt (gStep_run rfl ?_) ?_
    · intro ρ W hC hc hf hL
      have e19 : ρ (.tmp 19) = .int .i64 (la - z) := hL 19 (by decide +kernel)
      have hb := HBY.out
      simp [go_sem, hc, hf, e19, hb]
      exact ⟨Below.refl _ _, rfl⟩
    refine gSt (gStep_run rfl (gRun_move 20 10 (.inr rfl) rfl (by decide +kernel) (fun v w h => h))) ?_
    exact gSt0
  · intro W hC
    refine gFi 13 rfl ?_
    rintro _ rfl
    refine gFi 14 rfl ?_
    rintro _ rfl
    refine gFi 15 rfl ?_
    rintro _ rfl
    refine gFi 16 rfl ?_
    rintro _ rfl
    refine gFi 17 rfl ?_
    rintro _ rfl
    refine gFi 18 rfl ?_
    rintro _ rfl
    refine gFi 19 rfl ?_
    rintro _ rfl
    refine gFi 20 rfl ?_
    rintro _ rfl
    refine gFi 10 rfl ?_
    rintro _ rfl
    refine gFi0 ?_
    simp only [List.drop_succ_cons, List.drop_zero, Act.put, List.setIfInBounds_toArray, List.set_cons_succ, List.set_cons_zero]
    have HS := hide hC.1
    clear hC h1
    have ln := HS.out.n.n
    have le := HS.out.n.e
    have l0 := HS.out.n.x0
    have l1 := HS.out.n.x1
    have l2 := HS.out.n.x2
    have l3 := HS.out.n.x3
    have l4 := HS.out.n.x4
    have l5 := HS.out.n.x5
    have l6 := HS.out.n.x6
    have l7 := HS.out.n.x7
    go_wp2_with fail
    refine (HCU.out _).mono ?_
    rintro e w2 ⟨rfl, hb2⟩
    replace HS := hide (HS.out.below hb2)
    clear hb2 ln le l0 l1 l2 l3 l4 l5 l6 l7
    go_upto_region 3 with fail
    refine wp_gen (fun W => PoSt neg z s w W ∧ LiesF W w2.heap.size (dgl q)) ⟨HS.out.below (below_allocs _ _), liesF_new _ _ _⟩ ?_
    clear HS
    generalize w2.heap.size = p11 at *
    rintro W3 ⟨g1, g2⟩
    have HS := hide g1
    have y := g2.1
    clear g1 g2
    have ln := HS.out.n.n
    have le := HS.out.n.e
    have hw : IntKind.i64.wrap (z + by_) = z + by_ := by rw [IntKind.wrap_i64]; omega
    have rn := HS.out.r.n
    have re := HS.out.r.e
    have r0 := HS.out.r.x0
    have r1 := HS.out.r.x1
    have r2 := HS.out.r.x2
    have r3 := HS.out.r.x3
    have r4 := HS.out.r.x4
    have r5 := HS.out.r.x5
    have r6 := HS.out.r.x6
    have r7 := HS.out.r.x7
    have hrf := HS.out.fr
    have hlt := HS.out.lt
    have HB := hide HS.out.bel
    clear HS
    go_wp2
    exact bodyPost_ret (v := .tuple #[.agg #[.bool (neg), .int .i64 (z + by_), .int .u64 (dgl (q) 0 : Nat), .int .u64 (dgl (q) 1 : Nat), .int .u64 (dgl (q) 2 : Nat), .int .u64 (dgl (q) 3 : Nat), .int .u64 (dgl (q) 4 : Nat), .int .u64 (dgl (q) 5 : Nat), .int .u64 (dgl (q) 6 : Nat), .int .u64 (dgl (q) 7 : Nat)], .bool off]) (by simp [results, Tryd.results61, go_sem, hlt, rn, re, r0, r1, r2, r3, r4, r5, r6, r7]) rfl ⟨rfl, ((((((((((HB.out.setCell (p := ⟨w.heap.size + 1, 0, none⟩) (Nat.le_succ _) _).setCell (p := ⟨w.heap.size + 1, 1, none⟩) (Nat.le_succ _) _).setCell (p := ⟨w.heap.size + 1, 2, none⟩) (Nat.le_succ _) _).setCell (p := ⟨w.heap.size + 1, 3, none⟩) (Nat.le_succ _) _).setCell (p := ⟨w.heap.size + 1, 4, none⟩) (Nat.le_succ _) _).setCell (p := ⟨w.heap.size + 1, 5, none⟩) (Nat.le_succ _) _).setCell (p := ⟨w.heap.size + 1, 6, none⟩) (Nat.le_succ _) _).setCell (p := ⟨w.heap.size + 1, 7, none⟩) (Nat.le_succ _) _).setCell (p := ⟨w.heap.size + 1, 8, none⟩) (Nat.le_succ _) _).setCell (p := ⟨w.heap.size + 1, 9, none⟩) (Nat.le_succ _) _)⟩

end Go.Proofs.YtpcjdllijkjdkaaDoor

