/- ModeCuts: for every wide, n and three ints the law returns true. -/
import Derived.Test.YtidfegilddlglabXModD
import Derived.Test.YtidfegilddlglabRows
import Derived.WalkKit
import Derived.ProofKit
import Derived.OpenShut
import Derived.ShutString
import Derived.ChangeOld
import Derived.Below
/- The walk of ModeCuts. -/
set_option linter.unusedVariables false
set_option linter.unusedSimpArgs false
set_option maxRecDepth 8000
namespace Go.Proofs.Ytidfegilddlglab
open Go.RowKit Plain

structure QtSt (a : Nat) (q0 q1 q2 : Int) (w W : World) : Prop where
  la : LiesF W w.heap.size (dgl a)
  c0 : W.cell? ⟨w.heap.size + 1, 0, none⟩ = some (.int .i64 q0)
  c1 : W.cell? ⟨w.heap.size + 1, 1, none⟩ = some (.int .i64 q1)
  c2 : W.cell? ⟨w.heap.size + 1, 2, none⟩ = some (.int .i64 q2)
  lt : w.heap.size + 1 < W.heap.size
  bel : Below w.heap.size w W
theorem QtSt.below {a : Nat} {q0 q1 q2 : Int} {w W W' : World} (h : QtSt a q0 q1 q2 w W) (hb : Below W.heap.size W W') : QtSt a q0 q1 q2 w W' :=
  ⟨h.la.below hb, (hb.cell (p := ⟨w.heap.size + 1, 0, none⟩) h.lt).trans h.c0, (hb.cell (p := ⟨w.heap.size + 1, 1, none⟩) h.lt).trans h.c1, (hb.cell (p := ⟨w.heap.size + 1, 2, none⟩) h.lt).trans h.c2, Nat.lt_of_lt_of_le h.lt hb.size, below_trans h.bel hb⟩
theorem qtSt_start (a : Nat) (q0 q1 q2 : Int) (w : World) : QtSt a q0 q1 q2 w ((w.alloc (.cells #[.int .u64 (dgl (a) 0 : Nat), .int .u64 (dgl (a) 1 : Nat), .int .u64 (dgl (a) 2 : Nat), .int .u64 (dgl (a) 3 : Nat), .int .u64 (dgl (a) 4 : Nat), .int .u64 (dgl (a) 5 : Nat), .int .u64 (dgl (a) 6 : Nat), .int .u64 (dgl (a) 7 : Nat)] 24)).alloc (.cells #[.int .i64 q0, .int .i64 q1, .int .i64 q2] 31)) :=
  ⟨(liesF_new w (dgl a) 24).alloc _, by simp [go_sem], by simp [go_sem], by simp [go_sem], by simp, below_trans (below_allocs _ _) (below_allocs _ _)⟩

set_option maxHeartbeats 1000000 in
theorem modeCuts_walk (a s : Nat) (n q0 q1 q2 : Int) (is : Bool)
    (HC1 : Hid (∀ w, Calls Try.prog 12 #[.agg #[.int .u64 (dgl (a) 0 : Nat), .int .u64 (dgl (a) 1 : Nat), .int .u64 (dgl (a) 2 : Nat), .int .u64 (dgl (a) 3 : Nat), .int .u64 (dgl (a) 4 : Nat), .int .u64 (dgl (a) 5 : Nat), .int .u64 (dgl (a) 6 : Nat), .int .u64 (dgl (a) 7 : Nat)], .int .i64 n, .bool (q0.tmod 2 == 0), .int .i64 q2, .bool (q1.tmod 2 == 0)] w fun e w' => e = .returned (.tuple #[.agg #[.int .u64 (dgl (s) 0 : Nat), .int .u64 (dgl (s) 1 : Nat), .int .u64 (dgl (s) 2 : Nat), .int .u64 (dgl (s) 3 : Nat), .int .u64 (dgl (s) 4 : Nat), .int .u64 (dgl (s) 5 : Nat), .int .u64 (dgl (s) 6 : Nat), .int .u64 (dgl (s) 7 : Nat)], .bool is]) ∧ Below w.heap.size w w'))
    (HC2 : Hid (∀ w, Calls Try.prog 13 #[.agg #[.int .u64 (dgl (a) 0 : Nat), .int .u64 (dgl (a) 1 : Nat), .int .u64 (dgl (a) 2 : Nat), .int .u64 (dgl (a) 3 : Nat), .int .u64 (dgl (a) 4 : Nat), .int .u64 (dgl (a) 5 : Nat), .int .u64 (dgl (a) 6 : Nat), .int .u64 (dgl (a) 7 : Nat)], .int .i64 n, .bool (q0.tmod 2 == 0), .int .i64 q2, .bool (q1.tmod 2 == 0)] w fun e w' => e = .returned (.tuple #[.agg #[.int .u64 (dgl (s) 0 : Nat), .int .u64 (dgl (s) 1 : Nat), .int .u64 (dgl (s) 2 : Nat), .int .u64 (dgl (s) 3 : Nat), .int .u64 (dgl (s) 4 : Nat), .int .u64 (dgl (s) 5 : Nat), .int .u64 (dgl (s) 6 : Nat), .int .u64 (dgl (s) 7 : Nat)], .bool is]) ∧ Below w.heap.size w w')) (w : World) : Calls Try.prog 4 #[.agg #[.int .u64 (dgl (a) 0 : Nat), .int .u64 (dgl (a) 1 : Nat), .int .u64 (dgl (a) 2 : Nat), .int .u64 (dgl (a) 3 : Nat), .int .u64 (dgl (a) 4 : Nat), .int .u64 (dgl (a) 5 : Nat), .int .u64 (dgl (a) 6 : Nat), .int .u64 (dgl (a) 7 : Nat)], .int .i64 n, .agg #[.int .i64 q0, .int .i64 q1, .int .i64 q2]] w fun e w' => e = .returned (.bool true) ∧ Below w.heap.size w w' := by
  have HST := hide (qtSt_start a q0 q1 q2 w)
  go_enter Try.func4, Try.ntmps4
  go_upto_region 1 with fail
  refine wp_gen (fun W => QtSt a q0 q1 q2 w W) HST.out ?_
  clear HST
  rintro W1 h1
  refine wp_region_grow 10 [(13, .val (.pointer (some ⟨w.heap.size + 1, 0, none⟩))), (14, .val (.int .i64 q0)), (15, .val (.int .i64 (q0.tmod 2))), (16, .val (.bool (q0.tmod 2 == 0))), (17, .val (.pointer (some ⟨w.heap.size + 1, 1, none⟩))), (18, .val (.int .i64 q1)), (19, .val (.int .i64 (q1.tmod 2))), (20, .val (.bool (q1.tmod 2 == 0))), (7, .val (.bool (q0.tmod 2 == 0))), (8, .val (.bool (q1.tmod 2 == 0)))]
    (fun W => QtSt a q0 q1 q2 w W) mixedOk (by kernel_rfl) (by kernel_rfl) (h1.below (Below.refl _ _).drew) (fun W W' h hb => h.below hb) ?_ ?_
  · refine gSt (gStep_run rfl ?_) ?_
    · intro ρ W hC hc hf hL
      have e5 : ρ (.tmp 5) = .pointer (some ⟨w.heap.size + 1, 0, none⟩) := hL 5 (by decide +kernel)
      have hl := hC.lt
      simp [go_sem, hc, hf, e5, hl]
      exact ⟨Below.refl _ _, rfl⟩
    refine gSt (gStep_run rfl ?_) ?_
    · intro ρ W hC hc hf hL
      have e13 : ρ (.tmp 13) = .pointer (some ⟨w.heap.size + 1, 0, none⟩) := hL 13 (by decide +kernel)
      have hl := hC.c0
      simp [go_sem, hc, hf, e13, hl]
      exact ⟨Below.refl _ _, rfl⟩
    refine gSt (gStep_run rfl ?_) ?_
    · intro ρ W hC hc hf hL
      have e14 : ρ (.tmp 14) = .int .i64 q0 := hL 14 (by decide +kernel)
      simp [go_sem, hc, hf, e14]
      exact ⟨Below.refl _ _, rfl⟩
    refine gSt (gStep_run rfl ?_) ?_
    · intro ρ W hC hc hf hL
      have e15 : ρ (.tmp 15) = .int .i64 (q0.tmod 2) := hL 15 (by decide +kernel)
      simp [go_sem, hc, hf, e15]
      exact ⟨Below.refl _ _, rfl⟩
    refine gSt (gStep_run rfl ?_) ?_
    · intro ρ W hC hc hf hL
      have e5 : ρ (.tmp 5) = .pointer (some ⟨w.heap.size + 1, 0, none⟩) := hL 5 (by decide +kernel)
      have hl := hC.lt
      simp [go_sem, hc, hf, e5, hl]
      exact ⟨Below.refl _ _, rfl⟩
    refine gSt (gStep_run rfl ?_) ?_
    · intro ρ W hC hc hf hL
      have e17 : ρ (.tmp 17) = .pointer (some ⟨w.heap.size + 1, 1, none⟩) := hL 17 (by decide +kernel)
      have hl := hC.c1
      simp [go_sem, hc, hf, e17, hl]
      exact ⟨Below.refl _ _, rfl⟩
    refine gSt (gStep_run rfl ?_) ?_
    · intro ρ W hC hc hf hL
      have e18 : ρ (.tmp 18) = .int .i64 q1 := hL 18 (by decide +kernel)
      simp [go_sem, hc, hf, e18]
      exact ⟨Below.refl _ _, rfl⟩
    refine gSt (gStep_run rfl ?_) ?_
    · intro ρ W hC hc hf hL
      have e19 : ρ (.tmp 19) = .int .i64 (q1.tmod 2) := hL 19 (by decide +kernel)
      simp [go_sem, hc, hf, e19]
      exact ⟨Below.refl _ _, rfl⟩
    refine gSt (gStep_run rfl (gRun_move 16 7 (.inr rfl) rfl (by decide +kernel) (fun v w h => h))) ?_
    refine gSt (gStep_run rfl (gRun_move 20 8 (.inr rfl) rfl (by decide +kernel) (fun v w h => h))) ?_
    exact gSt0
  · intro W hC
    refine gFi 13 rfl ?_
    rintro _ rfl
    refine gFi 14 rfl ?_
    rintro _ rfl
    refine gFi 15 rfl ?_
    rintro _ rfl
    refine gFi 16 rfl ?_
    rintro _ rfl
    refine gFi 17 rfl ?_
    rintro _ rfl
    refine gFi 18 rfl ?_
    rintro _ rfl
    refine gFi 19 rfl ?_
    rintro _ rfl
    refine gFi 20 rfl ?_
    rintro _ rfl
    refine gFi 7 rfl ?_
    rintro _ rfl
    refine gFi 8 rfl ?_
    rintro _ rfl
    refine gFi0 ?_
    simp only [List.drop_succ_cons, List.drop_zero, Act.put, List.setIfInBounds_toArray, List.set_cons_succ, List.set_cons_zero]
    have HST := hide hC
    clear hC h1
    have c2 := HST.out.c2
    have hlt := HST.out.lt
    have hl := HST.out.la.1
    go_wp2_with fail
    refine (HC1.out _).mono ?_
    rintro e w2 ⟨rfl, hb2⟩
    replace HST := hide (HST.out.below hb2)
    clear hb2 c2 hl hlt
    go_upto_region 3 with fail
    refine wp_gen (fun W => QtSt a q0 q1 q2 w W ∧ LiesF W w2.heap.size (dgl s)) ⟨HST.out.below (below_allocs _ _), liesF_new _ _ _⟩ ?_
    clear HST
    generalize w2.heap.size = p2
    rintro W2 ⟨h1, h2⟩
    have HST := hide h1
    have HL := hide h2
    clear h1 h2
    have c2 := HST.out.c2
    have hlt := HST.out.lt
    have hl := HST.out.la.1
    go_wp2_with fail
    refine (HC2.out _).mono ?_
    rintro e w3 ⟨rfl, hb3⟩
    replace HST := hide (HST.out.below hb3)
    replace HL := hide (HL.out.below hb3)
    clear hb3 c2 hl hlt
    go_upto_region 4 with fail
    refine wp_gen (fun W => LiesF W p2 (dgl s) ∧ LiesF W w3.heap.size (dgl s) ∧ Below w.heap.size w W) ⟨HL.out.below (below_allocs _ _), liesF_new _ _ _, below_trans HST.out.bel (below_allocs _ _)⟩ ?_
    clear HST HL
    generalize w3.heap.size = p3
    rintro W3 ⟨h1, h2, h3⟩
    have c1 := h1.1
    have c2 := h2.1
    have HB := hide h3
    clear h1 h2 h3
    go_wp2_with fail
    refine (awake8_any _).mono ?_
    rintro e w4 ⟨rfl, hb4⟩
    replace HB := hide (below_trans HB.out hb4)
    clear hb4 c1 c2
    go_wp2
    go_ret
    exact ⟨rfl, HB.out⟩

theorem modeCuts_all (a : Nat) (ha : a < QQ) (n q0 q1 q2 : Int) (hn : n ≤ 9223372036854775807) (w : World) : Calls Try.prog 4 #[.agg #[.int .u64 (dgl (a) 0 : Nat), .int .u64 (dgl (a) 1 : Nat), .int .u64 (dgl (a) 2 : Nat), .int .u64 (dgl (a) 3 : Nat), .int .u64 (dgl (a) 4 : Nat), .int .u64 (dgl (a) 5 : Nat), .int .u64 (dgl (a) 6 : Nat), .int .u64 (dgl (a) 7 : Nat)], .int .i64 n, .agg #[.int .i64 q0, .int .i64 q1, .int .i64 q2]] w fun e w' => e = .returned (.bool true) ∧ Below w.heap.size w w' := by
  by_cases hm : isM q2 = true
  · exact modeCuts_walk a _ n q0 q1 q2 _ (fun w => modeCut_yes a ha n q2 hn _ _ hm w) (fun w => refCut8_yes a ha n q2 _ _ hm w) w
  · have hm2 : isM q2 = false := by simpa using hm
    have h1 := fun w => modeCut_no a n q2 (q0.tmod 2 == 0) (q1.tmod 2 == 0) hm2 w
    have h2 := fun w => refCut8_no a n q2 (q0.tmod 2 == 0) (q1.tmod 2 == 0) hm2 w
    have hz : (.agg #[.int .u64 (dgl (0) 0 : Nat), .int .u64 (dgl (0) 1 : Nat), .int .u64 (dgl (0) 2 : Nat), .int .u64 (dgl (0) 3 : Nat), .int .u64 (dgl (0) 4 : Nat), .int .u64 (dgl (0) 5 : Nat), .int .u64 (dgl (0) 6 : Nat), .int .u64 (dgl (0) 7 : Nat)] : Value) = .agg #[.int .u64 0, .int .u64 0, .int .u64 0, .int .u64 0, .int .u64 0, .int .u64 0, .int .u64 0, .int .u64 0] := lit8 0 (by decide)
    rw [← hz] at h1 h2
    exact modeCuts_walk a 0 n q0 q1 q2 _ h1 h2 w

end Go.Proofs.Ytidfegilddlglab

/- ModeCuts: for every wide, n and three ints the law returns true. -/
namespace Go.Proofs.Ytidfegilddlglab.modeCuts
open Go.ChangeShapes Go.WideShapes Go.ChangeAt Go.RowKit Go.Proofs.Ytidfegilddlglab

theorem own : ownKnob Try.prog.godebug = none := by kernel_rfl
theorem laidOut : laidOutB Try.prog = true := by kernel_rfl

set_option maxRecDepth 100000 in
theorem lifted (os : Os) (started : os.Started) (H : Type) (enc : TypeId × Value → H) :
    ReturnsInHanded {} Try.checked os 4 .any (Rows.modeCutsSpec.pre6 enc Try.prog Try.f4 Rows.modeCutsRow.domain false) (Rows.modeCutsSpec.post enc Try.prog Try.f4 false true false false) := by
  refine returnsInHanded_of_change (C := Try.checked) own started (by kernel_rfl) Try.func4
    (ChangeSpec.witness6 (enc := enc) (C := Try.checked) false ⟨#[], #[.agg #[.int .u64 0, .int .u64 0, .int .u64 0, .int .u64 0, .int .u64 0, .int .u64 0, .int .u64 0, .int .u64 0], .int .i64 0, .agg #[.int .i64 0, .int .i64 0, .int .i64 0]], []⟩ 40 (by kernel_rfl) (by kernel_rfl) (by kernel_rfl) (by kernel_rfl)) ?_
  intro W base args ds gs before hval0 hW hcnd _
  have hval : ∀ (j : Nat) t v, Try.f4.params[j]? = some t → args[j]? = some v → Value.okWide Try.prog W .any base t v := hval0
  have hW' := hW
  obtain ⟨p, q, hA0, hV, rfl, hfz, hnd⟩ := hW
  have hA : DataW.TrodAll enc Try.prog W 0 (fun _ => true) true Try.f4.params.toList args.toList ds p := hA0
  rw [Try.params4] at hA hval
  obtain ⟨v0, vs0, d0, ds0, p0, q0, hargs, rfl, rfl, h0, r0⟩ := trodAll_cons hA
  obtain ⟨v1, vs1, d1, ds1, p1, q1, rfl, rfl, rfl, h1, r1⟩ := trodAll_cons r0
  obtain ⟨v2, vs2, d2, ds2, p2, q2, rfl, rfl, rfl, h2, r2⟩ := trodAll_cons r1
  obtain ⟨rfl, rfl, rfl⟩ := trodAll_nil r2
  obtain rfl : args = #[v0, v1, v2] := by cases args; simp_all
  obtain ⟨rfl, rfl⟩ := trodVars_none hV
  have k0 := h0
  have lt0 : ∀ x ∈ p0, x.block < W.heap.size := by obtain ⟨m, hm⟩ := k0; exact DataW.trod_lt m _ _ _ hm
  have k1 := h1
  have lt1 : ∀ x ∈ p1, x.block < W.heap.size := by obtain ⟨m, hm⟩ := k1; exact DataW.trod_lt m _ _ _ hm
  have k2 := h2
  have lt2 : ∀ x ∈ p2, x.block < W.heap.size := by obtain ⟨m, hm⟩ := k2; exact DataW.trod_lt m _ _ _ hm
  obtain ⟨x0, hx0, rfl⟩ := wide_of_trod (hval 0 24 v0 rfl rfl) h0
  obtain ⟨a1, rfl, rfl, rfl, wf1⟩ := open_int Try.underlying3 (hval 1 3 v1 rfl rfl) h1
  obtain ⟨q20, q21, q22, ⟨bq20, bq21, bq22⟩, rfl⟩ := ints3_open (hval 2 31 v2 rfl rfl) h2
  clear hA0 hval0
  refine (modeCuts_all x0 hx0 a1 q20 q21 q22 (i64_bd wf1).2 W).mono fun e W' ⟨he, bel⟩ => ?_
  subst he
  exact ⟨_, rfl, _, _, _, [], _, [], hW', trodAll_mk1 (shut_bool Try.underlying4 _), (trodAll_cons_mk (Below.trod laidOut (by kernel_rfl) (of_decide_eq_true (by kernel_rfl)) k0 bel lt0) (trodAll_cons_mk (Below.trod laidOut (by kernel_rfl) (of_decide_eq_true (by kernel_rfl)) k1 bel lt1) (trodAll_cons_mk (Below.trod laidOut (by kernel_rfl) (of_decide_eq_true (by kernel_rfl)) k2 bel lt2) trodAll_mk0))), rfl, bel.frame _, fun h => by cases h⟩

theorem over : Rows.modeCutsRow.holds Try.pinned (OpenSpec.ofChange Rows.modeCutsSpec) :=
  OpenClaim.holds_of_wide 4 Try.f4 rfl rfl rfl rfl rfl rfl rfl ⟨rfl, rfl, rfl, rfl, rfl⟩ rfl rfl rfl rfl rfl (by kernel_rfl) Try.func4 (by kernel_rfl)
    (of_decide_eq_true (by kernel_rfl)) (by unfold Func.isWrapper; first | (rw [if_pos (by decide +kernel)]; kernel_rfl) | (rw [if_neg (by decide +kernel)]; exact ⟨rfl, rfl⟩))
    (fun os started H enc _ => lifted os started H enc)

theorem proved : Rows.ModeCutsSaid := over
#print axioms proved
end Go.Proofs.Ytidfegilddlglab.modeCuts

