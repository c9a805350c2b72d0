/- For all texts the law radicandlaw04.DigitsRead returns true, and its argument reads afterwards as it read before. No condition. -/
import Derived.Test.YtjklehlkgccmnaaBaseV
import Derived.Test.YtjklehlkgccmnaaRows
import Derived.WalkKit
import Derived.ProofKit
import Derived.OpenShut
import Derived.ShutString
import Derived.ChangeOld
import Derived.Below
import Derived.ChangeMaps5
/- For all texts the law radicandlaw04.DigitsRead returns true. -/
set_option linter.unusedVariables false
set_option linter.unusedSimpArgs false
set_option maxRecDepth 8000
namespace Go.Proofs.Ytjklehlkgccmnaa
open Go.RowKit Plain

set_option maxHeartbeats 2000000 in
theorem digitsRead_walk (s : ByteArray) (hs : s.size ≤ 9223372036854775807) (w : World) :
    Calls Try.prog 5 #[.string s] w fun e w' => e = .returned (.bool true) ∧ Below w.heap.size w w' := by
  have hs' : (s.size : Int) ≤ 9223372036854775807 := by omega
  by_cases hlong : 200 < s.size
  · have hl : (200 : Int) < (s.size : Int) := by omega
    go_enter Try.func5, Try.ntmps5
    go_wp2_with fail
    refine (awake4_any _).mono ?_
    rintro e w' ⟨rfl, hb⟩
    have HB := hide hb
    clear hb
    go_wp2
    go_ret
    exact ⟨rfl, HB.out⟩
  · have hl : ¬ (200 : Int) < (s.size : Int) := by omega
    obtain ⟨x, c, hT⟩ := told_ex (plainN 16 s) 16 s
    obtain ⟨y, d, hU⟩ := told_ex (plainN 10 s) 10 s
    have HPH := hide (fun w => parseHex_any s x c (by omega) hT w)
    have HRH : Hid (∀ w, Calls Try.prog 14 #[.string s, .int .i64 16] w fun e w' => e = .returned (.tuple #[.agg #[.int .u64 (dgl (x) 0 : Nat), .int .u64 (dgl (x) 1 : Nat), .int .u64 (dgl (x) 2 : Nat), .int .u64 (dgl (x) 3 : Nat), .int .u64 (dgl (x) 4 : Nat), .int .u64 (dgl (x) 5 : Nat), .int .u64 (dgl (x) 6 : Nat), .int .u64 (dgl (x) 7 : Nat)], .int .i64 c]) ∧ Below w.heap.size w w') := fun w => ref4Read_any s 16 x c (by decide) (by decide) (by omega) hT w
    have HPD := hide (fun w => parseDecimal_any s y d (by omega) hU w)
    have HRD : Hid (∀ w, Calls Try.prog 14 #[.string s, .int .i64 10] w fun e w' => e = .returned (.tuple #[.agg #[.int .u64 (dgl (y) 0 : Nat), .int .u64 (dgl (y) 1 : Nat), .int .u64 (dgl (y) 2 : Nat), .int .u64 (dgl (y) 3 : Nat), .int .u64 (dgl (y) 4 : Nat), .int .u64 (dgl (y) 5 : Nat), .int .u64 (dgl (y) 6 : Nat), .int .u64 (dgl (y) 7 : Nat)], .int .i64 d]) ∧ Below w.heap.size w w') := fun w => ref4Read_any s 10 y d (by decide) (by decide) (by omega) hU w
    have hxx := fun w => wide_same x w
    have hyy := fun w => wide_same y w
    clear hT hU hs hlong
    have HBL := hide (Below.refl w.heap.size w)
    go_enter Try.func5, Try.ntmps5
    go_wp2_with fail
    refine (HPH.out _).mono ?_
    rintro e w1 ⟨rfl, hb1⟩
    replace HBL := hide (below_trans HBL.out hb1)
    clear hb1
    go_upto_region 4 with fail
    refine wp_gen (fun W => Below w.heap.size w W ∧ LiesF W w1.heap.size (dgl x)) ⟨below_trans HBL.out (below_allocs _ _), liesF_new _ _ _⟩ ?_
    rintro W1 ⟨gHBL, gH3⟩
    generalize w1.heap.size = p3 at *
    replace HBL := hide gHBL
    have H3 := hide gH3
    clear gHBL gH3
    go_wp2_with fail
    refine (HRH.out _).mono ?_
    rintro e w2 ⟨rfl, hb2⟩
    replace HBL := hide (below_trans HBL.out hb2)
    replace H3 := hide (H3.out.below hb2)
    clear hb2
    go_upto_region 5 with fail
    refine wp_gen (fun W => Below w.heap.size w W ∧ LiesF W (p3) (dgl x) ∧ LiesF W w2.heap.size (dgl x)) ⟨below_trans HBL.out (below_allocs _ _), H3.out.below (below_allocs _ _), liesF_new _ _ _⟩ ?_
    rintro W2 ⟨gHBL, gH3, gH5⟩
    generalize w2.heap.size = p5 at *
    replace HBL := hide gHBL
    replace H3 := hide gH3
    have H5 := hide gH5
    clear gHBL gH3 gH5
    go_wp2_with fail
    refine (HPD.out _).mono ?_
    rintro e w3 ⟨rfl, hb3⟩
    replace HBL := hide (below_trans HBL.out hb3)
    replace H3 := hide (H3.out.below hb3)
    replace H5 := hide (H5.out.below hb3)
    clear hb3
    go_upto_region 6 with fail
    refine wp_gen (fun W => Below w.heap.size w W ∧ LiesF W (p3) (dgl x) ∧ LiesF W (p5) (dgl x) ∧ LiesF W w3.heap.size (dgl y)) ⟨below_trans HBL.out (below_allocs _ _), H3.out.below (below_allocs _ _), H5.out.below (below_allocs _ _), liesF_new _ _ _⟩ ?_
    rintro W3 ⟨gHBL, gH3, gH5, gH7⟩
    generalize w3.heap.size = p7 at *
    replace HBL := hide gHBL
    replace H3 := hide gH3
    replace H5 := hide gH5
    have H7 := hide gH7
    clear gHBL gH3 gH5 gH7
    go_wp2_with fail
    refine (HRD.out _).mono ?_
    rintro e w4 ⟨rfl, hb4⟩
    replace HBL := hide (below_trans HBL.out hb4)
    replace H3 := hide (H3.out.below hb4)
    replace H5 := hide (H5.out.below hb4)
    replace H7 := hide (H7.out.below hb4)
    clear hb4
    go_upto_region 7 with fail
    refine wp_gen (fun W => Below w.heap.size w W ∧ LiesF W (p3) (dgl x) ∧ LiesF W (p5) (dgl x) ∧ LiesF W (p7) (dgl y) ∧ LiesF W w4.heap.size (dgl y)) ⟨below_trans HBL.out (below_allocs _ _), H3.out.below (below_allocs _ _), H5.out.below (below_allocs _ _), H7.out.below (below_allocs _ _), liesF_new _ _ _⟩ ?_
    rintro W4 ⟨gHBL, gH3, gH5, gH7, gH9⟩
    generalize w4.heap.size = p9 at *
    replace HBL := hide gHBL
    replace H3 := hide gH3
    replace H5 := hide gH5
    replace H7 := hide gH7
    have H9 := hide gH9
    clear gHBL gH3 gH5 gH7 gH9
    have hcH3 := H3.out.1
    have hcH5 := H5.out.1
    have hcH7 := H7.out.1
    have hcH9 := H9.out.1
    go_wp2_with fail
    refine (awake4_any _).mono ?_
    rintro e w' ⟨rfl, hb⟩
    replace HBL := hide (below_trans HBL.out hb)
    clear hb
    clear hcH3 hcH5 hcH7 hcH9
    go_wp2
    go_ret
    exact ⟨rfl, HBL.out⟩

end Go.Proofs.Ytjklehlkgccmnaa

/- For all texts the law radicandlaw04.DigitsRead returns true, and its argument reads afterwards as it read before. No condition. -/
namespace Go.Proofs.Ytjklehlkgccmnaa.digitsRead
open Go.ChangeShapes Go.WideShapes Go.ChangeAt Go.RowKit Go.Proofs.Ytjklehlkgccmnaa

theorem own : ownKnob Try.prog.godebug = none := by kernel_rfl
theorem laidOut : laidOutB Try.prog = true := by kernel_rfl

set_option maxRecDepth 100000 in
theorem lifted (os : Os) (started : os.Started) (H : Type) (enc : TypeId × Value → H) :
    ReturnsInHanded {} Try.checked os 5 .any (Rows.digitsReadSpec.pre6 enc Try.prog Try.f5 Rows.digitsReadRow.domain false) (Rows.digitsReadSpec.post enc Try.prog Try.f5 false true false false) := by
  refine returnsInHanded_of_change (C := Try.checked) own started (by kernel_rfl) Try.func5
    (ChangeSpec.witness6 (enc := enc) (C := Try.checked) false ⟨#[], #[.string ⟨#[]⟩], []⟩ 8 (by kernel_rfl) (by kernel_rfl) (by kernel_rfl) (by kernel_rfl)) ?_
  intro W base args ds gs before hval0 hW hcnd _
  have hval : ∀ (j : Nat) t v, Try.f5.params[j]? = some t → args[j]? = some v → Value.okWide Try.prog W .any base t v := hval0
  have hW' := hW
  obtain ⟨p, q, hA0, hV, rfl, hfz, hnd⟩ := hW
  have hA : DataW.TrodAll enc Try.prog W 0 (fun _ => true) true Try.f5.params.toList args.toList ds p := hA0
  rw [Try.params5] at hA hval
  obtain ⟨v0, vs0, d0, ds0, p0, q0, hargs, rfl, rfl, h0, r0⟩ := trodAll_cons hA
  obtain ⟨rfl, rfl, rfl⟩ := trodAll_nil r0
  obtain rfl : args = #[v0] := by cases args; simp_all
  obtain ⟨rfl, rfl⟩ := trodVars_none hV
  have k0 := h0
  have lt0 : ∀ x ∈ p0, x.block < W.heap.size := by obtain ⟨m, hm⟩ := k0; exact DataW.trod_lt m _ _ _ hm
  obtain ⟨s0, rfl, rfl, rfl, hm0⟩ := Go.ChangeMaps.open_string Try.underlying9 (hval 0 9 v0 rfl rfl) h0
  clear hA0 hval0
  have hs0 : s0.size ≤ 9223372036854775807 := by unfold maxLen at hm0; omega
  refine (digitsRead_walk s0 hs0 W).mono fun e W' ⟨he, bel⟩ => ?_
  subst he
  exact ⟨_, rfl, _, _, _, [], _, [], hW', trodAll_mk1 (shut_bool Try.underlying4 _), (trodAll_cons_mk (Below.trod laidOut (by kernel_rfl) (of_decide_eq_true (by kernel_rfl)) k0 bel lt0) trodAll_mk0), rfl, bel.frame _, fun h => by cases h⟩

theorem over : Rows.digitsReadRow.holds Try.pinned (OpenSpec.ofChange Rows.digitsReadSpec) :=
  OpenClaim.holds_of_wide 5 Try.f5 rfl rfl rfl rfl rfl rfl rfl ⟨rfl, rfl, rfl, rfl, rfl⟩ rfl rfl rfl rfl rfl (by kernel_rfl) Try.func5 (by kernel_rfl)
    (of_decide_eq_true (by kernel_rfl)) (by unfold Func.isWrapper; first | (rw [if_pos (by decide +kernel)]; kernel_rfl) | (rw [if_neg (by decide +kernel)]; exact ⟨rfl, rfl⟩))
    (fun os started H enc _ => lifted os started H enc)

theorem proved : Rows.DigitsReadSaid := over
#print axioms proved
end Go.Proofs.Ytjklehlkgccmnaa.digitsRead

