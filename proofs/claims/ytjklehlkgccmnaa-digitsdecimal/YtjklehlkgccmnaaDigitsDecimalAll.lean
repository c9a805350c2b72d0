/- For all wides the law radicandlaw04.DigitsDecimal returns true, and its argument reads afterwards as it read before. No condition. -/
import Derived.Test.YtjklehlkgccmnaaBaseV
import Derived.Test.YtjklehlkgccmnaaRows
import Derived.WalkKit
import Derived.ProofKit
import Derived.OpenShut
import Derived.ShutString
import Derived.ChangeOld
import Derived.Below
/- For all wides the law radicandlaw04.DigitsDecimal returns true. -/
set_option linter.unusedVariables false
set_option linter.unusedSimpArgs false
set_option maxRecDepth 8000
namespace Go.Proofs.Ytjklehlkgccmnaa
open Go.RowKit Plain

set_option maxHeartbeats 2000000 in
theorem digitsDecimal_walk (a : Nat) (ha : a < QQ) (w : World) :
    Calls Try.prog 4 #[.agg #[.int .u64 (dgl (a) 0 : Nat), .int .u64 (dgl (a) 1 : Nat), .int .u64 (dgl (a) 2 : Nat), .int .u64 (dgl (a) 3 : Nat), .int .u64 (dgl (a) 4 : Nat), .int .u64 (dgl (a) 5 : Nat), .int .u64 (dgl (a) 6 : Nat), .int .u64 (dgl (a) 7 : Nat)]] w fun e w' => e = .returned (.bool true) ∧ Below w.heap.size w w' := by
  obtain ⟨n, hn⟩ := decN_ex a
  have hnb := decN_le hn ha
  have hT := textN_told (base := 10) (by decide) (by decide) a n hn.1 hn.2.1 hn.2.2 ha
  have HD := hide (fun w => decimal_any a n ha hn w)
  have hsz := textN_size 10 a n
  have HR : Hid (∀ w, Calls Try.prog 14 #[.string (textN 10 a n), .int .i64 10] w fun e w' => e = .returned (.tuple #[.agg #[.int .u64 (dgl (a) 0 : Nat), .int .u64 (dgl (a) 1 : Nat), .int .u64 (dgl (a) 2 : Nat), .int .u64 (dgl (a) 3 : Nat), .int .u64 (dgl (a) 4 : Nat), .int .u64 (dgl (a) 5 : Nat), .int .u64 (dgl (a) 6 : Nat), .int .u64 (dgl (a) 7 : Nat)], .int .i64 0]) ∧ Below w.heap.size w w') := fun w => ref4Read_any _ 10 a 0 (by decide) (by decide) (by omega) hT w
  have HP := hide (fun w => parseDecimal_any _ a 0 (by omega) hT w)
  clear hT
  generalize textN 10 a n = s at *
  have hl : ¬ (160 : Int) < (s.size : Int) := by omega
  have hs : (s.size : Int) ≤ 155 := by omega
  have haa := fun w => wide_same a w
  clear hn hsz hnb ha
  have HA := hide (liesF_new w (dgl a) 24)
  have HBL := hide (below_allocs w (.cells #[.int .u64 ((dgl a) 0 : Nat), .int .u64 ((dgl a) 1 : Nat), .int .u64 ((dgl a) 2 : Nat), .int .u64 ((dgl a) 3 : Nat), .int .u64 ((dgl a) 4 : Nat), .int .u64 ((dgl a) 5 : Nat), .int .u64 ((dgl a) 6 : Nat), .int .u64 ((dgl a) 7 : Nat)] 24))
  go_enter Try.func4, Try.ntmps4
  have hcHA := HA.out.1
  go_wp2_with fail
  refine (HD.out _).mono ?_
  rintro e w1 ⟨rfl, hb1⟩
  replace HA := hide (HA.out.below hb1)
  replace HBL := hide (below_trans HBL.out hb1)
  clear hcHA
  clear hb1
  go_wp2_with fail
  refine (HR.out _).mono ?_
  rintro e w2 ⟨rfl, hb2⟩
  replace HA := hide (HA.out.below hb2)
  replace HBL := hide (below_trans HBL.out hb2)
  clear hb2
  go_upto_region 5 with fail
  refine wp_gen (fun W => LiesF W (w.heap.size) (dgl a) ∧ Below w.heap.size w W ∧ LiesF W w2.heap.size (dgl a)) ⟨HA.out.below (below_allocs _ _), below_trans HBL.out (below_allocs _ _), liesF_new _ _ _⟩ ?_
  rintro W2 ⟨gHA, gHBL, gH4⟩
  generalize w2.heap.size = p4 at *
  replace HA := hide gHA
  replace HBL := hide gHBL
  have H4 := hide gH4
  clear gHA gHBL gH4
  go_wp2_with fail
  refine (HP.out _).mono ?_
  rintro e w3 ⟨rfl, hb3⟩
  replace HA := hide (HA.out.below hb3)
  replace HBL := hide (below_trans HBL.out hb3)
  replace H4 := hide (H4.out.below hb3)
  clear hb3
  go_upto_region 6 with fail
  refine wp_gen (fun W => LiesF W (w.heap.size) (dgl a) ∧ Below w.heap.size w W ∧ LiesF W (p4) (dgl a) ∧ LiesF W w3.heap.size (dgl a)) ⟨HA.out.below (below_allocs _ _), below_trans HBL.out (below_allocs _ _), H4.out.below (below_allocs _ _), liesF_new _ _ _⟩ ?_
  rintro W3 ⟨gHA, gHBL, gH4, gH6⟩
  generalize w3.heap.size = p6 at *
  replace HA := hide gHA
  replace HBL := hide gHBL
  replace H4 := hide gH4
  have H6 := hide gH6
  clear gHA gHBL gH4 gH6
  have hcHA := HA.out.1
  have hcH4 := H4.out.1
  have hcH6 := H6.out.1
  go_wp2_with fail
  refine (awake4_any _).mono ?_
  rintro e w' ⟨rfl, hb⟩
  replace HBL := hide (below_trans HBL.out hb)
  clear hb
  clear hcHA hcH4 hcH6
  go_wp2
  go_ret
  exact ⟨rfl, HBL.out⟩

end Go.Proofs.Ytjklehlkgccmnaa

/- For all wides the law radicandlaw04.DigitsDecimal returns true, and its argument reads afterwards as it read before. No condition. -/
namespace Go.Proofs.Ytjklehlkgccmnaa.digitsDecimal
open Go.ChangeShapes Go.WideShapes Go.ChangeAt Go.RowKit Go.Proofs.Ytjklehlkgccmnaa

theorem own : ownKnob Try.prog.godebug = none := by kernel_rfl
theorem laidOut : laidOutB Try.prog = true := by kernel_rfl

set_option maxRecDepth 100000 in
theorem lifted (os : Os) (started : os.Started) (H : Type) (enc : TypeId × Value → H) :
    ReturnsInHanded {} Try.checked os 4 .any (Rows.digitsDecimalSpec.pre6 enc Try.prog Try.f4 Rows.digitsDecimalRow.domain false) (Rows.digitsDecimalSpec.post enc Try.prog Try.f4 false true false false) := by
  refine returnsInHanded_of_change (C := Try.checked) own started (by kernel_rfl) Try.func4
    (ChangeSpec.witness6 (enc := enc) (C := Try.checked) false ⟨#[], #[.agg #[.int .u64 0, .int .u64 0, .int .u64 0, .int .u64 0, .int .u64 0, .int .u64 0, .int .u64 0, .int .u64 0]], []⟩ 40 (by kernel_rfl) (by kernel_rfl) (by kernel_rfl) (by kernel_rfl)) ?_
  intro W base args ds gs before hval0 hW hcnd _
  have hval : ∀ (j : Nat) t v, Try.f4.params[j]? = some t → args[j]? = some v → Value.okWide Try.prog W .any base t v := hval0
  have hW' := hW
  obtain ⟨p, q, hA0, hV, rfl, hfz, hnd⟩ := hW
  have hA : DataW.TrodAll enc Try.prog W 0 (fun _ => true) true Try.f4.params.toList args.toList ds p := hA0
  rw [Try.params4] at hA hval
  obtain ⟨v0, vs0, d0, ds0, p0, q0, hargs, rfl, rfl, h0, r0⟩ := trodAll_cons hA
  obtain ⟨rfl, rfl, rfl⟩ := trodAll_nil r0
  obtain rfl : args = #[v0] := by cases args; simp_all
  obtain ⟨rfl, rfl⟩ := trodVars_none hV
  have k0 := h0
  have lt0 : ∀ x ∈ p0, x.block < W.heap.size := by obtain ⟨m, hm⟩ := k0; exact DataW.trod_lt m _ _ _ hm
  obtain ⟨x0, hx0, rfl⟩ := wide_of_trod (hval 0 24 v0 rfl rfl) h0
  clear hA0 hval0
  refine (digitsDecimal_walk x0 hx0 W).mono fun e W' ⟨he, bel⟩ => ?_
  subst he
  exact ⟨_, rfl, _, _, _, [], _, [], hW', trodAll_mk1 (shut_bool Try.underlying4 _), (trodAll_cons_mk (Below.trod laidOut (by kernel_rfl) (of_decide_eq_true (by kernel_rfl)) k0 bel lt0) trodAll_mk0), rfl, bel.frame _, fun h => by cases h⟩

theorem over : Rows.digitsDecimalRow.holds Try.pinned (OpenSpec.ofChange Rows.digitsDecimalSpec) :=
  OpenClaim.holds_of_wide 4 Try.f4 rfl rfl rfl rfl rfl rfl rfl ⟨rfl, rfl, rfl, rfl, rfl⟩ rfl rfl rfl rfl rfl (by kernel_rfl) Try.func4 (by kernel_rfl)
    (of_decide_eq_true (by kernel_rfl)) (by unfold Func.isWrapper; first | (rw [if_pos (by decide +kernel)]; kernel_rfl) | (rw [if_neg (by decide +kernel)]; exact ⟨rfl, rfl⟩))
    (fun os started H enc _ => lifted os started H enc)

theorem proved : Rows.DigitsDecimalSaid := over
#print axioms proved
end Go.Proofs.Ytjklehlkgccmnaa.digitsDecimal

