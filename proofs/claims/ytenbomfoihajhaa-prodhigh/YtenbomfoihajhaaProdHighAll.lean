/- For all wides and all ints the law radicandlaw03.ProdHigh returns true, and its arguments read afterwards as they read before. No condition. -/
import Derived.Test.YtenbomfoihajhaaBaseN
import Derived.Test.YtenbomfoihajhaaRows
import Derived.WalkKit
import Derived.ProofKit
import Derived.OpenShut
import Derived.ShutString
import Derived.ChangeOld
import Derived.Below
/- For all wides and all ints the law radicandlaw03.ProdHigh returns true. -/
set_option linter.unusedVariables false
set_option linter.unusedSimpArgs false
set_option maxRecDepth 8000
namespace Go.Proofs.Ytenbomfoihajhaa
open Go.RowKit Plain

set_option maxHeartbeats 4000000 in
theorem prodHigh_first (fa fb fh : Nat → Nat) (ab h bk k : Nat) (n c : Int) (rest o1 : Bool) (w : World)
    (HK : Hid ((k : Int) = min (max n 0) 1100))
    (HRAB : Hid (∀ w, Calls Try.prog 44 #[.agg #[.int .u64 (fa 0 : Nat), .int .u64 (fa 1 : Nat), .int .u64 (fa 2 : Nat), .int .u64 (fa 3 : Nat), .int .u64 (fa 4 : Nat), .int .u64 (fa 5 : Nat), .int .u64 (fa 6 : Nat), .int .u64 (fa 7 : Nat)], .agg #[.int .u64 (fb 0 : Nat), .int .u64 (fb 1 : Nat), .int .u64 (fb 2 : Nat), .int .u64 (fb 3 : Nat), .int .u64 (fb 4 : Nat), .int .u64 (fb 5 : Nat), .int .u64 (fb 6 : Nat), .int .u64 (fb 7 : Nat)]] w fun e w' => ∃ v, e = .returned v ∧ BigV w' v ab 80 ∧ Below w.heap.size w w'))
    (HDN : Hid (∀ v w, BigV w v ab 80 → Calls Try.prog 18 #[v, .int .i64 (k : Nat)] w fun e w' => ∃ v, e = .returned v ∧ BigV w' v h 80 ∧ Below w.heap.size w w'))
    (HWD : Hid (∀ v w, BigV w v h 80 → Calls Try.prog 15 #[v] w fun e w' => e = .returned (.tuple #[.agg #[.int .u64 (fh 0 : Nat), .int .u64 (fh 1 : Nat), .int .u64 (fh 2 : Nat), .int .u64 (fh 3 : Nat), .int .u64 (fh 4 : Nat), .int .u64 (fh 5 : Nat), .int .u64 (fh 6 : Nat), .int .u64 (fh 7 : Nat)], .bool o1]) ∧ Below w.heap.size w w'))
    (HHI : Hid (∀ w, Calls Try.prog 49 #[.agg #[.int .u64 (fa 0 : Nat), .int .u64 (fa 1 : Nat), .int .u64 (fa 2 : Nat), .int .u64 (fa 3 : Nat), .int .u64 (fa 4 : Nat), .int .u64 (fa 5 : Nat), .int .u64 (fa 6 : Nat), .int .u64 (fa 7 : Nat)], .agg #[.int .u64 (fb 0 : Nat), .int .u64 (fb 1 : Nat), .int .u64 (fb 2 : Nat), .int .u64 (fb 3 : Nat), .int .u64 (fb 4 : Nat), .int .u64 (fb 5 : Nat), .int .u64 (fb 6 : Nat), .int .u64 (fb 7 : Nat)], .int .i64 n] w fun e w' => e = .returned (.tuple #[.agg #[.int .u64 (fh 0 : Nat), .int .u64 (fh 1 : Nat), .int .u64 (fh 2 : Nat), .int .u64 (fh 3 : Nat), .int .u64 (fh 4 : Nat), .int .u64 (fh 5 : Nat), .int .u64 (fh 6 : Nat), .int .u64 (fh 7 : Nat)], .bool rest]) ∧ Below w.heap.size w w'))
    (HUP : Hid (∀ v w, BigV w v h 80 → Calls Try.prog 16 #[v, .int .i64 (k : Nat)] w fun e w' => ∃ v, e = .returned v ∧ BigV w' v bk 200 ∧ Below w.heap.size w w'))
    (HC : Hid (∀ x y w, BigV w x bk 200 → BigV w y ab 80 → Calls Try.prog 21 #[x, y] w fun e w' => e = .returned (.int .i64 c) ∧ w' = w))
    (hct : (c == 0) = !rest)
    (hhh : ∀ w, (Op.equalIn 10000 24 (.agg #[.int .u64 (fh 0 : Nat), .int .u64 (fh 1 : Nat), .int .u64 (fh 2 : Nat), .int .u64 (fh 3 : Nat), .int .u64 (fh 4 : Nat), .int .u64 (fh 5 : Nat), .int .u64 (fh 6 : Nat), .int .u64 (fh 7 : Nat)]) (.agg #[.int .u64 (fh 0 : Nat), .int .u64 (fh 1 : Nat), .int .u64 (fh 2 : Nat), .int .u64 (fh 3 : Nat), .int .u64 (fh 4 : Nat), .int .u64 (fh 5 : Nat), .int .u64 (fh 6 : Nat), .int .u64 (fh 7 : Nat)])).run Try.prog w = .ok true w) :
    Calls Try.prog 7 #[.agg #[.int .u64 (fa 0 : Nat), .int .u64 (fa 1 : Nat), .int .u64 (fa 2 : Nat), .int .u64 (fa 3 : Nat), .int .u64 (fa 4 : Nat), .int .u64 (fa 5 : Nat), .int .u64 (fa 6 : Nat), .int .u64 (fa 7 : Nat)], .agg #[.int .u64 (fb 0 : Nat), .int .u64 (fb 1 : Nat), .int .u64 (fb 2 : Nat), .int .u64 (fb 3 : Nat), .int .u64 (fb 4 : Nat), .int .u64 (fb 5 : Nat), .int .u64 (fb 6 : Nat), .int .u64 (fb 7 : Nat)], .int .i64 n] w fun e w' => e = .returned (.bool true) ∧ Below w.heap.size w w' := by
  have hct2 : (c != 0) = rest := by unfold bne; rw [hct, Bool.not_not]
  have HST := hide (TwoSt.start w fa fb)
  revert hct hct2
  cases rest
  all_goals
   intro hct hct2
   simp only [Bool.not_false, Bool.not_true] at hct
   go_enter Try.func7, Try.ntmps7
   go_upto_region 1 with fail
   refine wp_gen (fun W => TwoSt w fa fb W) HST.out ?_
   rintro W0 h0
   clear HST
   go_cut [7] (fun x wx => x = .int .i64 (k : Nat) ∧ wx = W0)
   case first =>
     go_wp2
     all_goals
       go_meet
       exact ⟨by rw [HK.out]; first | done | (congr 1; omega), rfl⟩
   case rest =>
     obtain ⟨rfl, rfl⟩ := hcut
     have HA := hide h0.la
     have HB := hide h0.lb
     have HBL := hide h0.bel
     clear h0
     have hcHA := HA.out.1
     have hcHB := HB.out.1
     go_wp2_with fail
     refine (HRAB.out _).mono ?_
     rintro e w1 ⟨v1, rfl, hv1, hb1⟩
     replace HA := hide (HA.out.below hb1)
     replace HB := hide (HB.out.below hb1)
     replace HBL := hide (below_trans HBL.out hb1)
     have HV1 := hide hv1
     clear hv1
     clear hcHA hcHB
     clear hb1
     go_wp2_with fail
     refine (HDN.out _ _ HV1.out).mono ?_
     rintro e w2 ⟨v2, rfl, hv2, hb2⟩
     replace HA := hide (HA.out.below hb2)
     replace HB := hide (HB.out.below hb2)
     replace HBL := hide (below_trans HBL.out hb2)
     replace HV1 := hide (HV1.out.below hb2)
     have HV2 := hide hv2
     clear hv2
     clear hb2
     go_wp2_with fail
     refine (HWD.out _ _ HV2.out).mono ?_
     rintro e w3 ⟨rfl, hb3⟩
     replace HA := hide (HA.out.below hb3)
     replace HB := hide (HB.out.below hb3)
     replace HBL := hide (below_trans HBL.out hb3)
     replace HV1 := hide (HV1.out.below hb3)
     replace HV2 := hide (HV2.out.below hb3)
     clear hb3
     go_upto_region 5 with fail
     refine wp_gen (fun W => LiesF W (w.heap.size) (fa) ∧ LiesF W (w.heap.size + 1) (fb) ∧ Below w.heap.size w W ∧ BigV W v1 (ab) (80) ∧ BigV W v2 (h) (80) ∧ LiesF W w3.heap.size (fh)) ⟨HA.out.below (below_allocs _ _), HB.out.below (below_allocs _ _), below_trans HBL.out (below_allocs _ _), HV1.out.below (below_allocs _ _), HV2.out.below (below_allocs _ _), liesF_new _ _ _⟩ ?_
     rintro W3 ⟨gHA, gHB, gHBL, gHV1, gHV2, gH10⟩
     generalize w3.heap.size = p10 at *
     replace HA := hide gHA
     replace HB := hide gHB
     replace HBL := hide gHBL
     replace HV1 := hide gHV1
     replace HV2 := hide gHV2
     have H10 := hide gH10
     clear gHA gHB gHBL gHV1 gHV2 gH10
     have hcHA := HA.out.1
     have hcHB := HB.out.1
     go_wp2_with fail
     refine (HHI.out _).mono ?_
     rintro e w4 ⟨rfl, hb4⟩
     replace HA := hide (HA.out.below hb4)
     replace HB := hide (HB.out.below hb4)
     replace HBL := hide (below_trans HBL.out hb4)
     replace HV1 := hide (HV1.out.below hb4)
     replace HV2 := hide (HV2.out.below hb4)
     replace H10 := hide (H10.out.below hb4)
     clear hcHA hcHB
     clear hb4
     go_upto_region 6 with fail
     refine wp_gen (fun W => LiesF W (w.heap.size) (fa) ∧ LiesF W (w.heap.size + 1) (fb) ∧ Below w.heap.size w W ∧ BigV W v1 (ab) (80) ∧ BigV W v2 (h) (80) ∧ LiesF W (p10) (fh) ∧ LiesF W w4.heap.size (fh)) ⟨HA.out.below (below_allocs _ _), HB.out.below (below_allocs _ _), below_trans HBL.out (below_allocs _ _), HV1.out.below (below_allocs _ _), HV2.out.below (below_allocs _ _), H10.out.below (below_allocs _ _), liesF_new _ _ _⟩ ?_
     rintro W4 ⟨gHA, gHB, gHBL, gHV1, gHV2, gH10, gH12⟩
     generalize w4.heap.size = p12 at *
     replace HA := hide gHA
     replace HB := hide gHB
     replace HBL := hide gHBL
     replace HV1 := hide gHV1
     replace HV2 := hide gHV2
     replace H10 := hide gH10
     have H12 := hide gH12
     clear gHA gHB gHBL gHV1 gHV2 gH10 gH12
     have hcH10 := H10.out.1
     have hcH12 := H12.out.1
     go_wp2_with fail
     refine (HUP.out _ _ HV2.out).mono ?_
     rintro e w5 ⟨v5, rfl, hv5, hb5⟩
     clear H10
     clear H12
     replace HA := hide (HA.out.below hb5)
     replace HB := hide (HB.out.below hb5)
     replace HBL := hide (below_trans HBL.out hb5)
     replace HV1 := hide (HV1.out.below hb5)
     replace HV2 := hide (HV2.out.below hb5)
     have HV3 := hide hv5
     clear hv5
     clear hcH10 hcH12
     clear hb5
     go_wp2_with fail
     refine (HC.out _ _ _ HV3.out HV1.out).mono ?_
     rintro e w6 ⟨rfl, hb6⟩
     subst hb6
     go_wp2_with fail
     refine (awake3_any _).mono ?_
     rintro e w7 ⟨rfl, hb7⟩
     replace HA := hide (HA.out.below hb7)
     replace HB := hide (HB.out.below hb7)
     replace HBL := hide (below_trans HBL.out hb7)
     replace HV1 := hide (HV1.out.below hb7)
     replace HV2 := hide (HV2.out.below hb7)
     replace HV3 := hide (HV3.out.below hb7)
     clear hb7
     go_wp2
     go_ret
     exact ⟨rfl, HBL.out⟩

theorem cmp_eq0 (x y : Nat) : (cmpN x y == 0) = decide (x = y) := by
  rw [Bool.eq_iff_iff, beq_iff_eq, decide_eq_true_iff]
  unfold cmpN
  constructor
  · intro h
    split at h
    · cases h
    · split at h
      · cases h
      · omega
  · intro h
    rw [h, if_neg (Nat.lt_irrefl _), if_neg (Nat.lt_irrefl _)]

theorem div_far (P k m q : Nat) (hq : 2 ^ q = QQ) (hm : m = min k 1100) (hq5 : q = 512) (hP : P < QQ * QQ) : P / 2 ^ k = P / 2 ^ m ∧ decide (P / 2 ^ k * 2 ^ k = P) = decide (P / 2 ^ m * 2 ^ m = P) := by
  rcases Nat.lt_or_ge 1100 k with h | h
  · have hm2 : m = 1100 := by omega
    have hlt : P < 2 ^ m := Nat.lt_of_lt_of_le hP (by rw [← hq, ← Nat.pow_add]; exact Nat.pow_le_pow_right (by decide) (by omega))
    have hlt2 : P < 2 ^ k := Nat.lt_of_lt_of_le hlt (Nat.pow_le_pow_right (by decide) (by omega))
    rw [Nat.div_eq_of_lt hlt, Nat.div_eq_of_lt hlt2, Nat.zero_mul, Nat.zero_mul]
    exact ⟨rfl, rfl⟩
  · have : m = k := by omega
    rw [this]
    exact ⟨rfl, rfl⟩

theorem prodHigh_walk (a b : Nat) (n : Int) (hn : n ≤ 9223372036854775807) (ha : a < QQ) (hb : b < QQ) (w : World) :
    Calls Try.prog 7 #[.agg #[.int .u64 (dgl (a) 0 : Nat), .int .u64 (dgl (a) 1 : Nat), .int .u64 (dgl (a) 2 : Nat), .int .u64 (dgl (a) 3 : Nat), .int .u64 (dgl (a) 4 : Nat), .int .u64 (dgl (a) 5 : Nat), .int .u64 (dgl (a) 6 : Nat), .int .u64 (dgl (a) 7 : Nat)], .agg #[.int .u64 (dgl (b) 0 : Nat), .int .u64 (dgl (b) 1 : Nat), .int .u64 (dgl (b) 2 : Nat), .int .u64 (dgl (b) 3 : Nat), .int .u64 (dgl (b) 4 : Nat), .int .u64 (dgl (b) 5 : Nat), .int .u64 (dgl (b) 6 : Nat), .int .u64 (dgl (b) 7 : Nat)], .int .i64 n] w fun e w' => e = .returned (.bool true) ∧ Below w.heap.size w w' := by
  obtain ⟨k, hk⟩ : ∃ k : Nat, (k : Int) = max n 0 := ⟨(max n 0).toNat, by omega⟩
  obtain ⟨m, hm⟩ : ∃ m : Nat, (m : Int) = min (max n 0) 1100 := ⟨(min (max n 0) 1100).toNat, by omega⟩
  have hd := div_far (a * b) k m 512 (qq_pow 512 rfl) (by omega) rfl (Nat.mul_lt_mul_of_lt_of_lt ha hb)
  have hH := fun w => prodHigh_any a b k n hk hn ha hb w
  rw [hd.2, hd.1] at hH
  refine prodHigh_first (dgl a) (dgl b) (dgl (a * b / 2 ^ m)) (a * b) (a * b / 2 ^ m) (a * b / 2 ^ m * 2 ^ m) m n (cmpN (a * b / 2 ^ m * 2 ^ m) (a * b)) _ _ w hm (fun w => ref3Mul_any a b ha hb w) (fun v w h => refShr_any _ 80 m v w h (by omega) (by omega)) (fun v w h => refWide_any _ _ v w h) hH
    (fun v w h => (refShl_any _ 80 m v w h (by omega) (by omega)).mono fun e w' ⟨v, h1, h2, h3⟩ => ⟨v, h1, h2.mono (by omega), h3⟩) (fun x y w hx hy => cmp_any _ _ _ _ x y w hx hy) ?_ (fun w => wide_sameF _ w)
  rw [cmp_eq0, Bool.not_not]

end Go.Proofs.Ytenbomfoihajhaa

/- For all wides and all ints the law radicandlaw03.ProdHigh returns true, and its arguments read afterwards as they read before. No condition. -/
namespace Go.Proofs.Ytenbomfoihajhaa.prodHigh
open Go.ChangeShapes Go.WideShapes Go.ChangeAt Go.RowKit Go.Proofs.Ytenbomfoihajhaa

theorem own : ownKnob Try.prog.godebug = none := by kernel_rfl
theorem laidOut : laidOutB Try.prog = true := by kernel_rfl

set_option maxRecDepth 100000 in
theorem lifted (os : Os) (started : os.Started) (H : Type) (enc : TypeId × Value → H) :
    ReturnsInHanded {} Try.checked os 7 .any (Rows.prodHighSpec.pre6 enc Try.prog Try.f7 Rows.prodHighRow.domain false) (Rows.prodHighSpec.post enc Try.prog Try.f7 false true false false) := by
  refine returnsInHanded_of_change (C := Try.checked) own started (by kernel_rfl) Try.func7
    (ChangeSpec.witness6 (enc := enc) (C := Try.checked) false ⟨#[], #[.agg #[.int .u64 0, .int .u64 0, .int .u64 0, .int .u64 0, .int .u64 0, .int .u64 0, .int .u64 0, .int .u64 0], .agg #[.int .u64 0, .int .u64 0, .int .u64 0, .int .u64 0, .int .u64 0, .int .u64 0, .int .u64 0, .int .u64 0], .int .i64 0], []⟩ 40 (by kernel_rfl) (by kernel_rfl) (by kernel_rfl) (by kernel_rfl)) ?_
  intro W base args ds gs before hval0 hW hcnd _
  have hval : ∀ (j : Nat) t v, Try.f7.params[j]? = some t → args[j]? = some v → Value.okWide Try.prog W .any base t v := hval0
  have hW' := hW
  obtain ⟨p, q, hA0, hV, rfl, hfz, hnd⟩ := hW
  have hA : DataW.TrodAll enc Try.prog W 0 (fun _ => true) true Try.f7.params.toList args.toList ds p := hA0
  rw [Try.params7] at hA hval
  obtain ⟨v0, vs0, d0, ds0, p0, q0, hargs, rfl, rfl, h0, r0⟩ := trodAll_cons hA
  obtain ⟨v1, vs1, d1, ds1, p1, q1, rfl, rfl, rfl, h1, r1⟩ := trodAll_cons r0
  obtain ⟨v2, vs2, d2, ds2, p2, q2, rfl, rfl, rfl, h2, r2⟩ := trodAll_cons r1
  obtain ⟨rfl, rfl, rfl⟩ := trodAll_nil r2
  obtain rfl : args = #[v0, v1, v2] := by cases args; simp_all
  obtain ⟨rfl, rfl⟩ := trodVars_none hV
  have k0 := h0
  have lt0 : ∀ x ∈ p0, x.block < W.heap.size := by obtain ⟨m, hm⟩ := k0; exact DataW.trod_lt m _ _ _ hm
  have k1 := h1
  have lt1 : ∀ x ∈ p1, x.block < W.heap.size := by obtain ⟨m, hm⟩ := k1; exact DataW.trod_lt m _ _ _ hm
  have k2 := h2
  have lt2 : ∀ x ∈ p2, x.block < W.heap.size := by obtain ⟨m, hm⟩ := k2; exact DataW.trod_lt m _ _ _ hm
  obtain ⟨x0, hx0, rfl⟩ := wide_of_trod (hval 0 24 v0 rfl rfl) h0
  obtain ⟨x1, hx1, rfl⟩ := wide_of_trod (hval 1 24 v1 rfl rfl) h1
  obtain ⟨a2, rfl, rfl, rfl, wf2⟩ := open_int Try.underlying3 (hval 2 3 v2 rfl rfl) h2
  clear hA0 hval0
  refine (prodHigh_walk x0 x1 a2 (i64_bd wf2).2 hx0 hx1 W).mono fun e W' ⟨he, bel⟩ => ?_
  subst he
  exact ⟨_, rfl, _, _, _, [], _, [], hW', trodAll_mk1 (shut_bool Try.underlying4 _), (trodAll_cons_mk (Below.trod laidOut (by kernel_rfl) (of_decide_eq_true (by kernel_rfl)) k0 bel lt0) (trodAll_cons_mk (Below.trod laidOut (by kernel_rfl) (of_decide_eq_true (by kernel_rfl)) k1 bel lt1) (trodAll_cons_mk (Below.trod laidOut (by kernel_rfl) (of_decide_eq_true (by kernel_rfl)) k2 bel lt2) trodAll_mk0))), rfl, bel.frame _, fun h => by cases h⟩

theorem over : Rows.prodHighRow.holds Try.pinned (OpenSpec.ofChange Rows.prodHighSpec) :=
  OpenClaim.holds_of_wide 7 Try.f7 rfl rfl rfl rfl rfl rfl rfl ⟨rfl, rfl, rfl, rfl, rfl⟩ rfl rfl rfl rfl rfl (by kernel_rfl) Try.func7 (by kernel_rfl)
    (of_decide_eq_true (by kernel_rfl)) (by unfold Func.isWrapper; first | (rw [if_pos (by decide +kernel)]; kernel_rfl) | (rw [if_neg (by decide +kernel)]; exact ⟨rfl, rfl⟩))
    (fun os started H enc _ => lifted os started H enc)

theorem proved : Rows.ProdHighSaid := over
#print axioms proved
end Go.Proofs.Ytenbomfoihajhaa.prodHigh

