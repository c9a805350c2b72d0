/- For all wides the law radicandlaw16.SrtrootRoots returns true and leaves what came in as it was. No condition. -/
import Derived.Test.YtbngaajhdaciaaaPartAV
import Derived.Test.YtbngaajhdaciaaaPartAW
import Derived.Test.YtbngaajhdaciaaaRows
import Derived.WalkKit
import Derived.ProofKit
import Derived.OpenShut
import Derived.ShutString
import Derived.ChangeOld
import Derived.Below
/- For all wides the law radicandlaw16.SrtrootRoots returns true. -/
set_option linter.unusedVariables false
set_option linter.unusedSimpArgs false
set_option maxRecDepth 8000
namespace Go.Proofs.Ytbngaajhdaciaaa
open Go.RowKit Plain

set_option maxHeartbeats 2000000 in
theorem srtrootRoots_walk (n x y : Nat) (m : Int)
    (HD : Hid (∀ w, Calls Try.prog 7 #[.agg #[.int .u64 (dgl (n) 0 : Nat), .int .u64 (dgl (n) 1 : Nat), .int .u64 (dgl (n) 2 : Nat), .int .u64 (dgl (n) 3 : Nat), .int .u64 (dgl (n) 4 : Nat), .int .u64 (dgl (n) 5 : Nat), .int .u64 (dgl (n) 6 : Nat), .int .u64 (dgl (n) 7 : Nat)]] w fun e w' => e = .returned (.tuple #[.agg #[.int .u64 (dgl (x) 0 : Nat), .int .u64 (dgl (x) 1 : Nat), .int .u64 (dgl (x) 2 : Nat), .int .u64 (dgl (x) 3 : Nat), .int .u64 (dgl (x) 4 : Nat), .int .u64 (dgl (x) 5 : Nat), .int .u64 (dgl (x) 6 : Nat), .int .u64 (dgl (x) 7 : Nat)], .agg #[.int .u64 (dgl (y) 0 : Nat), .int .u64 (dgl (y) 1 : Nat), .int .u64 (dgl (y) 2 : Nat), .int .u64 (dgl (y) 3 : Nat), .int .u64 (dgl (y) 4 : Nat), .int .u64 (dgl (y) 5 : Nat), .int .u64 (dgl (y) 6 : Nat), .int .u64 (dgl (y) 7 : Nat)], .int .i64 m]) ∧ Below w.heap.size w w'))
    (HHO : Hid (∀ w, Calls Try.prog 8 #[.agg #[.int .u64 (dgl (n) 0 : Nat), .int .u64 (dgl (n) 1 : Nat), .int .u64 (dgl (n) 2 : Nat), .int .u64 (dgl (n) 3 : Nat), .int .u64 (dgl (n) 4 : Nat), .int .u64 (dgl (n) 5 : Nat), .int .u64 (dgl (n) 6 : Nat), .int .u64 (dgl (n) 7 : Nat)], .agg #[.int .u64 (dgl (x) 0 : Nat), .int .u64 (dgl (x) 1 : Nat), .int .u64 (dgl (x) 2 : Nat), .int .u64 (dgl (x) 3 : Nat), .int .u64 (dgl (x) 4 : Nat), .int .u64 (dgl (x) 5 : Nat), .int .u64 (dgl (x) 6 : Nat), .int .u64 (dgl (x) 7 : Nat)], .agg #[.int .u64 (dgl (y) 0 : Nat), .int .u64 (dgl (y) 1 : Nat), .int .u64 (dgl (y) 2 : Nat), .int .u64 (dgl (y) 3 : Nat), .int .u64 (dgl (y) 4 : Nat), .int .u64 (dgl (y) 5 : Nat), .int .u64 (dgl (y) 6 : Nat), .int .u64 (dgl (y) 7 : Nat)], .int .i64 m] w fun e w' => e = .returned (.bool true) ∧ Below w.heap.size w w'))
    (HAW : Hid (∀ w, Calls Try.prog 9 #[] w fun e w' => e = .returned (.bool true) ∧ Below w.heap.size w w')) (w : World) :
    Calls Try.prog 3 #[.agg #[.int .u64 (dgl (n) 0 : Nat), .int .u64 (dgl (n) 1 : Nat), .int .u64 (dgl (n) 2 : Nat), .int .u64 (dgl (n) 3 : Nat), .int .u64 (dgl (n) 4 : Nat), .int .u64 (dgl (n) 5 : Nat), .int .u64 (dgl (n) 6 : Nat), .int .u64 (dgl (n) 7 : Nat)]] w fun e w' => e = .returned (.bool true) ∧ Below w.heap.size w w' := by
  have HS : Hid (OnSt n w (w.alloc (.cells #[.int .u64 (dgl (n) 0 : Nat), .int .u64 (dgl (n) 1 : Nat), .int .u64 (dgl (n) 2 : Nat), .int .u64 (dgl (n) 3 : Nat), .int .u64 (dgl (n) 4 : Nat), .int .u64 (dgl (n) 5 : Nat), .int .u64 (dgl (n) 6 : Nat), .int .u64 (dgl (n) 7 : Nat)] 24))) := ⟨liesF_new w (dgl n) _, below_allocs _ _⟩
  go_enter Try.func3, Try.ntmps3
  have hca := HS.out.lx.1
  go_wp2_with fail
  refine (HD.out _).mono ?_
  rintro e' w1 ⟨rfl, hb1⟩
  replace HS := hide (HS.out.below hb1)
  clear hb1 hca HD
  go_upto_region 2 with fail
  have hbw := below_trans (below_allocs w1 (.cells #[.int .u64 (dgl (x) 0 : Nat), .int .u64 (dgl (x) 1 : Nat), .int .u64 (dgl (x) 2 : Nat), .int .u64 (dgl (x) 3 : Nat), .int .u64 (dgl (x) 4 : Nat), .int .u64 (dgl (x) 5 : Nat), .int .u64 (dgl (x) 6 : Nat), .int .u64 (dgl (x) 7 : Nat)] 24)) (below_allocs _ (.cells #[.int .u64 (dgl (y) 0 : Nat), .int .u64 (dgl (y) 1 : Nat), .int .u64 (dgl (y) 2 : Nat), .int .u64 (dgl (y) 3 : Nat), .int .u64 (dgl (y) 4 : Nat), .int .u64 (dgl (y) 5 : Nat), .int .u64 (dgl (y) 6 : Nat), .int .u64 (dgl (y) 7 : Nat)] 24))
  refine wp_gen (fun W => OnSt n w W ∧ R2St w1.heap.size (w1.heap.size + 1) x y w W) ⟨HS.out.below hbw, r2_put w w1 x y HS.out.bel _ _⟩ ?_
  clear HS hbw
  obtain ⟨p6, hp6⟩ : ∃ p6, w1.heap.size + 1 = p6 := ⟨_, rfl⟩
  rw [hp6]
  clear hp6
  generalize w1.heap.size = p5 at *
  rintro W2 h2
  have HS := hide h2
  have h1 := h2.1.lx.1
  have h4 := h2.2.lx.1
  have h5 := h2.2.ly.1
  clear h2
  go_wp2_with fail
  refine (HHO.out _).mono ?_
  rintro e w3 ⟨rfl, hb3⟩
  have HB := hide (below_trans HS.out.1.bel hb3)
  clear HS hb3 h1 h4 h5 HHO
  go_wp2_with fail
  refine (HAW.out _).mono ?_
  rintro e' w9 ⟨rfl, hb9⟩
  replace HB := hide (below_trans HB.out hb9)
  clear hb9
  go_wp2
  go_ret
  exact ⟨rfl, HB.out⟩

theorem srtrootRoots_any (n : Nat) (hn : n < QQ) (w : World) :
    Calls Try.prog 3 #[.agg #[.int .u64 (dgl (n) 0 : Nat), .int .u64 (dgl (n) 1 : Nat), .int .u64 (dgl (n) 2 : Nat), .int .u64 (dgl (n) 3 : Nat), .int .u64 (dgl (n) 4 : Nat), .int .u64 (dgl (n) 5 : Nat), .int .u64 (dgl (n) 6 : Nat), .int .u64 (dgl (n) 7 : Nat)]] w fun e w' => e = .returned (.bool true) ∧ Below w.heap.size w w' := by
  have HAW := hide (fun w => awake16_any w)
  have hz0 := fun w => z8_eq qq_pos true rfl w
  have HM := hide (fun w => rmay12_any n hn w)
  by_cases hL : Go.bitLen n ≤ 256
  · have hlt := (may_len n).2 hL
    rw [decide_eq_true hlt] at HM
    obtain ⟨S, hs⟩ := root_ex 2 (by decide) n
    have HH := hide (fun w => holds12_Y n S (n - S ^ 2) (fun w => wide_sameF _ w) (fun w => wide_sameF _ w) HM (hide fun w => refRoot_any n 2 S hn (by decide) (by decide) hs (Nat.lt_of_lt_of_le (sq_le n S hs hlt) (Nat.pow_le_pow_right (by decide) (by decide))) w) w)
    refine srtrootRoots_walk n S (n - S ^ 2) 0 (hide fun w => ?_) HH HAW w
    by_cases h0 : n = 0
    · subst h0
      have hS : S = 0 := by
        rcases Nat.eq_zero_or_pos S with h1 | h1
        · exact h1
        · exact absurd ((hs 1).2 h1) (by decide)
      subst hS
      have h := rootB_err 0 hn (.inl rfl) w
      rw [if_neg (by omega)] at h
      rw [show 0 - 0 ^ 2 = 0 by rfl, dgl_zero]
      exact h
    · exact rootB_ok n S hn h0 hL hs w
  · have hnlt : ¬ n < 2 ^ 256 := fun h => hL ((may_len n).1 h)
    rw [decide_eq_false hnlt] at HM
    refine srtrootRoots_walk n 0 0 4 (hide fun w => ?_) (hide fun w => holds12_E n 0 0 hz0 hz0 HM w) HAW w
    have h := rootB_err n hn (.inr (by omega)) w
    rw [if_pos (by omega)] at h
    rw [dgl_zero]
    exact h
end Go.Proofs.Ytbngaajhdaciaaa

/- For all wides the law radicandlaw16.SrtrootRoots returns true and leaves what came in as it was. No condition. -/
namespace Go.Proofs.Ytbngaajhdaciaaa.srtrootRoots
open Go.ChangeShapes Go.WideShapes Go.ChangeAt Go.RowKit Go.Proofs.Ytbngaajhdaciaaa

theorem own : ownKnob Try.prog.godebug = none := by kernel_rfl
theorem laidOut : laidOutB Try.prog = true := by kernel_rfl

set_option maxRecDepth 100000 in
theorem lifted (os : Os) (started : os.Started) (H : Type) (enc : TypeId × Value → H) :
    ReturnsInHanded {} Try.checked os 3 .any (Rows.srtrootRootsSpec.pre6 enc Try.prog Try.f3 Rows.srtrootRootsRow.domain false) (Rows.srtrootRootsSpec.post enc Try.prog Try.f3 false true false false) := by
  refine returnsInHanded_of_change (C := Try.checked) own started (by kernel_rfl) Try.func3
    (ChangeSpec.witness6 (enc := enc) (C := Try.checked) false ⟨#[], #[.agg #[.int .u64 0, .int .u64 0, .int .u64 0, .int .u64 0, .int .u64 0, .int .u64 0, .int .u64 0, .int .u64 0]], []⟩ 40 (by kernel_rfl) (by kernel_rfl) (by kernel_rfl) (by kernel_rfl)) ?_
  intro W base args ds gs before hval0 hW hcnd _
  have hval : ∀ (j : Nat) t v, Try.f3.params[j]? = some t → args[j]? = some v → Value.okWide Try.prog W .any base t v := hval0
  have hW' := hW
  obtain ⟨p, q, hA0, hV, rfl, hfz, hnd⟩ := hW
  have hA : DataW.TrodAll enc Try.prog W 0 (fun _ => true) true Try.f3.params.toList args.toList ds p := hA0
  rw [Try.params3] at hA hval
  obtain ⟨v0, vs0, d0, ds0, p0, q0, hargs, rfl, rfl, h0, r0⟩ := trodAll_cons hA
  obtain ⟨rfl, rfl, rfl⟩ := trodAll_nil r0
  obtain rfl : args = #[v0] := by cases args; simp_all
  obtain ⟨rfl, rfl⟩ := trodVars_none hV
  have k0 := h0
  have lt0 : ∀ x ∈ p0, x.block < W.heap.size := by obtain ⟨m, hm⟩ := k0; exact DataW.trod_lt m _ _ _ hm
  obtain ⟨x0, hx0, rfl⟩ := wide_of_trod (hval 0 24 v0 rfl rfl) h0
  clear hA0 hval0
  refine (srtrootRoots_any x0 hx0 W).mono fun e W' ⟨he, bel⟩ => ?_
  subst he
  exact ⟨_, rfl, _, _, _, [], _, [], hW', trodAll_mk1 (shut_bool Try.underlying4 _), (trodAll_cons_mk (Below.trod laidOut (by kernel_rfl) (of_decide_eq_true (by kernel_rfl)) k0 bel lt0) trodAll_mk0), rfl, bel.frame _, fun h => by cases h⟩

theorem over : Rows.srtrootRootsRow.holds Try.pinned (OpenSpec.ofChange Rows.srtrootRootsSpec) :=
  OpenClaim.holds_of_wide 3 Try.f3 rfl rfl rfl rfl rfl rfl rfl ⟨rfl, rfl, rfl, rfl, rfl⟩ rfl rfl rfl rfl rfl (by kernel_rfl) Try.func3 (by kernel_rfl)
    (of_decide_eq_true (by kernel_rfl)) (by unfold Func.isWrapper; first | (rw [if_pos (by decide +kernel)]; kernel_rfl) | (rw [if_neg (by decide +kernel)]; exact ⟨rfl, rfl⟩))
    (fun os started H enc _ => lifted os started H enc)

theorem proved : Rows.SrtrootRootsSaid := over
#print axioms proved
end Go.Proofs.Ytbngaajhdaciaaa.srtrootRoots

