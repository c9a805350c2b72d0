/- PackOwn: for every format, mode and word the law returns true. Conditions: those of the tied card (the table of formats is laid as the program lays it). -/
import Derived.Test.YtpcjdllijkjdkaaDoorPartBB
import Derived.Test.YtpcjdllijkjdkaaDoorRows
import Derived.Test.YtpcjdllijkjdkaaDoorTie
import Derived.Test.YtpcjdllijkjdkaaDoorCards
import Derived.LaidMore
import Derived.Stop.Joined
import Derived.SevenTiedAt
import Derived.Test.YtpcjdllijkjdkaaDoorPartAC
import Derived.Test.YtpcjdllijkjdkaaDoorPartAU
import Derived.WalkKit
import Derived.ProofKit
import Derived.OpenShut
import Derived.ShutString
import Derived.ChangeOld
import Derived.Below
/- The walk of PackOwn. -/
set_option linter.unusedVariables false
set_option linter.unusedSimpArgs false
set_option maxRecDepth 8000
namespace Go.Proofs.YtpcjdllijkjdkaaDoor
open Go.RowKit Plain

set_option maxHeartbeats 4000000 in
theorem packOwn_A (f m ex : Int) (ng : Bool) (a cl sg : Nat)
    (HCL : Hid (∀ w, Calls Tryd.prog 31 #[.int .i64 f, .agg #[.int .u64 (dgl (a) 1 : Nat), .int .u64 (dgl (a) 0 : Nat)]] w fun e w' => e = .returned (.int .i64 (cl : Nat)) ∧ Below w.heap.size w w'))
    (hc : (cl : Int) < 4) (w : World) (hg : FmtG w) :
    Calls Tryd.prog 6 #[.int .i64 f, .int .i64 m, .agg #[.int .u64 (dgl (a) 1 : Nat), .int .u64 (dgl (a) 0 : Nat)]] w fun e w' => e = .returned (.bool true) ∧ Below w.heap.size w w' := by
  have HS := hide (owSt_start a w hg)
  clear hg
  go_enter Tryd.func6, Tryd.ntmps6
  go_upto_region 1 with fail
  refine wp_gen (fun W => OwSt a w W) HS.out ?_
  clear HS
  rintro W1 h1
  have HS := hide h1
  clear h1
  have lh := HS.out.h
  have ll := HS.out.l
  go_wp2_with fail
  refine (HCL.out _).mono ?_
  rintro e w1 ⟨rfl, hb1⟩
  replace HS := hide (HS.out.below hb1)
  clear hb1 lh ll
  go_wp2_with fail
  refine (awake9_any _ HS.out.g).mono ?_
  rintro e w9 ⟨rfl, hb9⟩
  have HB := hide (below_trans HS.out.bel hb9)
  clear hb9 HS
  go_wp2
  go_ret
  exact ⟨rfl, HB.out⟩

set_option maxHeartbeats 4000000 in
theorem packOwn_B (f m ex : Int) (ng : Bool) (a cl sg : Nat)
    (HCL : Hid (∀ w, Calls Tryd.prog 31 #[.int .i64 f, .agg #[.int .u64 (dgl (a) 1 : Nat), .int .u64 (dgl (a) 0 : Nat)]] w fun e w' => e = .returned (.int .i64 (cl : Nat)) ∧ Below w.heap.size w w'))
    (hc : ¬ (cl : Int) < 4)
    (HIS : Hid (∀ w, Calls Tryd.prog 20 #[.int .i64 m] w fun e w' => e = .returned (.bool false) ∧ w' = w)) (w : World) (hg : FmtG w) :
    Calls Tryd.prog 6 #[.int .i64 f, .int .i64 m, .agg #[.int .u64 (dgl (a) 1 : Nat), .int .u64 (dgl (a) 0 : Nat)]] w fun e w' => e = .returned (.bool true) ∧ Below w.heap.size w w' := by
  have HS := hide (owSt_start a w hg)
  clear hg
  go_enter Tryd.func6, Tryd.ntmps6
  go_upto_region 1 with fail
  refine wp_gen (fun W => OwSt a w W) HS.out ?_
  clear HS
  rintro W1 h1
  have HS := hide h1
  clear h1
  have lh := HS.out.h
  have ll := HS.out.l
  go_wp2_with fail
  refine (HCL.out _).mono ?_
  rintro e w1 ⟨rfl, hb1⟩
  replace HS := hide (HS.out.below hb1)
  clear hb1 lh ll
  go_wp2_with fail
  refine (HIS.out _).mono ?_
  rintro e wl ⟨rfl, hw⟩
  subst wl
  go_wp2_with fail
  refine (awake9_any _ HS.out.g).mono ?_
  rintro e w9 ⟨rfl, hb9⟩
  have HB := hide (below_trans HS.out.bel hb9)
  clear hb9 HS
  go_wp2
  go_ret
  exact ⟨rfl, HB.out⟩

set_option maxHeartbeats 4000000 in
theorem packOwn_Y (f m ex : Int) (ng : Bool) (a cl sg : Nat)
    (HCL : Hid (∀ w, Calls Tryd.prog 31 #[.int .i64 f, .agg #[.int .u64 (dgl (a) 1 : Nat), .int .u64 (dgl (a) 0 : Nat)]] w fun e w' => e = .returned (.int .i64 (cl : Nat)) ∧ Below w.heap.size w w'))
    (hc : ¬ (cl : Int) < 4)
    (HIS : Hid (∀ w, Calls Tryd.prog 20 #[.int .i64 m] w fun e w' => e = .returned (.bool true) ∧ w' = w))
    (HV : Hid (∀ w, FmtG w → Calls Tryd.prog 32 #[.int .i64 f, .agg #[.int .u64 (dgl (a) 1 : Nat), .int .u64 (dgl (a) 0 : Nat)]] w fun e w' => e = .returned (.tuple #[.agg #[.bool (ng), .int .i64 (ex), .int .u64 (dgl (sg) 0 : Nat), .int .u64 (dgl (sg) 1 : Nat), .int .u64 (dgl (sg) 2 : Nat), .int .u64 (dgl (sg) 3 : Nat), .int .u64 (dgl (sg) 4 : Nat), .int .u64 (dgl (sg) 5 : Nat), .int .u64 (dgl (sg) 6 : Nat), .int .u64 (dgl (sg) 7 : Nat)], .bool true]) ∧ Below w.heap.size w w'))
    (HR : Hid (∀ w, FmtG w → Calls Tryd.prog 33 #[.int .i64 f, .int .i64 m, .agg #[.bool (ng), .int .i64 (ex), .int .u64 (dgl (sg) 0 : Nat), .int .u64 (dgl (sg) 1 : Nat), .int .u64 (dgl (sg) 2 : Nat), .int .u64 (dgl (sg) 3 : Nat), .int .u64 (dgl (sg) 4 : Nat), .int .u64 (dgl (sg) 5 : Nat), .int .u64 (dgl (sg) 6 : Nat), .int .u64 (dgl (sg) 7 : Nat)], .bool false] w fun e w' => e = .returned (.tuple #[.agg #[.int .u64 (dgl (a) 1 : Nat), .int .u64 (dgl (a) 0 : Nat)], .int .i64 0, .int .i64 0]) ∧ Below w.heap.size w w'))
    (hq : ∀ w, (Op.equalIn 10000 28 (.agg #[.int .u64 (dgl (a) 1 : Nat), .int .u64 (dgl (a) 0 : Nat)]) (.agg #[.int .u64 (dgl (a) 1 : Nat), .int .u64 (dgl (a) 0 : Nat)])).run Tryd.prog w = .ok true w) (w : World) (hg : FmtG w) :
    Calls Tryd.prog 6 #[.int .i64 f, .int .i64 m, .agg #[.int .u64 (dgl (a) 1 : Nat), .int .u64 (dgl (a) 0 : Nat)]] w fun e w' => e = .returned (.bool true) ∧ Below w.heap.size w w' := by
  have HS := hide (owSt_start a w hg)
  clear hg
  go_enter Tryd.func6, Tryd.ntmps6
  go_upto_region 1 with fail
  refine wp_gen (fun W => OwSt a w W) HS.out ?_
  clear HS
  rintro W1 h1
  have HS := hide h1
  clear h1
  have lh := HS.out.h
  have ll := HS.out.l
  go_wp2_with fail
  refine (HCL.out _).mono ?_
  rintro e w1 ⟨rfl, hb1⟩
  replace HS := hide (HS.out.below hb1)
  clear hb1 lh ll
  go_wp2_with fail
  refine (HIS.out _).mono ?_
  rintro e wl ⟨rfl, hw⟩
  subst wl
  have lh := HS.out.h
  have ll := HS.out.l
  go_wp2_with fail
  refine (HV.out _ HS.out.g).mono ?_
  rintro e w2 ⟨rfl, hb2⟩
  replace HS := hide (HS.out.below hb2)
  clear hb2 lh ll
  go_upto_region 4 with fail
  refine wp_gen (fun W => OwSt a w W ∧ NB W w2.heap.size ng ex sg) ⟨HS.out.below (below_allocs _ _), nb_new _ _ _ _ _⟩ ?_
  clear HS
  generalize w2.heap.size = p7 at *
  rintro W2 ⟨g1, g2⟩
  have HS := hide g1
  have HN := hide g2
  clear g1 g2
  have yn := HN.out.n
  have ye := HN.out.e
  have y0 := HN.out.x0
  have y1 := HN.out.x1
  have y2 := HN.out.x2
  have y3 := HN.out.x3
  have y4 := HN.out.x4
  have y5 := HN.out.x5
  have y6 := HN.out.x6
  have y7 := HN.out.x7
  go_wp2_with fail
  refine (HR.out _ HS.out.g).mono ?_
  rintro e w3 ⟨rfl, hb3⟩
  replace HS := hide (HS.out.below hb3)
  clear hb3 HN yn ye y0 y1 y2 y3 y4 y5 y6 y7
  go_upto_region 5 with fail
  refine wp_gen (fun W => OwSt a w W ∧ WB W w3.heap.size (dgl a 1) (dgl a 0)) ⟨HS.out.below (below_allocs _ _), wb_new2 _ _ _ _⟩ ?_
  clear HS
  generalize w3.heap.size = p9 at *
  rintro W3 ⟨g1, g2⟩
  have HS := hide g1
  have qh := g2.h
  have ql := g2.l
  clear g1 g2
  have lh := HS.out.h
  have ll := HS.out.l
  go_wp2_with fail
  refine (awake9_any _ HS.out.g).mono ?_
  rintro e w9 ⟨rfl, hb9⟩
  have HB := hide (below_trans HS.out.bel hb9)
  clear hb9 HS
  go_wp2
  go_ret
  exact ⟨rfl, HB.out⟩

theorem packOwn_num (f m : Int) (a : Nat) (ha : a < 2 ^ 128) (w : World) (hg : FmtG w) :
    Calls Tryd.prog 6 #[.int .i64 f, .int .i64 m, .agg #[.int .u64 (dgl (a) 1 : Nat), .int .u64 (dgl (a) 0 : Nat)]] w fun e w' => e = .returned (.bool true) ∧ Below w.heap.size w w' := by
  have HC := fun w => refCls_u f a ha w
  by_cases h4 : 4 ≤ clsU f a
  · have HI := fun w => refIs8_any m w
    by_cases hm : isM m = true
    · rw [hm] at HI
      have hf : 1 ≤ f ∧ f ≤ 4 := cls_form (a := a) (by omega)
      have hp := prU_bd f hf
      have he := enU_eq f hf
      have hle := loU_eq f hf
      have hlo := loU_bd f
      have hfl := fin_fld h4
      have hfd := fldU_le f a
      have hq := sigU_qq f a hf
      have hl := sig_len f a hf
      have hV := fun w hg => uval_yes f a ha h4 w hg
      have hqw := fun w => wordEq ha ha w
      rw [decide_eq_true rfl] at hqw
      have hex : -1048576 ≤ expU f a ∧ expU f a ≤ 1048576 := by unfold expU; split <;> omega
      have hsl : Go.bitLen (sigU f a) ≤ prU f := by
        by_cases h0 : fldU f a = 0
        · have := hl.2 h0; omega
        · have := hl.1 h0; omega
      have hr : rightB (prU f : Nat) (expU f a) (sigU f a) false = true := by
        unfold rightB
        rw [decide_eq_true (show (1 : Int) ≤ (prU f : Nat) by omega), decide_eq_true (show ((prU f : Nat) : Int) ≤ 500 by omega), rgt_of hex, decide_eq_true (show Go.bitLen (sigU f a) ≤ 511 by omega)]
        rfl
      have hR : ∀ w, FmtG w → Calls Tryd.prog 33 #[.int .i64 f, .int .i64 m, .agg #[.bool (negU f a), .int .i64 (expU f a), .int .u64 (dgl (sigU f a) 0 : Nat), .int .u64 (dgl (sigU f a) 1 : Nat), .int .u64 (dgl (sigU f a) 2 : Nat), .int .u64 (dgl (sigU f a) 3 : Nat), .int .u64 (dgl (sigU f a) 4 : Nat), .int .u64 (dgl (sigU f a) 5 : Nat), .int .u64 (dgl (sigU f a) 6 : Nat), .int .u64 (dgl (sigU f a) 7 : Nat)], .bool false] w fun e w' => e = .returned (.tuple #[.agg #[.int .u64 (dgl (a) 1 : Nat), .int .u64 (dgl (a) 0 : Nat)], .int .i64 0, .int .i64 0]) ∧ Below w.heap.size w w' := by
        intro w hg
        by_cases h0 : sigU f a = 0
        · have h := round_zero f m hf hm (negU f a) false (expU f a) (by rw [← h0]; exact hr) w hg
          rw [ngt_own h4 h0] at h
          rw [h0]
          exact h
        · have h := round_yes f m hf hm (negU f a) false (expU f a) (sigU f a) hq hr h0 w hg
          have hx : rndR f m (negU f a) false (expU f a) (sigU f a) = (a, 0) := by
            unfold rndR
            rw [show Go.bitLen (sigU f a) - prU f = 0 by omega, cutN_0]
            have hb : expU f a + (Go.bitLen (sigU f a) : Int) - 1 ≤ emU f ∧ loU f ≤ expU f a := by
              by_cases hn : fldU f a = 0
              · have e2 : expU f a = loU f := if_pos hn
                have := hl.2 hn
                omega
              · have e2 : expU f a = loU f + ((fldU f a : Int) - 1) := if_neg hn
                have := hl.1 hn
                omega
            rw [if_neg (by omega), show (loU f - expU f a).toNat = 0 by omega, cutN_0, restN_0, if_pos rfl, if_pos rfl, show expU f a + ((0 : Nat) : Int) = expU f a by omega, wrd_own h4 ha]
            split <;> rfl
          rw [hx] at h
          exact h
      exact packOwn_Y f m (expU f a) (negU f a) a (clsU f a) (sigU f a) HC (by omega) HI hV hR hqw w hg
    · have hm2 : isM m = false := by simpa using hm
      rw [hm2] at HI
      exact packOwn_B f m 0 false a (clsU f a) 0 HC (by omega) HI w hg
  · exact packOwn_A f m 0 false a (clsU f a) 0 HC (by omega) w hg
theorem packOwn_all (f m : Int) (x y : Nat) (hx : x < 18446744073709551616) (hy : y < 18446744073709551616) (w : World) (hg : FmtG w) :
    Calls Tryd.prog 6 #[.int .i64 f, .int .i64 m, .agg #[.int .u64 (x : Nat), .int .u64 (y : Nat)]] w fun e w' => e = .returned (.bool true) ∧ Below w.heap.size w w' := by
  have h := packOwn_num f m (y + 18446744073709551616 * x) (by omega) w hg
  obtain ⟨e1, e2⟩ := word_num x y hx hy
  rw [e1, e2] at h
  exact h

end Go.Proofs.YtpcjdllijkjdkaaDoor

/- PackOwn: for every format, mode and word the law returns true. Conditions: those of the tied card (the table of formats is laid as the program lays it). -/
namespace Go.Proofs.YtpcjdllijkjdkaaDoor.packOwn
open Go.ChangeShapes Go.WideShapes Go.ChangeAt Go.RowKit Go.Proofs.YtpcjdllijkjdkaaDoor

theorem own : ownKnob Tryd.prog.godebug = none := by kernel_rfl
theorem laidOut : laidOutB Tryd.prog = true := by kernel_rfl

theorem door_met (os : Os) (args : Array Value) : laidMetH Tryd.prog [("radicand/format.formats", Rows.laid_radicand_format_formats)] ((World.doorLaid Tryd.prog 400 os).forCall (fun _ _ => 0) ⟨#[], args, []⟩).memory :=
  laidMetH_of_parts3 (fuel := 8) (laidMet_of_run' 8 (by kernel_rfl) (by kernel_rfl)) (by kernel_rfl) (by kernel_rfl)

set_option maxRecDepth 100000 in
theorem lifted (os : Os) (started : os.Started) (H : Type) (enc : TypeId × Value → H) :
    ReturnsInHanded {} Tryd.checked os 6 .any (fun w args => (Rows.packOwnSpec.pre enc Tryd.prog Tryd.f6 [] false w args ∧ laidMetH Tryd.prog [("radicand/format.formats", Rows.laid_radicand_format_formats)] w) ∧ sizedMet enc Tryd.prog Tryd.f6 (OpenSpec.ofChange Rows.packOwnSpec) false w args) (Rows.packOwnSpec.post enc Tryd.prog Tryd.f6 false true false false) := by
  refine returnsInHanded_of_change_and (C := Tryd.checked) (X := fun w _ => laidMetH Tryd.prog [("radicand/format.formats", Rows.laid_radicand_format_formats)] w) (fun _ _ _ hh h => h.of_heap hh) own started (by kernel_rfl) Tryd.func6
    (ChangeSpec.witness_shaped (enc := enc) (C := Tryd.checked) (os := os) (X := fun w _ => laidMetH Tryd.prog [("radicand/format.formats", Rows.laid_radicand_format_formats)] w) false (World.doorLaid Tryd.prog 400 os) #[.int .i64 0, .int .i64 0, .agg #[.int .u64 0, .int .u64 0]] 8 rfl (World.shaped_of_RefB (by kernel_rfl) (by kernel_rfl)) (by kernel_rfl) (by kernel_rfl) (by kernel_rfl) (door_met os _)) ?_
  intro W base args ds gs before hval0 hW _ _ hL _
  have hval : ∀ (j : Nat) t v, Tryd.f6.params[j]? = some t → args[j]? = some v → Value.okWide Tryd.prog W .any base t v := hval0
  have hW' := hW
  obtain ⟨p, q, hA0, hV, rfl, hfz, hnd⟩ := hW
  have hA : DataW.TrodAll enc Tryd.prog W 0 (fun _ => true) true Tryd.f6.params.toList args.toList ds p := hA0
  rw [Tryd.params6] at hA hval
  obtain ⟨v0, vs0, d0, ds0, p0, q0, hargs, rfl, rfl, h0, r0⟩ := trodAll_cons hA
  obtain ⟨v1, vs1, d1, ds1, p1, q1, rfl, rfl, rfl, h1, r1⟩ := trodAll_cons r0
  obtain ⟨v2, vs2, d2, ds2, p2, q2, rfl, rfl, rfl, h2, r2⟩ := trodAll_cons r1
  obtain ⟨rfl, rfl, rfl⟩ := trodAll_nil r2
  obtain rfl : args = #[v0, v1, v2] := by cases args; simp_all
  obtain ⟨rfl, rfl⟩ := trodVars_none hV
  have k0 := h0
  have lt0 : ∀ x ∈ p0, x.block < W.heap.size := by obtain ⟨m, hm⟩ := k0; exact DataW.trod_lt m _ _ _ hm
  have k1 := h1
  have lt1 : ∀ x ∈ p1, x.block < W.heap.size := by obtain ⟨m, hm⟩ := k1; exact DataW.trod_lt m _ _ _ hm
  have k2 := h2
  have lt2 : ∀ x ∈ p2, x.block < W.heap.size := by obtain ⟨m, hm⟩ := k2; exact DataW.trod_lt m _ _ _ hm
  obtain ⟨a0, rfl, rfl, rfl, wf0⟩ := open_int Tryd.underlying3 (hval 0 3 v0 rfl rfl) h0
  obtain ⟨a1, rfl, rfl, rfl, wf1⟩ := open_int Tryd.underlying3 (hval 1 3 v1 rfl rfl) h1
  obtain ⟨x2, y2, hx2, hy2, rfl⟩ := word_open (hval 2 28 v2 rfl rfl) h2
  clear hA0 hval0
  have hg := of_laid1 hL
  refine (packOwn_all a0 a1 x2 y2 hx2 hy2 W hg).mono fun e W' ⟨he, bel⟩ => ?_
  subst he
  exact ⟨_, rfl, _, _, _, [], _, [], hW', trodAll_mk1 (shut_bool Tryd.underlying4 _), (trodAll_cons_mk (Below.trod laidOut (by kernel_rfl) (of_decide_eq_true (by kernel_rfl)) k0 bel lt0) (trodAll_cons_mk (Below.trod laidOut (by kernel_rfl) (of_decide_eq_true (by kernel_rfl)) k1 bel lt1) (trodAll_cons_mk (Below.trod laidOut (by kernel_rfl) (of_decide_eq_true (by kernel_rfl)) k2 bel lt2) trodAll_mk0))), rfl, bel.frame _, fun h => by cases h⟩

theorem over : Rows.packOwnRow.holds Tryd.pinned (OpenSpec.ofChange Rows.packOwnSpec) :=
  OpenClaim.holds_of_wide 6 Tryd.f6 rfl rfl rfl rfl rfl rfl rfl ⟨rfl, rfl, rfl, rfl, rfl⟩ rfl rfl rfl rfl rfl (by kernel_rfl) Tryd.func6 (by kernel_rfl)
    (of_decide_eq_true (by kernel_rfl)) (by unfold Func.isWrapper; first | (rw [if_pos (by decide +kernel)]; kernel_rfl) | (rw [if_neg (by decide +kernel)]; exact ⟨rfl, rfl⟩))
    (fun os started H enc _ => lifted os started H enc)

theorem proved : Rows.PackOwnCardSaid :=
  Claim7.holds_tied_plain_at .later [] [.data] true (true, "bda7307485677e703060dea11d85374f6d1941a46d5c51f47956e134a69fc123") false
    over (fun _ h => by cases h) (by kernel_rfl) (fun _ h => by cases h) packOwn_row_tie rfl ⟨rfl, rfl⟩ (by kernel_rfl) rfl
    (fun f fn hf hfn => by
      obtain rfl : f = 6 := Option.some.inj ((show Tryd.prog.funcNamed "radicand/radicandlaw09.PackOwn" = some 6 by kernel_rfl).symm.trans hf) |>.symm
      obtain rfl : fn = Tryd.f6 := (Option.some.inj (Tryd.func6.symm.trans hfn)).symm
      exact ⟨by kernel_rfl, fun j t ht => by
        rw [Tryd.params6] at ht
        rcases j with _ | j
        · obtain rfl : t = 3 := by simpa using ht.symm
          exact (show Tryd.prog.wantsStandIn 3 = false by kernel_rfl)
        rcases j with _ | j
        · obtain rfl : t = 3 := by simpa using ht.symm
          exact (show Tryd.prog.wantsStandIn 3 = false by kernel_rfl)
        rcases j with _ | j
        · obtain rfl : t = 28 := by simpa using ht.symm
          exact (show Tryd.prog.wantsStandIn 28 = false by kernel_rfl)
        simp at ht⟩)
    (by kernel_rfl)
#print axioms proved
end Go.Proofs.YtpcjdllijkjdkaaDoor.packOwn

