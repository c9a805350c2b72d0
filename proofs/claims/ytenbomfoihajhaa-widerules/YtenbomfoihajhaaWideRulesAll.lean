/- For all wides and all numbers of 16 bits the law radicandlaw02.WideRules returns true, and its arguments read afterwards as they read before. No condition. -/
import Derived.Test.YtenbomfoihajhaaBaseK
import Derived.Test.YtenbomfoihajhaaRows
import Derived.WalkKit
import Derived.ProofKit
import Derived.OpenShut
import Derived.ShutString
import Derived.ChangeOld
import Derived.Below
/- For all wides and all numbers of 16 bits the law radicandlaw02.WideRules returns true. -/
set_option linter.unusedVariables false
set_option linter.unusedSimpArgs false
set_option maxRecDepth 8000
namespace Go.Proofs.Ytenbomfoihajhaa
open Go.RowKit Plain

structure RulesSt (w : World) (fa fb : Nat → Nat) (W : World) : Prop where
  la : LiesF W w.heap.size fa
  lb : LiesF W (w.heap.size + 1) fb
  bel : Below w.heap.size w W
theorem RulesSt.below {w : World} {fa fb : Nat → Nat} {W W' : World} (h : RulesSt w fa fb W) (hb : Below W.heap.size W W') : RulesSt w fa fb W' :=
  ⟨h.la.below hb, h.lb.below hb, below_trans h.bel hb⟩
theorem RulesSt.start (w : World) (fa fb : Nat → Nat) : RulesSt w fa fb ((w.alloc (.cells #[.int .u64 (fa 0 : Nat), .int .u64 (fa 1 : Nat), .int .u64 (fa 2 : Nat), .int .u64 (fa 3 : Nat), .int .u64 (fa 4 : Nat), .int .u64 (fa 5 : Nat), .int .u64 (fa 6 : Nat), .int .u64 (fa 7 : Nat)] 24)).alloc (.cells #[.int .u64 (fb 0 : Nat), .int .u64 (fb 1 : Nat), .int .u64 (fb 2 : Nat), .int .u64 (fb 3 : Nat), .int .u64 (fb 4 : Nat), .int .u64 (fb 5 : Nat), .int .u64 (fb 6 : Nat), .int .u64 (fb 7 : Nat)] 24)) := by
  have hlb := liesF_new (w.alloc (.cells #[.int .u64 (fa 0 : Nat), .int .u64 (fa 1 : Nat), .int .u64 (fa 2 : Nat), .int .u64 (fa 3 : Nat), .int .u64 (fa 4 : Nat), .int .u64 (fa 5 : Nat), .int .u64 (fa 6 : Nat), .int .u64 (fa 7 : Nat)] 24)) fb 24
  rw [World.size_alloc] at hlb
  exact ⟨(liesF_new w fa 24).alloc _, hlb, below_trans (below_allocs w _) (below_allocs _ _)⟩

set_option maxHeartbeats 4000000 in
theorem wideRules_first (fa fb fs fu fd fn fr : Nat → Nat) (n k L : Nat) (c : Int) (o m : Bool) (w : World)
    (hn : n < 65536) (HK : Hid (k = n % 512)) (hL : L ≤ 512)
    (HADD : Hid (∀ w, Calls Try.prog 40 #[.agg #[.int .u64 (fa 0 : Nat), .int .u64 (fa 1 : Nat), .int .u64 (fa 2 : Nat), .int .u64 (fa 3 : Nat), .int .u64 (fa 4 : Nat), .int .u64 (fa 5 : Nat), .int .u64 (fa 6 : Nat), .int .u64 (fa 7 : Nat)], .agg #[.int .u64 (fb 0 : Nat), .int .u64 (fb 1 : Nat), .int .u64 (fb 2 : Nat), .int .u64 (fb 3 : Nat), .int .u64 (fb 4 : Nat), .int .u64 (fb 5 : Nat), .int .u64 (fb 6 : Nat), .int .u64 (fb 7 : Nat)]] w fun e w' => e = .returned (.tuple #[.agg #[.int .u64 (fs 0 : Nat), .int .u64 (fs 1 : Nat), .int .u64 (fs 2 : Nat), .int .u64 (fs 3 : Nat), .int .u64 (fs 4 : Nat), .int .u64 (fs 5 : Nat), .int .u64 (fs 6 : Nat), .int .u64 (fs 7 : Nat)], .bool o]) ∧ Below w.heap.size w w'))
    (HSUB : Hid (∀ w, Calls Try.prog 41 #[.agg #[.int .u64 (fs 0 : Nat), .int .u64 (fs 1 : Nat), .int .u64 (fs 2 : Nat), .int .u64 (fs 3 : Nat), .int .u64 (fs 4 : Nat), .int .u64 (fs 5 : Nat), .int .u64 (fs 6 : Nat), .int .u64 (fs 7 : Nat)], .agg #[.int .u64 (fb 0 : Nat), .int .u64 (fb 1 : Nat), .int .u64 (fb 2 : Nat), .int .u64 (fb 3 : Nat), .int .u64 (fb 4 : Nat), .int .u64 (fb 5 : Nat), .int .u64 (fb 6 : Nat), .int .u64 (fb 7 : Nat)]] w fun e w' => e = .returned (.tuple #[.agg #[.int .u64 (fa 0 : Nat), .int .u64 (fa 1 : Nat), .int .u64 (fa 2 : Nat), .int .u64 (fa 3 : Nat), .int .u64 (fa 4 : Nat), .int .u64 (fa 5 : Nat), .int .u64 (fa 6 : Nat), .int .u64 (fa 7 : Nat)], .bool o]) ∧ Below w.heap.size w w'))
    (HSHL : Hid (∀ w, Calls Try.prog 20 #[.agg #[.int .u64 (fa 0 : Nat), .int .u64 (fa 1 : Nat), .int .u64 (fa 2 : Nat), .int .u64 (fa 3 : Nat), .int .u64 (fa 4 : Nat), .int .u64 (fa 5 : Nat), .int .u64 (fa 6 : Nat), .int .u64 (fa 7 : Nat)], .int .i64 (k : Nat)] w fun e w' => e = .returned (.agg #[.int .u64 (fu 0 : Nat), .int .u64 (fu 1 : Nat), .int .u64 (fu 2 : Nat), .int .u64 (fu 3 : Nat), .int .u64 (fu 4 : Nat), .int .u64 (fu 5 : Nat), .int .u64 (fu 6 : Nat), .int .u64 (fu 7 : Nat)]) ∧ Below w.heap.size w w'))
    (HSHR : Hid (∀ w, Calls Try.prog 19 #[.agg #[.int .u64 (fu 0 : Nat), .int .u64 (fu 1 : Nat), .int .u64 (fu 2 : Nat), .int .u64 (fu 3 : Nat), .int .u64 (fu 4 : Nat), .int .u64 (fu 5 : Nat), .int .u64 (fu 6 : Nat), .int .u64 (fu 7 : Nat)], .int .i64 (k : Nat)] w fun e w' => e = .returned (.tuple #[.agg #[.int .u64 (fd 0 : Nat), .int .u64 (fd 1 : Nat), .int .u64 (fd 2 : Nat), .int .u64 (fd 3 : Nat), .int .u64 (fd 4 : Nat), .int .u64 (fd 5 : Nat), .int .u64 (fd 6 : Nat), .int .u64 (fd 7 : Nat)], .bool false]) ∧ Below w.heap.size w w'))
    (HLEN : Hid (∀ w, Calls Try.prog 30 #[.agg #[.int .u64 (fa 0 : Nat), .int .u64 (fa 1 : Nat), .int .u64 (fa 2 : Nat), .int .u64 (fa 3 : Nat), .int .u64 (fa 4 : Nat), .int .u64 (fa 5 : Nat), .int .u64 (fa 6 : Nat), .int .u64 (fa 7 : Nat)]] w fun e w' => e = .returned (.int .i64 (L : Nat)) ∧ Below w.heap.size w w'))
    (hda : L + k ≤ 512 → ∀ w, (Op.equalIn 10000 24 (.agg #[.int .u64 (fd 0 : Nat), .int .u64 (fd 1 : Nat), .int .u64 (fd 2 : Nat), .int .u64 (fd 3 : Nat), .int .u64 (fd 4 : Nat), .int .u64 (fd 5 : Nat), .int .u64 (fd 6 : Nat), .int .u64 (fd 7 : Nat)]) (.agg #[.int .u64 (fa 0 : Nat), .int .u64 (fa 1 : Nat), .int .u64 (fa 2 : Nat), .int .u64 (fa 3 : Nat), .int .u64 (fa 4 : Nat), .int .u64 (fa 5 : Nat), .int .u64 (fa 6 : Nat), .int .u64 (fa 7 : Nat)])).run Try.prog w = .ok true w)
    (HN1 : Hid (∀ w, Calls Try.prog 35 #[.agg #[.int .u64 (fa 0 : Nat), .int .u64 (fa 1 : Nat), .int .u64 (fa 2 : Nat), .int .u64 (fa 3 : Nat), .int .u64 (fa 4 : Nat), .int .u64 (fa 5 : Nat), .int .u64 (fa 6 : Nat), .int .u64 (fa 7 : Nat)]] w fun e w' => e = .returned (.agg #[.int .u64 (fn 0 : Nat), .int .u64 (fn 1 : Nat), .int .u64 (fn 2 : Nat), .int .u64 (fn 3 : Nat), .int .u64 (fn 4 : Nat), .int .u64 (fn 5 : Nat), .int .u64 (fn 6 : Nat), .int .u64 (fn 7 : Nat)]) ∧ Below w.heap.size w w'))
    (HN2 : Hid (∀ w, Calls Try.prog 35 #[.agg #[.int .u64 (fn 0 : Nat), .int .u64 (fn 1 : Nat), .int .u64 (fn 2 : Nat), .int .u64 (fn 3 : Nat), .int .u64 (fn 4 : Nat), .int .u64 (fn 5 : Nat), .int .u64 (fn 6 : Nat), .int .u64 (fn 7 : Nat)]] w fun e w' => e = .returned (.agg #[.int .u64 (fa 0 : Nat), .int .u64 (fa 1 : Nat), .int .u64 (fa 2 : Nat), .int .u64 (fa 3 : Nat), .int .u64 (fa 4 : Nat), .int .u64 (fa 5 : Nat), .int .u64 (fa 6 : Nat), .int .u64 (fa 7 : Nat)]) ∧ Below w.heap.size w w'))
    (HSAR : Hid (∀ w, Calls Try.prog 22 #[.agg #[.int .u64 (fa 0 : Nat), .int .u64 (fa 1 : Nat), .int .u64 (fa 2 : Nat), .int .u64 (fa 3 : Nat), .int .u64 (fa 4 : Nat), .int .u64 (fa 5 : Nat), .int .u64 (fa 6 : Nat), .int .u64 (fa 7 : Nat)], .int .i64 (k : Nat)] w fun e w' => e = .returned (.agg #[.int .u64 (fr 0 : Nat), .int .u64 (fr 1 : Nat), .int .u64 (fr 2 : Nat), .int .u64 (fr 3 : Nat), .int .u64 (fr 4 : Nat), .int .u64 (fr 5 : Nat), .int .u64 (fr 6 : Nat), .int .u64 (fr 7 : Nat)]) ∧ Below w.heap.size w w'))
    (HM1 : Hid (∀ w, Calls Try.prog 33 #[.agg #[.int .u64 (fr 0 : Nat), .int .u64 (fr 1 : Nat), .int .u64 (fr 2 : Nat), .int .u64 (fr 3 : Nat), .int .u64 (fr 4 : Nat), .int .u64 (fr 5 : Nat), .int .u64 (fr 6 : Nat), .int .u64 (fr 7 : Nat)]] w fun e w' => e = .returned (.bool m) ∧ Below w.heap.size w w'))
    (HM2 : Hid (∀ w, Calls Try.prog 33 #[.agg #[.int .u64 (fa 0 : Nat), .int .u64 (fa 1 : Nat), .int .u64 (fa 2 : Nat), .int .u64 (fa 3 : Nat), .int .u64 (fa 4 : Nat), .int .u64 (fa 5 : Nat), .int .u64 (fa 6 : Nat), .int .u64 (fa 7 : Nat)]] w fun e w' => e = .returned (.bool m) ∧ Below w.heap.size w w'))
    (HC1 : Hid (∀ w, Calls Try.prog 42 #[.agg #[.int .u64 (fa 0 : Nat), .int .u64 (fa 1 : Nat), .int .u64 (fa 2 : Nat), .int .u64 (fa 3 : Nat), .int .u64 (fa 4 : Nat), .int .u64 (fa 5 : Nat), .int .u64 (fa 6 : Nat), .int .u64 (fa 7 : Nat)], .agg #[.int .u64 (fb 0 : Nat), .int .u64 (fb 1 : Nat), .int .u64 (fb 2 : Nat), .int .u64 (fb 3 : Nat), .int .u64 (fb 4 : Nat), .int .u64 (fb 5 : Nat), .int .u64 (fb 6 : Nat), .int .u64 (fb 7 : Nat)]] w fun e w' => e = .returned (.int .i64 c) ∧ Below w.heap.size w w'))
    (HC2 : Hid (∀ w, Calls Try.prog 42 #[.agg #[.int .u64 (fb 0 : Nat), .int .u64 (fb 1 : Nat), .int .u64 (fb 2 : Nat), .int .u64 (fb 3 : Nat), .int .u64 (fb 4 : Nat), .int .u64 (fb 5 : Nat), .int .u64 (fb 6 : Nat), .int .u64 (fb 7 : Nat)], .agg #[.int .u64 (fa 0 : Nat), .int .u64 (fa 1 : Nat), .int .u64 (fa 2 : Nat), .int .u64 (fa 3 : Nat), .int .u64 (fa 4 : Nat), .int .u64 (fa 5 : Nat), .int .u64 (fa 6 : Nat), .int .u64 (fa 7 : Nat)]] w fun e w' => e = .returned (.int .i64 (-c)) ∧ Below w.heap.size w w'))
    (hneg : IntKind.i64.wrap c = c) :
    Calls Try.prog 5 #[.agg #[.int .u64 (fa 0 : Nat), .int .u64 (fa 1 : Nat), .int .u64 (fa 2 : Nat), .int .u64 (fa 3 : Nat), .int .u64 (fa 4 : Nat), .int .u64 (fa 5 : Nat), .int .u64 (fa 6 : Nat), .int .u64 (fa 7 : Nat)], .agg #[.int .u64 (fb 0 : Nat), .int .u64 (fb 1 : Nat), .int .u64 (fb 2 : Nat), .int .u64 (fb 3 : Nat), .int .u64 (fb 4 : Nat), .int .u64 (fb 5 : Nat), .int .u64 (fb 6 : Nat), .int .u64 (fb 7 : Nat)], .int .u16 (n : Nat)] w fun e w' => e = .returned (.bool true) ∧ Below w.heap.size w w' := by
  have HST := hide (RulesSt.start w fa fb)
  have hsa := fun w => wide_sameF fa w
  have hk5 : k < 512 := by rw [HK.out]; omega
  go_enter Try.func5, Try.ntmps5
  go_upto_region 1 with fail
  refine wp_gen (fun W => RulesSt w fa fb W) HST.out ?_
  rintro W1 h1
  clear HST
  go_cut [7] (fun x wx => x = .int .i64 (k : Nat) ∧ wx = W1)
  case first =>
    go_wp2
    all_goals
      go_meet
      refine ⟨?_, rfl⟩
      first | (rw [HK.out]; congr 1; omega) | (rw [HK.out, Int.natCast_emod]; rfl)
  case rest =>
    obtain ⟨rfl, rfl⟩ := hcut
    have HST := hide h1
    have hca := h1.la.1
    have hcb := h1.lb.1
    clear h1 HK
    go_wp2_with fail
    refine (HADD.out _).mono ?_
    rintro e w2 ⟨rfl, hb2⟩
    replace HST := hide (HST.out.below hb2)
    clear hb2 hca hcb
    go_upto_region 3 with fail
    refine wp_gen (fun W => RulesSt w fa fb W ∧ LiesF W w2.heap.size fs) ⟨HST.out.below (below_allocs _ _), liesF_new _ _ _⟩ ?_
    rintro W2 ⟨h1, h2⟩
    generalize w2.heap.size = p8 at *
    replace HST := hide h1
    have hcs := h2.1
    have hcb := h1.lb.1
    clear h1 h2
    go_wp2_with fail
    refine (HSUB.out _).mono ?_
    rintro e w3 ⟨rfl, hb3⟩
    replace HST := hide (HST.out.below hb3)
    clear hb3 hcs hcb
    go_upto_region 4 with fail
    refine wp_gen (fun W => RulesSt w fa fb W ∧ LiesF W w3.heap.size fa) ⟨HST.out.below (below_allocs _ _), liesF_new _ _ _⟩ ?_
    rintro W3 ⟨h1, h2⟩
    generalize w3.heap.size = p10 at *
    replace HST := hide h1
    have hcs := h2.1
    have hca := h1.la.1
    clear h1 h2
    go_wp2_with fail
    refine (HSHL.out _).mono ?_
    rintro e w4 ⟨rfl, hb4⟩
    replace HST := hide (HST.out.below hb4)
    clear hb4 hcs hca
    go_upto_region 7 with fail
    refine wp_gen (fun W => RulesSt w fa fb W ∧ LiesF W w4.heap.size fu) ⟨HST.out.below (below_allocs _ _), liesF_new _ _ _⟩ ?_
    rintro W4 ⟨h1, h2⟩
    generalize w4.heap.size = p12 at *
    replace HST := hide h1
    have hcs := h2.1
    clear h1 h2
    go_wp2_with fail
    refine (HSHR.out _).mono ?_
    rintro e w5 ⟨rfl, hb5⟩
    replace HST := hide (HST.out.below hb5)
    clear hb5 hcs
    go_upto_region 8 with fail
    refine wp_gen (fun W => RulesSt w fa fb W ∧ LiesF W w5.heap.size fd) ⟨HST.out.below (below_allocs _ _), liesF_new _ _ _⟩ ?_
    rintro W5 ⟨h1, h2⟩
    generalize w5.heap.size = p13 at *
    replace HST := hide h1
    have HD := hide h2
    have hca := h1.la.1
    clear h1 h2
    by_cases hlk : L + k ≤ 512
    · have hle : (L : Int) + (k : Int) ≤ 512 := by omega
      have hda' := hda hlk
      clear hda hlk
      go_wp2_with fail
      refine (HLEN.out _).mono ?_
      rintro e w6 ⟨rfl, hb6⟩
      replace HST := hide (HST.out.below hb6)
      replace HD := hide (HD.out.below hb6)
      have hca := HST.out.la.1
      have hcd := HD.out.1
      clear hb6
      go_upto_region 10 with fail
      clear hca hcd HD hda'
      refine wp_region_grow 28 [(60, .val (.agg #[.int .u64 (fa 0 : Nat), .int .u64 (fa 1 : Nat), .int .u64 (fa 2 : Nat), .int .u64 (fa 3 : Nat), .int .u64 (fa 4 : Nat), .int .u64 (fa 5 : Nat), .int .u64 (fa 6 : Nat), .int .u64 (fa 7 : Nat)])), (61, .val (.agg #[.int .u64 (fn 0 : Nat), .int .u64 (fn 1 : Nat), .int .u64 (fn 2 : Nat), .int .u64 (fn 3 : Nat), .int .u64 (fn 4 : Nat), .int .u64 (fn 5 : Nat), .int .u64 (fn 6 : Nat), .int .u64 (fn 7 : Nat)])), (62, .val (.agg #[.int .u64 (fa 0 : Nat), .int .u64 (fa 1 : Nat), .int .u64 (fa 2 : Nat), .int .u64 (fa 3 : Nat), .int .u64 (fa 4 : Nat), .int .u64 (fa 5 : Nat), .int .u64 (fa 6 : Nat), .int .u64 (fa 7 : Nat)])), (63, .val (.agg #[.int .u64 (fa 0 : Nat), .int .u64 (fa 1 : Nat), .int .u64 (fa 2 : Nat), .int .u64 (fa 3 : Nat), .int .u64 (fa 4 : Nat), .int .u64 (fa 5 : Nat), .int .u64 (fa 6 : Nat), .int .u64 (fa 7 : Nat)])), (64, .val (.bool true)), (65, .val (.bool true)), (66, .val (.agg #[.int .u64 (fa 0 : Nat), .int .u64 (fa 1 : Nat), .int .u64 (fa 2 : Nat), .int .u64 (fa 3 : Nat), .int .u64 (fa 4 : Nat), .int .u64 (fa 5 : Nat), .int .u64 (fa 6 : Nat), .int .u64 (fa 7 : Nat)])), (67, .val (.int .i64 (k : Nat))), (68, .val (.agg #[.int .u64 (fr 0 : Nat), .int .u64 (fr 1 : Nat), .int .u64 (fr 2 : Nat), .int .u64 (fr 3 : Nat), .int .u64 (fr 4 : Nat), .int .u64 (fr 5 : Nat), .int .u64 (fr 6 : Nat), .int .u64 (fr 7 : Nat)])), (69, .val (.bool m)), (70, .val (.agg #[.int .u64 (fa 0 : Nat), .int .u64 (fa 1 : Nat), .int .u64 (fa 2 : Nat), .int .u64 (fa 3 : Nat), .int .u64 (fa 4 : Nat), .int .u64 (fa 5 : Nat), .int .u64 (fa 6 : Nat), .int .u64 (fa 7 : Nat)])), (71, .val (.bool m)), (72, .val (.bool true)), (73, .val (.bool true)), (74, .val (.bool true)), (75, .val (.agg #[.int .u64 (fa 0 : Nat), .int .u64 (fa 1 : Nat), .int .u64 (fa 2 : Nat), .int .u64 (fa 3 : Nat), .int .u64 (fa 4 : Nat), .int .u64 (fa 5 : Nat), .int .u64 (fa 6 : Nat), .int .u64 (fa 7 : Nat)])), (76, .val (.agg #[.int .u64 (fb 0 : Nat), .int .u64 (fb 1 : Nat), .int .u64 (fb 2 : Nat), .int .u64 (fb 3 : Nat), .int .u64 (fb 4 : Nat), .int .u64 (fb 5 : Nat), .int .u64 (fb 6 : Nat), .int .u64 (fb 7 : Nat)])), (77, .val (.int .i64 c)), (78, .val (.agg #[.int .u64 (fb 0 : Nat), .int .u64 (fb 1 : Nat), .int .u64 (fb 2 : Nat), .int .u64 (fb 3 : Nat), .int .u64 (fb 4 : Nat), .int .u64 (fb 5 : Nat), .int .u64 (fb 6 : Nat), .int .u64 (fb 7 : Nat)])), (79, .val (.agg #[.int .u64 (fa 0 : Nat), .int .u64 (fa 1 : Nat), .int .u64 (fa 2 : Nat), .int .u64 (fa 3 : Nat), .int .u64 (fa 4 : Nat), .int .u64 (fa 5 : Nat), .int .u64 (fa 6 : Nat), .int .u64 (fa 7 : Nat)])), (80, .val (.int .i64 (-c))), (81, .val (.int .i64 c)), (82, .val (.bool true)), (83, .val (.bool true)), (84, .val (.bool true)), (85, .val (.bool true)), (86, .val (.bool true)), (6, .val (.bool true))]
        (fun W => RulesSt w fa fb W) mixedOk (by kernel_rfl) (by kernel_rfl) (HST.out.below (Below.refl _ _).drew) (fun W W' h hb => h.below hb) ?_ ?_
      · refine gSt (gStep_run rfl ?_) ?_
        · intro ρ W hC hc hf hL
          have e3 : ρ (.tmp 3) = .pointer (some ⟨w.heap.size, 0, none⟩) := hL 3 (by decide +kernel)
          have hl := hC.la.1
          simp [go_sem, hc, hf, e3, hl]
          exact ⟨Below.refl _ _, rfl⟩
        refine gSt (gStep_run rfl ?_) ?_
        · intro ρ W hC hc hf hL
          have e60 : ρ (.tmp 60) = .agg #[.int .u64 (fa 0 : Nat), .int .u64 (fa 1 : Nat), .int .u64 (fa 2 : Nat), .int .u64 (fa 3 : Nat), .int .u64 (fa 4 : Nat), .int .u64 (fa 5 : Nat), .int .u64 (fa 6 : Nat), .int .u64 (fa 7 : Nat)] := hL 60 (by decide +kernel)
          simp [go_sem, hc, hf, e60]
          refine (HN1.out _).mono ?_
          rintro e w' ⟨rfl, hb⟩
          exact ⟨_, rfl, by first | exact hb | (subst hb; exact Below.refl _ _), rfl⟩
        refine gSt (gStep_run rfl ?_) ?_
        · intro ρ W hC hc hf hL
          have e61 : ρ (.tmp 61) = .agg #[.int .u64 (fn 0 : Nat), .int .u64 (fn 1 : Nat), .int .u64 (fn 2 : Nat), .int .u64 (fn 3 : Nat), .int .u64 (fn 4 : Nat), .int .u64 (fn 5 : Nat), .int .u64 (fn 6 : Nat), .int .u64 (fn 7 : Nat)] := hL 61 (by decide +kernel)
          simp [go_sem, hc, hf, e61]
          refine (HN2.out _).mono ?_
          rintro e w' ⟨rfl, hb⟩
          exact ⟨_, rfl, by first | exact hb | (subst hb; exact Below.refl _ _), rfl⟩
        refine gSt (gStep_run rfl ?_) ?_
        · intro ρ W hC hc hf hL
          have e3 : ρ (.tmp 3) = .pointer (some ⟨w.heap.size, 0, none⟩) := hL 3 (by decide +kernel)
          have hl := hC.la.1
          simp [go_sem, hc, hf, e3, hl]
          exact ⟨Below.refl _ _, rfl⟩
        refine gSt (gStep_run rfl ?_) ?_
        · intro ρ W hC hc hf hL
          have e62 : ρ (.tmp 62) = .agg #[.int .u64 (fa 0 : Nat), .int .u64 (fa 1 : Nat), .int .u64 (fa 2 : Nat), .int .u64 (fa 3 : Nat), .int .u64 (fa 4 : Nat), .int .u64 (fa 5 : Nat), .int .u64 (fa 6 : Nat), .int .u64 (fa 7 : Nat)] := hL 62 (by decide +kernel)
          have e63 : ρ (.tmp 63) = .agg #[.int .u64 (fa 0 : Nat), .int .u64 (fa 1 : Nat), .int .u64 (fa 2 : Nat), .int .u64 (fa 3 : Nat), .int .u64 (fa 4 : Nat), .int .u64 (fa 5 : Nat), .int .u64 (fa 6 : Nat), .int .u64 (fa 7 : Nat)] := hL 63 (by decide +kernel)
          simp [go_sem, hc, hf, e62, e63, wide_sameF]
          exact ⟨Below.refl _ _, rfl⟩
        refine gSt (gStep_run rfl (gRun_move 64 65 (.inl rfl) rfl (by decide +kernel) (fun v w h => h))) ?_
        refine gSt (gStep_on 5 65 true rfl rfl (by decide +kernel) (fun v w h => h) ?_) ?_
        · intro ρ W hC hc hf hL
          have e3 : ρ (.tmp 3) = .pointer (some ⟨w.heap.size, 0, none⟩) := hL 3 (by decide +kernel)
          have hl := hC.la.1
          simp [go_sem, hc, hf, e3, hl]
          exact ⟨Below.refl _ _, rfl⟩
        refine gSt (gStep_on 5 65 true rfl rfl (by decide +kernel) (fun v w h => h) (gRun_move 7 67 (.inl rfl) rfl (by decide +kernel) (fun v w h => h))) ?_
        refine gSt (gStep_on 5 65 true rfl rfl (by decide +kernel) (fun v w h => h) ?_) ?_
        · intro ρ W hC hc hf hL
          have e66 : ρ (.tmp 66) = .agg #[.int .u64 (fa 0 : Nat), .int .u64 (fa 1 : Nat), .int .u64 (fa 2 : Nat), .int .u64 (fa 3 : Nat), .int .u64 (fa 4 : Nat), .int .u64 (fa 5 : Nat), .int .u64 (fa 6 : Nat), .int .u64 (fa 7 : Nat)] := hL 66 (by decide +kernel)
          have e67 : ρ (.tmp 67) = .int .i64 (k : Nat) := hL 67 (by decide +kernel)
          simp [go_sem, hc, hf, e66, e67]
          refine (HSAR.out _).mono ?_
          rintro e w' ⟨rfl, hb⟩
          exact ⟨_, rfl, by first | exact hb | (subst hb; exact Below.refl _ _), rfl⟩
        refine gSt (gStep_on 5 65 true rfl rfl (by decide +kernel) (fun v w h => h) ?_) ?_
        · intro ρ W hC hc hf hL
          have e68 : ρ (.tmp 68) = .agg #[.int .u64 (fr 0 : Nat), .int .u64 (fr 1 : Nat), .int .u64 (fr 2 : Nat), .int .u64 (fr 3 : Nat), .int .u64 (fr 4 : Nat), .int .u64 (fr 5 : Nat), .int .u64 (fr 6 : Nat), .int .u64 (fr 7 : Nat)] := hL 68 (by decide +kernel)
          simp [go_sem, hc, hf, e68]
          refine (HM1.out _).mono ?_
          rintro e w' ⟨rfl, hb⟩
          exact ⟨_, rfl, by first | exact hb | (subst hb; exact Below.refl _ _), rfl⟩
        refine gSt (gStep_on 5 65 true rfl rfl (by decide +kernel) (fun v w h => h) ?_) ?_
        · intro ρ W hC hc hf hL
          have e3 : ρ (.tmp 3) = .pointer (some ⟨w.heap.size, 0, none⟩) := hL 3 (by decide +kernel)
          have hl := hC.la.1
          simp [go_sem, hc, hf, e3, hl]
          exact ⟨Below.refl _ _, rfl⟩
        refine gSt (gStep_on 5 65 true rfl rfl (by decide +kernel) (fun v w h => h) ?_) ?_
        · intro ρ W hC hc hf hL
          have e70 : ρ (.tmp 70) = .agg #[.int .u64 (fa 0 : Nat), .int .u64 (fa 1 : Nat), .int .u64 (fa 2 : Nat), .int .u64 (fa 3 : Nat), .int .u64 (fa 4 : Nat), .int .u64 (fa 5 : Nat), .int .u64 (fa 6 : Nat), .int .u64 (fa 7 : Nat)] := hL 70 (by decide +kernel)
          simp [go_sem, hc, hf, e70]
          refine (HM2.out _).mono ?_
          rintro e w' ⟨rfl, hb⟩
          exact ⟨_, rfl, by first | exact hb | (subst hb; exact Below.refl _ _), rfl⟩
        refine gSt (gStep_on 5 65 true rfl rfl (by decide +kernel) (fun v w h => h) ?_) ?_
        · intro ρ W hC hc hf hL
          have e69 : ρ (.tmp 69) = .bool m := hL 69 (by decide +kernel)
          have e71 : ρ (.tmp 71) = .bool m := hL 71 (by decide +kernel)
          simp [go_sem, hc, hf, e69, e71]
          exact ⟨Below.refl _ _, rfl⟩
        refine gSt (gStep_run rfl (gRun_pickT 65 72 73 _ rfl rfl (by decide +kernel) (by decide +kernel) (fun v w h => h) (fun v w h => h))) ?_
        refine gSt (gStep_run rfl (gRun_move 73 74 (.inl rfl) rfl (by decide +kernel) (fun v w h => h))) ?_
        refine gSt (gStep_on 14 74 true rfl rfl (by decide +kernel) (fun v w h => h) ?_) ?_
        · intro ρ W hC hc hf hL
          have e3 : ρ (.tmp 3) = .pointer (some ⟨w.heap.size, 0, none⟩) := hL 3 (by decide +kernel)
          have hl := hC.la.1
          simp [go_sem, hc, hf, e3, hl]
          exact ⟨Below.refl _ _, rfl⟩
        refine gSt (gStep_on 14 74 true rfl rfl (by decide +kernel) (fun v w h => h) ?_) ?_
        · intro ρ W hC hc hf hL
          have e4 : ρ (.tmp 4) = .pointer (some ⟨w.heap.size + 1, 0, none⟩) := hL 4 (by decide +kernel)
          have hl := hC.lb.1
          simp [go_sem, hc, hf, e4, hl]
          exact ⟨Below.refl _ _, rfl⟩
        refine gSt (gStep_on 14 74 true rfl rfl (by decide +kernel) (fun v w h => h) ?_) ?_
        · intro ρ W hC hc hf hL
          have e75 : ρ (.tmp 75) = .agg #[.int .u64 (fa 0 : Nat), .int .u64 (fa 1 : Nat), .int .u64 (fa 2 : Nat), .int .u64 (fa 3 : Nat), .int .u64 (fa 4 : Nat), .int .u64 (fa 5 : Nat), .int .u64 (fa 6 : Nat), .int .u64 (fa 7 : Nat)] := hL 75 (by decide +kernel)
          have e76 : ρ (.tmp 76) = .agg #[.int .u64 (fb 0 : Nat), .int .u64 (fb 1 : Nat), .int .u64 (fb 2 : Nat), .int .u64 (fb 3 : Nat), .int .u64 (fb 4 : Nat), .int .u64 (fb 5 : Nat), .int .u64 (fb 6 : Nat), .int .u64 (fb 7 : Nat)] := hL 76 (by decide +kernel)
          simp [go_sem, hc, hf, e75, e76]
          refine (HC1.out _).mono ?_
          rintro e w' ⟨rfl, hb⟩
          exact ⟨_, rfl, by first | exact hb | (subst hb; exact Below.refl _ _), rfl⟩
        refine gSt (gStep_on 14 74 true rfl rfl (by decide +kernel) (fun v w h => h) ?_) ?_
        · intro ρ W hC hc hf hL
          have e4 : ρ (.tmp 4) = .pointer (some ⟨w.heap.size + 1, 0, none⟩) := hL 4 (by decide +kernel)
          have hl := hC.lb.1
          simp [go_sem, hc, hf, e4, hl]
          exact ⟨Below.refl _ _, rfl⟩
        refine gSt (gStep_on 14 74 true rfl rfl (by decide +kernel) (fun v w h => h) ?_) ?_
        · intro ρ W hC hc hf hL
          have e3 : ρ (.tmp 3) = .pointer (some ⟨w.heap.size, 0, none⟩) := hL 3 (by decide +kernel)
          have hl := hC.la.1
          simp [go_sem, hc, hf, e3, hl]
          exact ⟨Below.refl _ _, rfl⟩
        refine gSt (gStep_on 14 74 true rfl rfl (by decide +kernel) (fun v w h => h) ?_) ?_
        · intro ρ W hC hc hf hL
          have e78 : ρ (.tmp 78) = .agg #[.int .u64 (fb 0 : Nat), .int .u64 (fb 1 : Nat), .int .u64 (fb 2 : Nat), .int .u64 (fb 3 : Nat), .int .u64 (fb 4 : Nat), .int .u64 (fb 5 : Nat), .int .u64 (fb 6 : Nat), .int .u64 (fb 7 : Nat)] := hL 78 (by decide +kernel)
          have e79 : ρ (.tmp 79) = .agg #[.int .u64 (fa 0 : Nat), .int .u64 (fa 1 : Nat), .int .u64 (fa 2 : Nat), .int .u64 (fa 3 : Nat), .int .u64 (fa 4 : Nat), .int .u64 (fa 5 : Nat), .int .u64 (fa 6 : Nat), .int .u64 (fa 7 : Nat)] := hL 79 (by decide +kernel)
          simp [go_sem, hc, hf, e78, e79]
          refine (HC2.out _).mono ?_
          rintro e w' ⟨rfl, hb⟩
          exact ⟨_, rfl, by first | exact hb | (subst hb; exact Below.refl _ _), rfl⟩
        refine gSt (gStep_on 14 74 true rfl rfl (by decide +kernel) (fun v w h => h) ?_) ?_
        · intro ρ W hC hc hf hL
          have e80 : ρ (.tmp 80) = .int .i64 (-c) := hL 80 (by decide +kernel)
          simp [go_sem, hc, hf, e80, hneg]
          exact ⟨Below.refl _ _, rfl⟩
        refine gSt (gStep_on 14 74 true rfl rfl (by decide +kernel) (fun v w h => h) ?_) ?_
        · intro ρ W hC hc hf hL
          have e77 : ρ (.tmp 77) = .int .i64 c := hL 77 (by decide +kernel)
          have e81 : ρ (.tmp 81) = .int .i64 c := hL 81 (by decide +kernel)
          simp [go_sem, hc, hf, e77, e81]
          exact ⟨Below.refl _ _, rfl⟩
        refine gSt (gStep_run rfl (gRun_pickT 74 82 83 _ rfl rfl (by decide +kernel) (by decide +kernel) (fun v w h => h) (fun v w h => h))) ?_
        refine gSt (gStep_run rfl (gRun_move 83 84 (.inl rfl) rfl (by decide +kernel) (fun v w h => h))) ?_
        refine gSt (gStep_on 24 84 true rfl rfl (by decide +kernel) (fun v w h => h) ?_) ?_
        · intro ρ W hC hc hf hL
          simp [go_sem, hc, hf]
          refine (awake2_any _).mono ?_
          rintro e w' ⟨rfl, hb⟩
          exact ⟨_, rfl, by first | exact hb | (subst hb; exact Below.refl _ _), rfl⟩
        refine gSt (gStep_run rfl (gRun_pickT 84 85 86 _ rfl rfl (by decide +kernel) (by decide +kernel) (fun v w h => h) (fun v w h => h))) ?_
        refine gSt (gStep_run rfl (gRun_move 86 6 (.inr rfl) rfl (by decide +kernel) (fun v w h => h))) ?_
        exact gSt0
      · intro W hC
        refine gFi 60 rfl ?_
        rintro _ rfl
        refine gFi 61 rfl ?_
        rintro _ rfl
        refine gFi 62 rfl ?_
        rintro _ rfl
        refine gFi 63 rfl ?_
        rintro _ rfl
        refine gFi 64 rfl ?_
        rintro _ rfl
        refine gFi 65 rfl ?_
        rintro _ rfl
        refine gFi 66 rfl ?_
        rintro _ rfl
        refine gFi 67 rfl ?_
        rintro _ rfl
        refine gFi 68 rfl ?_
        rintro _ rfl
        refine gFi 69 rfl ?_
        rintro _ rfl
        refine gFi 70 rfl ?_
        rintro _ rfl
        refine gFi 71 rfl ?_
        rintro _ rfl
        refine gFi 72 rfl ?_
        rintro _ rfl
        refine gFi 73 rfl ?_
        rintro _ rfl
        refine gFi 74 rfl ?_
        rintro _ rfl
        refine gFi 75 rfl ?_
        rintro _ rfl
        refine gFi 76 rfl ?_
        rintro _ rfl
        refine gFi 77 rfl ?_
        rintro _ rfl
        refine gFi 78 rfl ?_
        rintro _ rfl
        refine gFi 79 rfl ?_
        rintro _ rfl
        refine gFi 80 rfl ?_
        rintro _ rfl
        refine gFi 81 rfl ?_
        rintro _ rfl
        refine gFi 82 rfl ?_
        rintro _ rfl
        refine gFi 83 rfl ?_
        rintro _ rfl
        refine gFi 84 rfl ?_
        rintro _ rfl
        refine gFi 85 rfl ?_
        rintro _ rfl
        refine gFi 86 rfl ?_
        rintro _ rfl
        refine gFi 6 rfl ?_
        rintro _ rfl
        refine gFi0 ?_
        simp only [List.drop_succ_cons, List.drop_zero, Act.put, List.setIfInBounds_toArray, List.set_cons_succ, List.set_cons_zero]
        have HB0 := hide hC.bel
        clear hC HST
        go_wp2
        go_ret
        exact ⟨rfl, HB0.out⟩
    · have hle : ¬ (L : Int) + (k : Int) ≤ 512 := by omega
      clear hda hlk
      go_wp2_with fail
      refine (HLEN.out _).mono ?_
      rintro e w6 ⟨rfl, hb6⟩
      replace HST := hide (HST.out.below hb6)
      have hca := HST.out.la.1
      clear hb6
      go_upto_region 10 with fail
      clear hca HD
      refine wp_region_grow 28 [(60, .val (.agg #[.int .u64 (fa 0 : Nat), .int .u64 (fa 1 : Nat), .int .u64 (fa 2 : Nat), .int .u64 (fa 3 : Nat), .int .u64 (fa 4 : Nat), .int .u64 (fa 5 : Nat), .int .u64 (fa 6 : Nat), .int .u64 (fa 7 : Nat)])), (61, .val (.agg #[.int .u64 (fn 0 : Nat), .int .u64 (fn 1 : Nat), .int .u64 (fn 2 : Nat), .int .u64 (fn 3 : Nat), .int .u64 (fn 4 : Nat), .int .u64 (fn 5 : Nat), .int .u64 (fn 6 : Nat), .int .u64 (fn 7 : Nat)])), (62, .val (.agg #[.int .u64 (fa 0 : Nat), .int .u64 (fa 1 : Nat), .int .u64 (fa 2 : Nat), .int .u64 (fa 3 : Nat), .int .u64 (fa 4 : Nat), .int .u64 (fa 5 : Nat), .int .u64 (fa 6 : Nat), .int .u64 (fa 7 : Nat)])), (63, .val (.agg #[.int .u64 (fa 0 : Nat), .int .u64 (fa 1 : Nat), .int .u64 (fa 2 : Nat), .int .u64 (fa 3 : Nat), .int .u64 (fa 4 : Nat), .int .u64 (fa 5 : Nat), .int .u64 (fa 6 : Nat), .int .u64 (fa 7 : Nat)])), (64, .val (.bool true)), (65, .val (.bool true)), (66, .val (.agg #[.int .u64 (fa 0 : Nat), .int .u64 (fa 1 : Nat), .int .u64 (fa 2 : Nat), .int .u64 (fa 3 : Nat), .int .u64 (fa 4 : Nat), .int .u64 (fa 5 : Nat), .int .u64 (fa 6 : Nat), .int .u64 (fa 7 : Nat)])), (67, .val (.int .i64 (k : Nat))), (68, .val (.agg #[.int .u64 (fr 0 : Nat), .int .u64 (fr 1 : Nat), .int .u64 (fr 2 : Nat), .int .u64 (fr 3 : Nat), .int .u64 (fr 4 : Nat), .int .u64 (fr 5 : Nat), .int .u64 (fr 6 : Nat), .int .u64 (fr 7 : Nat)])), (69, .val (.bool m)), (70, .val (.agg #[.int .u64 (fa 0 : Nat), .int .u64 (fa 1 : Nat), .int .u64 (fa 2 : Nat), .int .u64 (fa 3 : Nat), .int .u64 (fa 4 : Nat), .int .u64 (fa 5 : Nat), .int .u64 (fa 6 : Nat), .int .u64 (fa 7 : Nat)])), (71, .val (.bool m)), (72, .val (.bool true)), (73, .val (.bool true)), (74, .val (.bool true)), (75, .val (.agg #[.int .u64 (fa 0 : Nat), .int .u64 (fa 1 : Nat), .int .u64 (fa 2 : Nat), .int .u64 (fa 3 : Nat), .int .u64 (fa 4 : Nat), .int .u64 (fa 5 : Nat), .int .u64 (fa 6 : Nat), .int .u64 (fa 7 : Nat)])), (76, .val (.agg #[.int .u64 (fb 0 : Nat), .int .u64 (fb 1 : Nat), .int .u64 (fb 2 : Nat), .int .u64 (fb 3 : Nat), .int .u64 (fb 4 : Nat), .int .u64 (fb 5 : Nat), .int .u64 (fb 6 : Nat), .int .u64 (fb 7 : Nat)])), (77, .val (.int .i64 c)), (78, .val (.agg #[.int .u64 (fb 0 : Nat), .int .u64 (fb 1 : Nat), .int .u64 (fb 2 : Nat), .int .u64 (fb 3 : Nat), .int .u64 (fb 4 : Nat), .int .u64 (fb 5 : Nat), .int .u64 (fb 6 : Nat), .int .u64 (fb 7 : Nat)])), (79, .val (.agg #[.int .u64 (fa 0 : Nat), .int .u64 (fa 1 : Nat), .int .u64 (fa 2 : Nat), .int .u64 (fa 3 : Nat), .int .u64 (fa 4 : Nat), .int .u64 (fa 5 : Nat), .int .u64 (fa 6 : Nat), .int .u64 (fa 7 : Nat)])), (80, .val (.int .i64 (-c))), (81, .val (.int .i64 c)), (82, .val (.bool true)), (83, .val (.bool true)), (84, .val (.bool true)), (85, .val (.bool true)), (86, .val (.bool true)), (6, .val (.bool true))]
        (fun W => RulesSt w fa fb W) mixedOk (by kernel_rfl) (by kernel_rfl) (HST.out.below (Below.refl _ _).drew) (fun W W' h hb => h.below hb) ?_ ?_
      · refine gSt (gStep_run rfl ?_) ?_
        · intro ρ W hC hc hf hL
          have e3 : ρ (.tmp 3) = .pointer (some ⟨w.heap.size, 0, none⟩) := hL 3 (by decide +kernel)
          have hl := hC.la.1
          simp [go_sem, hc, hf, e3, hl]
          exact ⟨Below.refl _ _, rfl⟩
        refine gSt (gStep_run rfl ?_) ?_
        · intro ρ W hC hc hf hL
          have e60 : ρ (.tmp 60) = .agg #[.int .u64 (fa 0 : Nat), .int .u64 (fa 1 : Nat), .int .u64 (fa 2 : Nat), .int .u64 (fa 3 : Nat), .int .u64 (fa 4 : Nat), .int .u64 (fa 5 : Nat), .int .u64 (fa 6 : Nat), .int .u64 (fa 7 : Nat)] := hL 60 (by decide +kernel)
          simp [go_sem, hc, hf, e60]
          refine (HN1.out _).mono ?_
          rintro e w' ⟨rfl, hb⟩
          exact ⟨_, rfl, by first | exact hb | (subst hb; exact Below.refl _ _), rfl⟩
        refine gSt (gStep_run rfl ?_) ?_
        · intro ρ W hC hc hf hL
          have e61 : ρ (.tmp 61) = .agg #[.int .u64 (fn 0 : Nat), .int .u64 (fn 1 : Nat), .int .u64 (fn 2 : Nat), .int .u64 (fn 3 : Nat), .int .u64 (fn 4 : Nat), .int .u64 (fn 5 : Nat), .int .u64 (fn 6 : Nat), .int .u64 (fn 7 : Nat)] := hL 61 (by decide +kernel)
          simp [go_sem, hc, hf, e61]
          refine (HN2.out _).mono ?_
          rintro e w' ⟨rfl, hb⟩
          exact ⟨_, rfl, by first | exact hb | (subst hb; exact Below.refl _ _), rfl⟩
        refine gSt (gStep_run rfl ?_) ?_
        · intro ρ W hC hc hf hL
          have e3 : ρ (.tmp 3) = .pointer (some ⟨w.heap.size, 0, none⟩) := hL 3 (by decide +kernel)
          have hl := hC.la.1
          simp [go_sem, hc, hf, e3, hl]
          exact ⟨Below.refl _ _, rfl⟩
        refine gSt (gStep_run rfl ?_) ?_
        · intro ρ W hC hc hf hL
          have e62 : ρ (.tmp 62) = .agg #[.int .u64 (fa 0 : Nat), .int .u64 (fa 1 : Nat), .int .u64 (fa 2 : Nat), .int .u64 (fa 3 : Nat), .int .u64 (fa 4 : Nat), .int .u64 (fa 5 : Nat), .int .u64 (fa 6 : Nat), .int .u64 (fa 7 : Nat)] := hL 62 (by decide +kernel)
          have e63 : ρ (.tmp 63) = .agg #[.int .u64 (fa 0 : Nat), .int .u64 (fa 1 : Nat), .int .u64 (fa 2 : Nat), .int .u64 (fa 3 : Nat), .int .u64 (fa 4 : Nat), .int .u64 (fa 5 : Nat), .int .u64 (fa 6 : Nat), .int .u64 (fa 7 : Nat)] := hL 63 (by decide +kernel)
          simp [go_sem, hc, hf, e62, e63, wide_sameF]
          exact ⟨Below.refl _ _, rfl⟩
        refine gSt (gStep_run rfl (gRun_move 64 65 (.inl rfl) rfl (by decide +kernel) (fun v w h => h))) ?_
        refine gSt (gStep_on 5 65 true rfl rfl (by decide +kernel) (fun v w h => h) ?_) ?_
        · intro ρ W hC hc hf hL
          have e3 : ρ (.tmp 3) = .pointer (some ⟨w.heap.size, 0, none⟩) := hL 3 (by decide +kernel)
          have hl := hC.la.1
          simp [go_sem, hc, hf, e3, hl]
          exact ⟨Below.refl _ _, rfl⟩
        refine gSt (gStep_on 5 65 true rfl rfl (by decide +kernel) (fun v w h => h) (gRun_move 7 67 (.inl rfl) rfl (by decide +kernel) (fun v w h => h))) ?_
        refine gSt (gStep_on 5 65 true rfl rfl (by decide +kernel) (fun v w h => h) ?_) ?_
        · intro ρ W hC hc hf hL
          have e66 : ρ (.tmp 66) = .agg #[.int .u64 (fa 0 : Nat), .int .u64 (fa 1 : Nat), .int .u64 (fa 2 : Nat), .int .u64 (fa 3 : Nat), .int .u64 (fa 4 : Nat), .int .u64 (fa 5 : Nat), .int .u64 (fa 6 : Nat), .int .u64 (fa 7 : Nat)] := hL 66 (by decide +kernel)
          have e67 : ρ (.tmp 67) = .int .i64 (k : Nat) := hL 67 (by decide +kernel)
          simp [go_sem, hc, hf, e66, e67]
          refine (HSAR.out _).mono ?_
          rintro e w' ⟨rfl, hb⟩
          exact ⟨_, rfl, by first | exact hb | (subst hb; exact Below.refl _ _), rfl⟩
        refine gSt (gStep_on 5 65 true rfl rfl (by decide +kernel) (fun v w h => h) ?_) ?_
        · intro ρ W hC hc hf hL
          have e68 : ρ (.tmp 68) = .agg #[.int .u64 (fr 0 : Nat), .int .u64 (fr 1 : Nat), .int .u64 (fr 2 : Nat), .int .u64 (fr 3 : Nat), .int .u64 (fr 4 : Nat), .int .u64 (fr 5 : Nat), .int .u64 (fr 6 : Nat), .int .u64 (fr 7 : Nat)] := hL 68 (by decide +kernel)
          simp [go_sem, hc, hf, e68]
          refine (HM1.out _).mono ?_
          rintro e w' ⟨rfl, hb⟩
          exact ⟨_, rfl, by first | exact hb | (subst hb; exact Below.refl _ _), rfl⟩
        refine gSt (gStep_on 5 65 true rfl rfl (by decide +kernel) (fun v w h => h) ?_) ?_
        · intro ρ W hC hc hf hL
          have e3 : ρ (.tmp 3) = .pointer (some ⟨w.heap.size, 0, none⟩) := hL 3 (by decide +kernel)
          have hl := hC.la.1
          simp [go_sem, hc, hf, e3, hl]
          exact ⟨Below.refl _ _, rfl⟩
        refine gSt (gStep_on 5 65 true rfl rfl (by decide +kernel) (fun v w h => h) ?_) ?_
        · intro ρ W hC hc hf hL
          have e70 : ρ (.tmp 70) = .agg #[.int .u64 (fa 0 : Nat), .int .u64 (fa 1 : Nat), .int .u64 (fa 2 : Nat), .int .u64 (fa 3 : Nat), .int .u64 (fa 4 : Nat), .int .u64 (fa 5 : Nat), .int .u64 (fa 6 : Nat), .int .u64 (fa 7 : Nat)] := hL 70 (by decide +kernel)
          simp [go_sem, hc, hf, e70]
          refine (HM2.out _).mono ?_
          rintro e w' ⟨rfl, hb⟩
          exact ⟨_, rfl, by first | exact hb | (subst hb; exact Below.refl _ _), rfl⟩
        refine gSt (gStep_on 5 65 true rfl rfl (by decide +kernel) (fun v w h => h) ?_) ?_
        · intro ρ W hC hc hf hL
          have e69 : ρ (.tmp 69) = .bool m := hL 69 (by decide +kernel)
          have e71 : ρ (.tmp 71) = .bool m := hL 71 (by decide +kernel)
          simp [go_sem, hc, hf, e69, e71]
          exact ⟨Below.refl _ _, rfl⟩
        refine gSt (gStep_run rfl (gRun_pickT 65 72 73 _ rfl rfl (by decide +kernel) (by decide +kernel) (fun v w h => h) (fun v w h => h))) ?_
        refine gSt (gStep_run rfl (gRun_move 73 74 (.inl rfl) rfl (by decide +kernel) (fun v w h => h))) ?_
        refine gSt (gStep_on 14 74 true rfl rfl (by decide +kernel) (fun v w h => h) ?_) ?_
        · intro ρ W hC hc hf hL
          have e3 : ρ (.tmp 3) = .pointer (some ⟨w.heap.size, 0, none⟩) := hL 3 (by decide +kernel)
          have hl := hC.la.1
          simp [go_sem, hc, hf, e3, hl]
          exact ⟨Below.refl _ _, rfl⟩
        refine gSt (gStep_on 14 74 true rfl rfl (by decide +kernel) (fun v w h => h) ?_) ?_
        · intro ρ W hC hc hf hL
          have e4 : ρ (.tmp 4) = .pointer (some ⟨w.heap.size + 1, 0, none⟩) := hL 4 (by decide +kernel)
          have hl := hC.lb.1
          simp [go_sem, hc, hf, e4, hl]
          exact ⟨Below.refl _ _, rfl⟩
        refine gSt (gStep_on 14 74 true rfl rfl (by decide +kernel) (fun v w h => h) ?_) ?_
        · intro ρ W hC hc hf hL
          have e75 : ρ (.tmp 75) = .agg #[.int .u64 (fa 0 : Nat), .int .u64 (fa 1 : Nat), .int .u64 (fa 2 : Nat), .int .u64 (fa 3 : Nat), .int .u64 (fa 4 : Nat), .int .u64 (fa 5 : Nat), .int .u64 (fa 6 : Nat), .int .u64 (fa 7 : Nat)] := hL 75 (by decide +kernel)
          have e76 : ρ (.tmp 76) = .agg #[.int .u64 (fb 0 : Nat), .int .u64 (fb 1 : Nat), .int .u64 (fb 2 : Nat), .int .u64 (fb 3 : Nat), .int .u64 (fb 4 : Nat), .int .u64 (fb 5 : Nat), .int .u64 (fb 6 : Nat), .int .u64 (fb 7 : Nat)] := hL 76 (by decide +kernel)
          simp [go_sem, hc, hf, e75, e76]
          refine (HC1.out _).mono ?_
          rintro e w' ⟨rfl, hb⟩
          exact ⟨_, rfl, by first | exact hb | (subst hb; exact Below.refl _ _), rfl⟩
        refine gSt (gStep_on 14 74 true rfl rfl (by decide +kernel) (fun v w h => h) ?_) ?_
        · intro ρ W hC hc hf hL
          have e4 : ρ (.tmp 4) = .pointer (some ⟨w.heap.size + 1, 0, none⟩) := hL 4 (by decide +kernel)
          have hl := hC.lb.1
          simp [go_sem, hc, hf, e4, hl]
          exact ⟨Below.refl _ _, rfl⟩
        refine gSt (gStep_on 14 74 true rfl rfl (by decide +kernel) (fun v w h => h) ?_) ?_
        · intro ρ W hC hc hf hL
          have e3 : ρ (.tmp 3) = .pointer (some ⟨w.heap.size, 0, none⟩) := hL 3 (by decide +kernel)
          have hl := hC.la.1
          simp [go_sem, hc, hf, e3, hl]
          exact ⟨Below.refl _ _, rfl⟩
        refine gSt (gStep_on 14 74 true rfl rfl (by decide +kernel) (fun v w h => h) ?_) ?_
        · intro ρ W hC hc hf hL
          have e78 : ρ (.tmp 78) = .agg #[.int .u64 (fb 0 : Nat), .int .u64 (fb 1 : Nat), .int .u64 (fb 2 : Nat), .int .u64 (fb 3 : Nat), .int .u64 (fb 4 : Nat), .int .u64 (fb 5 : Nat), .int .u64 (fb 6 : Nat), .int .u64 (fb 7 : Nat)] := hL 78 (by decide +kernel)
          have e79 : ρ (.tmp 79) = .agg #[.int .u64 (fa 0 : Nat), .int .u64 (fa 1 : Nat), .int .u64 (fa 2 : Nat), .int .u64 (fa 3 : Nat), .int .u64 (fa 4 : Nat), .int .u64 (fa 5 : Nat), .int .u64 (fa 6 : Nat), .int .u64 (fa 7 : Nat)] := hL 79 (by decide +kernel)
          simp [go_sem, hc, hf, e78, e79]
          refine (HC2.out _).mono ?_
          rintro e w' ⟨rfl, hb⟩
          exact ⟨_, rfl, by first | exact hb | (subst hb; exact Below.refl _ _), rfl⟩
        refine gSt (gStep_on 14 74 true rfl rfl (by decide +kernel) (fun v w h => h) ?_) ?_
        · intro ρ W hC hc hf hL
          have e80 : ρ (.tmp 80) = .int .i64 (-c) := hL 80 (by decide +kernel)
          simp [go_sem, hc, hf, e80, hneg]
          exact ⟨Below.refl _ _, rfl⟩
        refine gSt (gStep_on 14 74 true rfl rfl (by decide +kernel) (fun v w h => h) ?_) ?_
        · intro ρ W hC hc hf hL
          have e77 : ρ (.tmp 77) = .int .i64 c := hL 77 (by decide +kernel)
          have e81 : ρ (.tmp 81) = .int .i64 c := hL 81 (by decide +kernel)
          simp [go_sem, hc, hf, e77, e81]
          exact ⟨Below.refl _ _, rfl⟩
        refine gSt (gStep_run rfl (gRun_pickT 74 82 83 _ rfl rfl (by decide +kernel) (by decide +kernel) (fun v w h => h) (fun v w h => h))) ?_
        refine gSt (gStep_run rfl (gRun_move 83 84 (.inl rfl) rfl (by decide +kernel) (fun v w h => h))) ?_
        refine gSt (gStep_on 24 84 true rfl rfl (by decide +kernel) (fun v w h => h) ?_) ?_
        · intro ρ W hC hc hf hL
          simp [go_sem, hc, hf]
          refine (awake2_any _).mono ?_
          rintro e w' ⟨rfl, hb⟩
          exact ⟨_, rfl, by first | exact hb | (subst hb; exact Below.refl _ _), rfl⟩
        refine gSt (gStep_run rfl (gRun_pickT 84 85 86 _ rfl rfl (by decide +kernel) (by decide +kernel) (fun v w h => h) (fun v w h => h))) ?_
        refine gSt (gStep_run rfl (gRun_move 86 6 (.inr rfl) rfl (by decide +kernel) (fun v w h => h))) ?_
        exact gSt0
      · intro W hC
        refine gFi 60 rfl ?_
        rintro _ rfl
        refine gFi 61 rfl ?_
        rintro _ rfl
        refine gFi 62 rfl ?_
        rintro _ rfl
        refine gFi 63 rfl ?_
        rintro _ rfl
        refine gFi 64 rfl ?_
        rintro _ rfl
        refine gFi 65 rfl ?_
        rintro _ rfl
        refine gFi 66 rfl ?_
        rintro _ rfl
        refine gFi 67 rfl ?_
        rintro _ rfl
        refine gFi 68 rfl ?_
        rintro _ rfl
        refine gFi 69 rfl ?_
        rintro _ rfl
        refine gFi 70 rfl ?_
        rintro _ rfl
        refine gFi 71 rfl ?_
        rintro _ rfl
        refine gFi 72 rfl ?_
        rintro _ rfl
        refine gFi 73 rfl ?_
        rintro _ rfl
        refine gFi 74 rfl ?_
        rintro _ rfl
        refine gFi 75 rfl ?_
        rintro _ rfl
        refine gFi 76 rfl ?_
        rintro _ rfl
        refine gFi 77 rfl ?_
        rintro _ rfl
        refine gFi 78 rfl ?_
        rintro _ rfl
        refine gFi 79 rfl ?_
        rintro _ rfl
        refine gFi 80 rfl ?_
        rintro _ rfl
        refine gFi 81 rfl ?_
        rintro _ rfl
        refine gFi 82 rfl ?_
        rintro _ rfl
        refine gFi 83 rfl ?_
        rintro _ rfl
        refine gFi 84 rfl ?_
        rintro _ rfl
        refine gFi 85 rfl ?_
        rintro _ rfl
        refine gFi 86 rfl ?_
        rintro _ rfl
        refine gFi 6 rfl ?_
        rintro _ rfl
        refine gFi0 ?_
        simp only [List.drop_succ_cons, List.drop_zero, Act.put, List.setIfInBounds_toArray, List.set_cons_succ, List.set_cons_zero]
        have HB0 := hide hC.bel
        clear hC HST
        go_wp2
        go_ret
        exact ⟨rfl, HB0.out⟩

theorem wideRules_walk (a b : Nat) (n : Int) (wn : (0 ≤ n ∧ n < 65536)) (ha : a < QQ) (hb : b < QQ) (w : World) :
    Calls Try.prog 5 #[.agg #[.int .u64 (dgl (a) 0 : Nat), .int .u64 (dgl (a) 1 : Nat), .int .u64 (dgl (a) 2 : Nat), .int .u64 (dgl (a) 3 : Nat), .int .u64 (dgl (a) 4 : Nat), .int .u64 (dgl (a) 5 : Nat), .int .u64 (dgl (a) 6 : Nat), .int .u64 (dgl (a) 7 : Nat)], .agg #[.int .u64 (dgl (b) 0 : Nat), .int .u64 (dgl (b) 1 : Nat), .int .u64 (dgl (b) 2 : Nat), .int .u64 (dgl (b) 3 : Nat), .int .u64 (dgl (b) 4 : Nat), .int .u64 (dgl (b) 5 : Nat), .int .u64 (dgl (b) 6 : Nat), .int .u64 (dgl (b) 7 : Nat)], .int .u16 n] w fun e w' => e = .returned (.bool true) ∧ Below w.heap.size w w' := by
  obtain ⟨m, rfl⟩ : ∃ m : Nat, n = (m : Int) := ⟨n.toNat, by omega⟩
  obtain ⟨k, hk⟩ : ∃ k, k = m % 512 := ⟨_, rfl⟩
  have hk5 : k < 512 := by omega
  have hq0 : 0 < QQ := by omega
  have hr : roomI (k : Int) = (k : Int) := by unfold roomI; omega
  have hq := qq_pow 512 rfl
  have hab := add_back a b ha hb
  have hS : QQ = 2 ^ k * 2 ^ (64 * 8 - k) := qq_split k (by omega)
  have hpk : 0 < 2 ^ k := Nat.two_pow_pos k
  have hpS : 0 < 2 ^ (64 * 8 - k) := Nat.two_pow_pos _
  have hL := fun w => wideShl_any a (k : Int) ha w
  rw [hr, sh_up] at hL
  have hu : a * 2 ^ k % QQ = 2 ^ k * (a % 2 ^ (64 * 8 - k)) := by rw [hS, Nat.mul_comm a, Nat.mul_mod_mul_left]
  have hR := fun w => wideShr_any (a * 2 ^ k % QQ) k (k : Int) hr (Nat.mod_lt _ hq0) w
  have hdv : a * 2 ^ k % QQ / 2 ^ k = a % 2 ^ (64 * 8 - k) := by rw [hu, Nat.mul_div_cancel_left _ hpk]
  have hlo : decide (a * 2 ^ k % QQ / 2 ^ k * 2 ^ k = a * 2 ^ k % QQ) = true := by rw [hdv, hu, Nat.mul_comm]; exact decide_eq_true rfl
  rw [hlo, hdv, Bool.not_true, w8_mod (Nat.mod_mod (a * 2 ^ k) QQ)] at hR
  have hadd := fun w => wideAdd_any a b ha hb w
  have hsub := fun w => wideSub_any ((a + b) % QQ) b (Nat.mod_lt _ hq0) hb w
  rw [hab.1, hab.2, w8_mod (Nat.mod_mod (a + b) QQ)] at hsub
  have hsar := fun w => wideSar_any a (k : Int) ha w
  rw [hr, sh_down] at hsar
  have hm1 := fun w => wideMinus_any (extN a / 2 ^ k % QQ) (Nat.mod_lt _ hq0) w
  rw [sar_sign' a k (by omega) ha, w8_mod (Nat.mod_mod (extN a / 2 ^ k) QQ)] at hm1
  have hn2 := fun w => wideNeg_any (subQ 0 a) (subQ_lt 0 a) w
  rw [neg_neg a ha] at hn2
  have hc2 := fun w => wideCmp_any b a hb ha w
  rw [cmp_neg a b] at hc2
  refine wideRules_first (dgl a) (dgl b) (dgl (a + b)) (dgl (a * 2 ^ k)) (dgl (a % 2 ^ (64 * 8 - k))) (dgl (subQ 0 a)) (dgl (extN a / 2 ^ k)) m k (Go.bitLen a) (cmpN a b) (decide (QQ ≤ a + b)) (a / 2 ^ 511 % 2 == 1) w
    (by omega) hk ?_ hadd hsub hL hR (fun w => wideLen_any a ha w) ?_ (fun w => wideNeg_any a ha w) hn2 hsar hm1 (fun w => wideMinus_any a ha w) (fun w => wideCmp_any a b ha hb w) hc2 ?_
  · exact bitLen_le a 512 (by rw [hq]; exact ha)
  · intro hle w
    have h1 : a < 2 ^ (64 * 8 - k) := Nat.lt_of_lt_of_le (bitLen_lt a) (Nat.pow_le_pow_right (by decide) (by omega))
    rw [Nat.mod_eq_of_lt h1]
    exact wide_same a w
  · unfold cmpN
    split
    · decide
    · split <;> decide

end Go.Proofs.Ytenbomfoihajhaa

/- For all wides and all numbers of 16 bits the law radicandlaw02.WideRules returns true, and its arguments read afterwards as they read before. No condition. -/
namespace Go.Proofs.Ytenbomfoihajhaa.wideRules
open Go.ChangeShapes Go.WideShapes Go.ChangeAt Go.RowKit Go.Proofs.Ytenbomfoihajhaa

theorem own : ownKnob Try.prog.godebug = none := by kernel_rfl
theorem laidOut : laidOutB Try.prog = true := by kernel_rfl

set_option maxRecDepth 100000 in
theorem lifted (os : Os) (started : os.Started) (H : Type) (enc : TypeId × Value → H) :
    ReturnsInHanded {} Try.checked os 5 .any (Rows.wideRulesSpec.pre6 enc Try.prog Try.f5 Rows.wideRulesRow.domain false) (Rows.wideRulesSpec.post enc Try.prog Try.f5 false true false false) := by
  refine returnsInHanded_of_change (C := Try.checked) own started (by kernel_rfl) Try.func5
    (ChangeSpec.witness6 (enc := enc) (C := Try.checked) false ⟨#[], #[.agg #[.int .u64 0, .int .u64 0, .int .u64 0, .int .u64 0, .int .u64 0, .int .u64 0, .int .u64 0, .int .u64 0], .agg #[.int .u64 0, .int .u64 0, .int .u64 0, .int .u64 0, .int .u64 0, .int .u64 0, .int .u64 0, .int .u64 0], .int .u16 0], []⟩ 40 (by kernel_rfl) (by kernel_rfl) (by kernel_rfl) (by kernel_rfl)) ?_
  intro W base args ds gs before hval0 hW hcnd _
  have hval : ∀ (j : Nat) t v, Try.f5.params[j]? = some t → args[j]? = some v → Value.okWide Try.prog W .any base t v := hval0
  have hW' := hW
  obtain ⟨p, q, hA0, hV, rfl, hfz, hnd⟩ := hW
  have hA : DataW.TrodAll enc Try.prog W 0 (fun _ => true) true Try.f5.params.toList args.toList ds p := hA0
  rw [Try.params5] at hA hval
  obtain ⟨v0, vs0, d0, ds0, p0, q0, hargs, rfl, rfl, h0, r0⟩ := trodAll_cons hA
  obtain ⟨v1, vs1, d1, ds1, p1, q1, rfl, rfl, rfl, h1, r1⟩ := trodAll_cons r0
  obtain ⟨v2, vs2, d2, ds2, p2, q2, rfl, rfl, rfl, h2, r2⟩ := trodAll_cons r1
  obtain ⟨rfl, rfl, rfl⟩ := trodAll_nil r2
  obtain rfl : args = #[v0, v1, v2] := by cases args; simp_all
  obtain ⟨rfl, rfl⟩ := trodVars_none hV
  have k0 := h0
  have lt0 : ∀ x ∈ p0, x.block < W.heap.size := by obtain ⟨m, hm⟩ := k0; exact DataW.trod_lt m _ _ _ hm
  have k1 := h1
  have lt1 : ∀ x ∈ p1, x.block < W.heap.size := by obtain ⟨m, hm⟩ := k1; exact DataW.trod_lt m _ _ _ hm
  have k2 := h2
  have lt2 : ∀ x ∈ p2, x.block < W.heap.size := by obtain ⟨m, hm⟩ := k2; exact DataW.trod_lt m _ _ _ hm
  obtain ⟨x0, hx0, rfl⟩ := wide_of_trod (hval 0 24 v0 rfl rfl) h0
  obtain ⟨x1, hx1, rfl⟩ := wide_of_trod (hval 1 24 v1 rfl rfl) h1
  obtain ⟨a2, rfl, rfl, rfl, wf2⟩ := open_int Try.underlying51 (hval 2 51 v2 rfl rfl) h2
  clear hA0 hval0
  refine (wideRules_walk x0 x1 a2 (by obtain ⟨x, rfl, h⟩ := u16_nat wf2; omega) hx0 hx1 W).mono fun e W' ⟨he, bel⟩ => ?_
  subst he
  exact ⟨_, rfl, _, _, _, [], _, [], hW', trodAll_mk1 (shut_bool Try.underlying4 _), (trodAll_cons_mk (Below.trod laidOut (by kernel_rfl) (of_decide_eq_true (by kernel_rfl)) k0 bel lt0) (trodAll_cons_mk (Below.trod laidOut (by kernel_rfl) (of_decide_eq_true (by kernel_rfl)) k1 bel lt1) (trodAll_cons_mk (Below.trod laidOut (by kernel_rfl) (of_decide_eq_true (by kernel_rfl)) k2 bel lt2) trodAll_mk0))), rfl, bel.frame _, fun h => by cases h⟩

theorem over : Rows.wideRulesRow.holds Try.pinned (OpenSpec.ofChange Rows.wideRulesSpec) :=
  OpenClaim.holds_of_wide 5 Try.f5 rfl rfl rfl rfl rfl rfl rfl ⟨rfl, rfl, rfl, rfl, rfl⟩ rfl rfl rfl rfl rfl (by kernel_rfl) Try.func5 (by kernel_rfl)
    (of_decide_eq_true (by kernel_rfl)) (by unfold Func.isWrapper; first | (rw [if_pos (by decide +kernel)]; kernel_rfl) | (rw [if_neg (by decide +kernel)]; exact ⟨rfl, rfl⟩))
    (fun os started H enc _ => lifted os started H enc)

theorem proved : Rows.WideRulesSaid := over
#print axioms proved
end Go.Proofs.Ytenbomfoihajhaa.wideRules

