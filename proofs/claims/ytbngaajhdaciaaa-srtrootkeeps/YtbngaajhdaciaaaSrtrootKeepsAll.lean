/- For all wides and steps the law radicandlaw16.SrtrootKeeps returns true and leaves what came in as it was. No condition. -/
import Derived.Test.YtbngaajhdaciaaaPartAV
import Derived.Test.YtbngaajhdaciaaaPartAG
import Derived.Test.YtbngaajhdaciaaaRows
import Derived.WalkKit
import Derived.ProofKit
import Derived.OpenShut
import Derived.ShutString
import Derived.ChangeOld
import Derived.Below
/- For all wides and steps the law radicandlaw16.SrtrootKeeps returns true. -/
set_option linter.unusedVariables false
set_option linter.unusedSimpArgs false
set_option maxRecDepth 8000
namespace Go.Proofs.Ytbngaajhdaciaaa
open Go.RowKit Plain

set_option maxHeartbeats 2000000 in
theorem srtrootKeeps_E (n s k p x : Nat) (ez : Int) (hs : s < 256) (hk : ((s : Nat) : Int) % 65 = (k : Int))
    (HD : Hid (∀ w, Calls Try.prog 10 #[.agg #[.int .u64 (dgl (n) 0 : Nat), .int .u64 (dgl (n) 1 : Nat), .int .u64 (dgl (n) 2 : Nat), .int .u64 (dgl (n) 3 : Nat), .int .u64 (dgl (n) 4 : Nat), .int .u64 (dgl (n) 5 : Nat), .int .u64 (dgl (n) 6 : Nat), .int .u64 (dgl (n) 7 : Nat)]] w fun e w' => e = .returned (.tuple #[.slice none 0 0, .int .i64 ez]) ∧ Below w.heap.size w w'))
    (HF : Hid (∀ w, Calls Try.prog 14 #[.agg #[.int .u64 (dgl (n) 0 : Nat), .int .u64 (dgl (n) 1 : Nat), .int .u64 (dgl (n) 2 : Nat), .int .u64 (dgl (n) 3 : Nat), .int .u64 (dgl (n) 4 : Nat), .int .u64 (dgl (n) 5 : Nat), .int .u64 (dgl (n) 6 : Nat), .int .u64 (dgl (n) 7 : Nat)], .int .i64 (k : Nat)] w fun e w' => e = .returned (.tuple #[.agg #[.int .u64 (dgl (p) 0 : Nat), .int .u64 (dgl (p) 1 : Nat), .int .u64 (dgl (p) 2 : Nat), .int .u64 (dgl (p) 3 : Nat), .int .u64 (dgl (p) 4 : Nat), .int .u64 (dgl (p) 5 : Nat), .int .u64 (dgl (p) 6 : Nat), .int .u64 (dgl (p) 7 : Nat)], .int .i64 ez]) ∧ Below w.heap.size w w'))
    (HNO : Hid (∀ w, Calls Try.prog 15 #[.agg #[.int .u64 (dgl (n) 0 : Nat), .int .u64 (dgl (n) 1 : Nat), .int .u64 (dgl (n) 2 : Nat), .int .u64 (dgl (n) 3 : Nat), .int .u64 (dgl (n) 4 : Nat), .int .u64 (dgl (n) 5 : Nat), .int .u64 (dgl (n) 6 : Nat), .int .u64 (dgl (n) 7 : Nat)]] w fun e w' => e = .returned (.tuple #[.agg #[.int .u64 (dgl (x) 0 : Nat), .int .u64 (dgl (x) 1 : Nat), .int .u64 (dgl (x) 2 : Nat), .int .u64 (dgl (x) 3 : Nat), .int .u64 (dgl (x) 4 : Nat), .int .u64 (dgl (x) 5 : Nat), .int .u64 (dgl (x) 6 : Nat), .int .u64 (dgl (x) 7 : Nat)], .int .i64 0, .bool false]) ∧ Below w.heap.size w w'))
    (HAW : Hid (∀ w, Calls Try.prog 9 #[] w fun e w' => e = .returned (.bool true) ∧ Below w.heap.size w w')) (w : World) :
    Calls Try.prog 6 #[.agg #[.int .u64 (dgl (n) 0 : Nat), .int .u64 (dgl (n) 1 : Nat), .int .u64 (dgl (n) 2 : Nat), .int .u64 (dgl (n) 3 : Nat), .int .u64 (dgl (n) 4 : Nat), .int .u64 (dgl (n) 5 : Nat), .int .u64 (dgl (n) 6 : Nat), .int .u64 (dgl (n) 7 : Nat)], .int .u8 (s : Nat)] w fun e w' => e = .returned (.bool true) ∧ Below w.heap.size w w' := by
  have HK := hide hk
  clear hk
  have HS : Hid (OnSt n w (w.alloc (.cells #[.int .u64 (dgl (n) 0 : Nat), .int .u64 (dgl (n) 1 : Nat), .int .u64 (dgl (n) 2 : Nat), .int .u64 (dgl (n) 3 : Nat), .int .u64 (dgl (n) 4 : Nat), .int .u64 (dgl (n) 5 : Nat), .int .u64 (dgl (n) 6 : Nat), .int .u64 (dgl (n) 7 : Nat)] 24))) := ⟨liesF_new w (dgl n) _, below_allocs _ _⟩
  go_enter Try.func6, Try.ntmps6
  have hca := HS.out.lx.1
  go_wp2_with fail
  refine (HD.out _).mono ?_
  rintro e' w1 ⟨rfl, hb1⟩
  replace HS := hide (HS.out.below hb1)
  clear hb1 hca HD
  go_upto_region 3 with fail
  rw [HK.out]
  have hca := HS.out.lx.1
  go_wp2_with fail
  refine (HF.out _).mono ?_
  rintro e' w2 ⟨rfl, hb2⟩
  replace HS := hide (HS.out.below hb2)
  clear hb2 hca HF
  go_upto_region 4 with fail
  refine wp_gen (fun W => OnSt n w W ∧ LiesF W w2.heap.size (dgl p)) ⟨HS.out.below (below_allocs _ _), liesF_new w2 (dgl p) _⟩ ?_
  clear HS
  generalize w2.heap.size = p8 at *
  rintro W3 h3
  have HS := hide h3
  have hca := h3.1.lx.1
  clear h3
  go_wp2_with fail
  refine (HNO.out _).mono ?_
  rintro e' w3 ⟨rfl, hb3⟩
  replace HS := hide (show OnSt n w w3 ∧ LiesF w3 p8 (dgl p) from ⟨HS.out.1.below hb3, HS.out.2.below hb3⟩)
  clear hb3 hca HNO
  go_upto_region 5 with fail
  refine wp_gen (fun W => OnSt n w W ∧ LiesF W p8 (dgl p) ∧ LiesF W w3.heap.size (dgl x)) ⟨HS.out.1.below (below_allocs _ _), HS.out.2.below (below_allocs _ _), liesF_new w3 (dgl x) _⟩ ?_
  clear HS
  generalize w3.heap.size = p10 at *
  rintro W5 h5
  have HS := hide h5
  clear h5
  have HB := hide HS.out.1.bel
  clear HS
  go_wp2_with fail
  refine (HAW.out _).mono ?_
  rintro e' w9 ⟨rfl, hb9⟩
  replace HB := hide (below_trans HB.out hb9)
  clear hb9
  go_wp2
  go_ret
  exact ⟨rfl, HB.out⟩

set_option maxHeartbeats 8000000 in
theorem srtrootKeeps_Y (n s k p1 p2 p3 p x T2 : Nat) (b c1 c2 c3 : Int) (f : Nat → Int) (hs : s < 256) (hk : ((s : Nat) : Int) % 65 = (k : Int)) (hp1 : IntKind.i64.wrap (64 - (k : Int)) = (p1 : Int)) (hp2 : IntKind.i64.wrap (2 * (p1 : Int)) = (p2 : Int)) (hp3 : IntKind.i64.wrap (1 + (p2 : Int)) = (p3 : Int))
    (hf : ∀ i, i < 64 → -2 ≤ f i ∧ f i ≤ 2) (hp : p < QQ) (hx : x < QQ) (hle : T2 ≤ 3 * p) (e1 : cmpN ((3 * p + T2) * (3 * p + T2)) (9 * x) = c1) (e2 : cmpN (3 * p) T2 = c2) (e3 : cmpN ((3 * p - T2) * (3 * p - T2)) (9 * x) = c3) (h1 : ¬ c1 < 0) (h2 : ¬ c2 < 0) (h3 : c3 ≤ 0)
    (HD : Hid (∀ w, Calls Try.prog 10 #[.agg #[.int .u64 (dgl (n) 0 : Nat), .int .u64 (dgl (n) 1 : Nat), .int .u64 (dgl (n) 2 : Nat), .int .u64 (dgl (n) 3 : Nat), .int .u64 (dgl (n) 4 : Nat), .int .u64 (dgl (n) 5 : Nat), .int .u64 (dgl (n) 6 : Nat), .int .u64 (dgl (n) 7 : Nat)]] w fun e w' => ∃ ao ca, e = .returned (.tuple #[.slice ao 64 ca, .int .i64 0]) ∧ Rd mkZ w' (.slice ao 64 ca) (seqL f 64) ∧ Below w.heap.size w w'))
    (HF : Hid (∀ w, Calls Try.prog 14 #[.agg #[.int .u64 (dgl (n) 0 : Nat), .int .u64 (dgl (n) 1 : Nat), .int .u64 (dgl (n) 2 : Nat), .int .u64 (dgl (n) 3 : Nat), .int .u64 (dgl (n) 4 : Nat), .int .u64 (dgl (n) 5 : Nat), .int .u64 (dgl (n) 6 : Nat), .int .u64 (dgl (n) 7 : Nat)], .int .i64 (k : Nat)] w fun e w' => e = .returned (.tuple #[.agg #[.int .u64 (dgl (p) 0 : Nat), .int .u64 (dgl (p) 1 : Nat), .int .u64 (dgl (p) 2 : Nat), .int .u64 (dgl (p) 3 : Nat), .int .u64 (dgl (p) 4 : Nat), .int .u64 (dgl (p) 5 : Nat), .int .u64 (dgl (p) 6 : Nat), .int .u64 (dgl (p) 7 : Nat)], .int .i64 0]) ∧ Below w.heap.size w w'))
    (HNO : Hid (∀ w, Calls Try.prog 15 #[.agg #[.int .u64 (dgl (n) 0 : Nat), .int .u64 (dgl (n) 1 : Nat), .int .u64 (dgl (n) 2 : Nat), .int .u64 (dgl (n) 3 : Nat), .int .u64 (dgl (n) 4 : Nat), .int .u64 (dgl (n) 5 : Nat), .int .u64 (dgl (n) 6 : Nat), .int .u64 (dgl (n) 7 : Nat)]] w fun e w' => e = .returned (.tuple #[.agg #[.int .u64 (dgl (x) 0 : Nat), .int .u64 (dgl (x) 1 : Nat), .int .u64 (dgl (x) 2 : Nat), .int .u64 (dgl (x) 3 : Nat), .int .u64 (dgl (x) 4 : Nat), .int .u64 (dgl (x) 5 : Nat), .int .u64 (dgl (x) 6 : Nat), .int .u64 (dgl (x) 7 : Nat)], .int .i64 b, .bool true]) ∧ Below w.heap.size w w'))
    (HPW : Hid (∀ w, Calls Try.prog 21 #[.int .i64 (p3 : Nat)] w fun e w' => ∃ v, e = .returned v ∧ BigV w' v T2 10 ∧ Below w.heap.size w w'))
    (HAW : Hid (∀ w, Calls Try.prog 9 #[] w fun e w' => e = .returned (.bool true) ∧ Below w.heap.size w w')) (w : World) :
    Calls Try.prog 6 #[.agg #[.int .u64 (dgl (n) 0 : Nat), .int .u64 (dgl (n) 1 : Nat), .int .u64 (dgl (n) 2 : Nat), .int .u64 (dgl (n) 3 : Nat), .int .u64 (dgl (n) 4 : Nat), .int .u64 (dgl (n) 5 : Nat), .int .u64 (dgl (n) 6 : Nat), .int .u64 (dgl (n) 7 : Nat)], .int .u8 (s : Nat)] w fun e w' => e = .returned (.bool true) ∧ Below w.heap.size w w' := by
  have HK := hide hk
  have HFF := hide hf
  clear hk hf
  have HS : Hid (OnSt n w (w.alloc (.cells #[.int .u64 (dgl (n) 0 : Nat), .int .u64 (dgl (n) 1 : Nat), .int .u64 (dgl (n) 2 : Nat), .int .u64 (dgl (n) 3 : Nat), .int .u64 (dgl (n) 4 : Nat), .int .u64 (dgl (n) 5 : Nat), .int .u64 (dgl (n) 6 : Nat), .int .u64 (dgl (n) 7 : Nat)] 24))) := ⟨liesF_new w (dgl n) _, below_allocs _ _⟩
  go_enter Try.func6, Try.ntmps6
  have hca := HS.out.lx.1
  go_wp2_with fail
  refine (HD.out _).mono ?_
  rintro e' w1 ⟨ao, ca, rfl, hrd, hb1⟩
  replace HS := hide (HS.out.below hb1)
  have HV := hide hrd
  clear hb1 hca HD hrd
  go_upto_region 3 with fail
  rw [HK.out]
  have hca := HS.out.lx.1
  go_wp2_with fail
  refine (HF.out _).mono ?_
  rintro e' w2 ⟨rfl, hb2⟩
  replace HS := hide (HS.out.below hb2)
  replace HV := hide (HV.out.below hb2)
  clear hb2 hca HF
  go_upto_region 4 with fail
  refine wp_gen (fun W => OnSt n w W ∧ LiesF W w2.heap.size (dgl p) ∧ Rd mkZ W (.slice ao 64 ca) (seqL f 64)) ⟨HS.out.below (below_allocs _ _), liesF_new w2 (dgl p) _, HV.out.below (below_allocs _ _)⟩ ?_
  clear HS HV
  generalize w2.heap.size = p8 at *
  rintro W3 h3
  have HS := hide h3
  have hca := h3.1.lx.1
  clear h3
  go_wp2_with fail
  refine (HNO.out _).mono ?_
  rintro e' w3 ⟨rfl, hb3⟩
  replace HS := hide (show OnSt n w w3 ∧ LiesF w3 p8 (dgl p) ∧ Rd mkZ w3 (.slice ao 64 ca) (seqL f 64) from ⟨HS.out.1.below hb3, HS.out.2.1.below hb3, HS.out.2.2.below hb3⟩)
  clear hb3 hca HNO
  go_upto_region 5 with fail
  refine wp_gen (fun W => OnSt n w W ∧ LiesF W p8 (dgl p) ∧ LiesF W w3.heap.size (dgl x) ∧ Rd mkZ W (.slice ao 64 ca) (seqL f 64)) ⟨HS.out.1.below (below_allocs _ _), HS.out.2.1.below (below_allocs _ _), liesF_new w3 (dgl x) _, HS.out.2.2.below (below_allocs _ _)⟩ ?_
  clear HS
  generalize w3.heap.size = p10 at *
  rintro W5 h5
  have HS := hide h5
  clear h5
  go_wp2
  go_loopw [13] (fun i wr => ∃ j : Nat, j ≤ 64 ∧ i = .int .i64 j ∧ Hid ((OnSt n w wr ∧ LiesF wr p8 (dgl p) ∧ LiesF wr p10 (dgl x) ∧ Rd mkZ wr (.slice ao 64 ca) (seqL f 64))))
    (fun i _ => 64 - (intOf i).toNat)
  case atStart => exact ⟨0, by omega, rfl, HS⟩
  case round =>
    clear HS
    obtain ⟨j, hj, rfl, HS⟩ := hrel
    by_cases hlt : j < 64
    · obtain ⟨bb, off, rfl, hbl, hcell⟩ := rd_seq HS.out.2.2.2 (by decide) (fun i hi => by have := HFF.out i hi; omega)
      have hck := hcell j hlt
      have hfj := HFF.out j hlt
      have hlt2 : (j : Int) < 64 := by omega
      generalize f j = z at hck hfj
      have hz1 : ¬ z < -2 := by omega
      have hz2 : ¬ 2 < z := by omega
      have hwj : IntKind.i64.wrap ((j : Int) + 1) = ((j + 1 : Nat) : Int) := by rw [IntKind.wrap_i64]; omega
      clear hcell
      go_wp2
      go_roundw
      case rel => exact ⟨j + 1, by omega, by first | rfl | go_num, HS⟩
      case measure => simp [intOf]; omega
    · have hlt2 : ¬ (j : Int) < 64 := by omega
      replace HS := hide (show OnSt n w wr ∧ LiesF wr p8 (dgl p) ∧ LiesF wr p10 (dgl x) from ⟨HS.out.1, HS.out.2.1, HS.out.2.2.1⟩)
      clear hj hlt HFF
      have hup : ∀ {V V' : World}, Below V.heap.size V V' → (OnSt n w V ∧ LiesF V p8 (dgl p) ∧ LiesF V p10 (dgl x)) → (OnSt n w V' ∧ LiesF V' p8 (dgl p) ∧ LiesF V' p10 (dgl x)) := fun hb h => ⟨h.1.below hb, h.2.1.below hb, h.2.2.below hb⟩
      go_upto_region 14 with fail
      refine wp_region_grow 5 [(81, .big 3 2), (82, .val (.agg #[.int .u64 (dgl (p) 0 : Nat), .int .u64 (dgl (p) 1 : Nat), .int .u64 (dgl (p) 2 : Nat), .int .u64 (dgl (p) 3 : Nat), .int .u64 (dgl (p) 4 : Nat), .int .u64 (dgl (p) 5 : Nat), .int .u64 (dgl (p) 6 : Nat), .int .u64 (dgl (p) 7 : Nat)])), (83, .big p 40), (84, .big (3 * p) (2 + 40)), (14, .big (3 * p) (2 + 40))]
        (fun W => OnSt n w W ∧ LiesF W p8 (dgl p) ∧ LiesF W p10 (dgl x)) mixedOk (by kernel_rfl) (by kernel_rfl) (hup (Below.refl _ _).drew HS.out) (fun W W' h hb => hup hb h) ?_ ?_
      · refine gSt (gStep_run rfl ?_) ?_
        · intro ρ W hC hc hf hL
          simp [go_sem, hc, hf]
          refine (small_any 3 (by decide) W).mono ?_
          rintro e w' ⟨v, rfl, hv, hb⟩
          exact ⟨_, rfl, hb, hv⟩
        refine gSt (gStep_run rfl ?_) ?_
        · intro ρ W hC hc hf hL
          have e8 : ρ (.tmp 8) = .pointer (some ⟨p8, 0, none⟩) := hL 8 (by decide +kernel)
          have hl := hC.2.1.1
          simp [go_sem, hc, hf, e8, hl]
          exact ⟨Below.refl _ _, rfl⟩
        refine gSt (gStep_run rfl ?_) ?_
        · intro ρ W hC hc hf hL
          have e82 : ρ (.tmp 82) = .agg #[.int .u64 (dgl (p) 0 : Nat), .int .u64 (dgl (p) 1 : Nat), .int .u64 (dgl (p) 2 : Nat), .int .u64 (dgl (p) 3 : Nat), .int .u64 (dgl (p) 4 : Nat), .int .u64 (dgl (p) 5 : Nat), .int .u64 (dgl (p) 6 : Nat), .int .u64 (dgl (p) 7 : Nat)] := hL 82 (by decide +kernel)
          simp [go_sem, hc, hf, e82]
          refine (refBig_any p hp W).mono ?_
          rintro e w' ⟨v, rfl, hv, hb⟩
          exact ⟨_, rfl, hb, hv⟩
        refine gSt (gStep_run rfl ?_) ?_
        · intro ρ W hC hc hf hL
          have b81 : BigV W (ρ (.tmp 81)) (3) (2) := hL 81 (by decide +kernel)
          have b83 : BigV W (ρ (.tmp 83)) (p) (40) := hL 83 (by decide +kernel)
          simp [go_sem, hc, hf]
          refine (refMul_any 3 p 2 40 _ _ W b81 b83 (by decide) (by decide)).mono ?_
          rintro e w' ⟨v, rfl, hv, hb⟩
          exact ⟨_, rfl, hb, hv⟩
        refine gSt (gStep_run rfl (gRun_move 84 14 (.inr rfl) rfl (by decide +kernel) (fun v w h => h))) ?_
        exact gSt0
      · intro W hC
        refine gFi 81 rfl ?_
        rintro u81 b81
        refine gFi 82 rfl ?_
        rintro _ rfl
        refine gFi 83 rfl ?_
        rintro u83 b83
        refine gFi 84 rfl ?_
        rintro u84 b84
        refine gFi 14 rfl ?_
        rintro u14 b14
        refine gFi0 ?_
        simp only [List.drop_succ_cons, List.drop_zero, Act.put, List.setIfInBounds_toArray, List.set_cons_succ, List.set_cons_zero]
        replace HS := hide (show OnSt n w W ∧ LiesF W p10 (dgl x) from ⟨hC.1, hC.2.2⟩)
        have H14 := hide b14
        clear hC b81 b83 b84 b14
        go_wp2_with fail
        refine (HPW.out _).mono ?_
        rintro e' w15 ⟨u15, rfl, hv15, hb15⟩
        replace HS := hide (show OnSt n w w15 ∧ LiesF w15 p10 (dgl x) ∧ BigV w15 u14 (3 * p) (2 + 40) ∧ BigV w15 u15 T2 10 from ⟨HS.out.1.below hb15, HS.out.2.below hb15, H14.out.below hb15, hv15⟩)
        clear H14 hv15 hb15 HPW
        have hup6 : ∀ {V V' : World}, Below V.heap.size V V' → (OnSt n w V ∧ LiesF V p10 (dgl x) ∧ BigV V u14 (3 * p) (2 + 40) ∧ BigV V u15 T2 10) → (OnSt n w V' ∧ LiesF V' p10 (dgl x) ∧ BigV V' u14 (3 * p) (2 + 40) ∧ BigV V' u15 T2 10) := fun hb h => ⟨h.1.below hb, h.2.1.below hb, h.2.2.1.below hb, h.2.2.2.below hb⟩
        go_upto_region 16 with fail
        refine wp_region_grow 5 [(90, .big 9 2), (91, .val (.agg #[.int .u64 (dgl (x) 0 : Nat), .int .u64 (dgl (x) 1 : Nat), .int .u64 (dgl (x) 2 : Nat), .int .u64 (dgl (x) 3 : Nat), .int .u64 (dgl (x) 4 : Nat), .int .u64 (dgl (x) 5 : Nat), .int .u64 (dgl (x) 6 : Nat), .int .u64 (dgl (x) 7 : Nat)])), (92, .big x 40), (93, .big (9 * x) (2 + 40)), (16, .big (9 * x) (2 + 40))]
          (fun W => OnSt n w W ∧ LiesF W p10 (dgl x) ∧ BigV W u14 (3 * p) (2 + 40) ∧ BigV W u15 T2 10) mixedOk (by kernel_rfl) (by kernel_rfl) (hup6 (Below.refl _ _).drew HS.out) (fun W W' h hb => hup6 hb h) ?_ ?_
        · refine gSt (gStep_run rfl ?_) ?_
          · intro ρ W hC hc hf hL
            simp [go_sem, hc, hf]
            refine (small_any 9 (by decide) W).mono ?_
            rintro e w' ⟨v, rfl, hv, hb⟩
            exact ⟨_, rfl, hb, hv⟩
          refine gSt (gStep_run rfl ?_) ?_
          · intro ρ W hC hc hf hL
            have e10 : ρ (.tmp 10) = .pointer (some ⟨p10, 0, none⟩) := hL 10 (by decide +kernel)
            have hl := hC.2.1.1
            simp [go_sem, hc, hf, e10, hl]
            exact ⟨Below.refl _ _, rfl⟩
          refine gSt (gStep_run rfl ?_) ?_
          · intro ρ W hC hc hf hL
            have e91 : ρ (.tmp 91) = .agg #[.int .u64 (dgl (x) 0 : Nat), .int .u64 (dgl (x) 1 : Nat), .int .u64 (dgl (x) 2 : Nat), .int .u64 (dgl (x) 3 : Nat), .int .u64 (dgl (x) 4 : Nat), .int .u64 (dgl (x) 5 : Nat), .int .u64 (dgl (x) 6 : Nat), .int .u64 (dgl (x) 7 : Nat)] := hL 91 (by decide +kernel)
            simp [go_sem, hc, hf, e91]
            refine (refBig_any x hx W).mono ?_
            rintro e w' ⟨v, rfl, hv, hb⟩
            exact ⟨_, rfl, hb, hv⟩
          refine gSt (gStep_run rfl ?_) ?_
          · intro ρ W hC hc hf hL
            have b90 : BigV W (ρ (.tmp 90)) (9) (2) := hL 90 (by decide +kernel)
            have b92 : BigV W (ρ (.tmp 92)) (x) (40) := hL 92 (by decide +kernel)
            simp [go_sem, hc, hf]
            refine (refMul_any 9 x 2 40 _ _ W b90 b92 (by decide) (by decide)).mono ?_
            rintro e w' ⟨v, rfl, hv, hb⟩
            exact ⟨_, rfl, hb, hv⟩
          refine gSt (gStep_run rfl (gRun_move 93 16 (.inr rfl) rfl (by decide +kernel) (fun v w h => h))) ?_
          exact gSt0
        · intro W hC
          refine gFi 90 rfl ?_
          rintro u90 b90
          refine gFi 91 rfl ?_
          rintro _ rfl
          refine gFi 92 rfl ?_
          rintro u92 b92
          refine gFi 93 rfl ?_
          rintro u93 b93
          refine gFi 16 rfl ?_
          rintro u16 b16
          refine gFi0 ?_
          simp only [List.drop_succ_cons, List.drop_zero, Act.put, List.setIfInBounds_toArray, List.set_cons_succ, List.set_cons_zero]
          have H14 := hide hC.2.2.1
          have H15 := hide hC.2.2.2
          have H16 := hide b16
          have HB := hide hC.1.bel
          clear hC HS b90 b92 b93 b16
          go_wp2_with fail
          refine (refAdd_any (3 * p) T2 _ _ _ _ _ H14.out H15.out (by decide) (by decide)).mono ?_
          rintro e' w17 ⟨u17, rfl, hv17, hb17⟩
          replace H14 := hide (H14.out.below hb17)
          replace H15 := hide (H15.out.below hb17)
          replace H16 := hide (H16.out.below hb17)
          replace HB := hide (below_trans HB.out hb17)
          have H17 := hide hv17
          clear hb17 hv17
          go_wp2_with fail
          refine (refMul_any (3 * p + T2) (3 * p + T2) _ _ _ _ _ H17.out H17.out (by decide) (by decide)).mono ?_
          rintro e' w18 ⟨u18, rfl, hv18, hb18⟩
          replace H14 := hide (H14.out.below hb18)
          replace H15 := hide (H15.out.below hb18)
          replace H16 := hide (H16.out.below hb18)
          replace HB := hide (below_trans HB.out hb18)
          have HC1 := hide (cmp_any _ _ _ _ _ _ w18 hv18 H16.out)
          rw [e1] at HC1
          clear hb18 hv18 H17
          go_wp2_with fail
          refine HC1.out.mono ?_
          rintro e' w19 ⟨rfl, hw⟩
          subst w19
          have HC2 := hide (cmp_any _ _ _ _ _ _ w18 H14.out H15.out)
          rw [e2] at HC2
          clear HC1
          go_wp2_with fail
          refine HC2.out.mono ?_
          rintro e' w19 ⟨rfl, hw⟩
          subst w19
          clear HC2
          go_wp2_with fail
          refine (refSub_any (3 * p) T2 _ _ _ _ _ H14.out H15.out (by decide) hle).mono ?_
          rintro e' w20 ⟨u20, rfl, hv20, hb20⟩
          replace H16 := hide (H16.out.below hb20)
          replace HB := hide (below_trans HB.out hb20)
          have H20 := hide hv20
          clear hb20 hv20 H14 H15
          go_wp2_with fail
          refine (refMul_any (3 * p - T2) (3 * p - T2) _ _ _ _ _ H20.out H20.out (by decide) (by decide)).mono ?_
          rintro e' w21 ⟨u21, rfl, hv21, hb21⟩
          replace H16 := hide (H16.out.below hb21)
          replace HB := hide (below_trans HB.out hb21)
          have HC3 := hide (cmp_any _ _ _ _ _ _ w21 hv21 H16.out)
          rw [e3] at HC3
          clear hb21 hv21 H20 H16
          go_wp2_with fail
          refine HC3.out.mono ?_
          rintro e' w22 ⟨rfl, hw⟩
          subst w22
          clear HC3
          go_wp2_with fail
          refine (HAW.out _).mono ?_
          rintro e' w9 ⟨rfl, hb9⟩
          replace HB := hide (below_trans HB.out hb9)
          clear hb9
          go_wp2
          go_ret
          exact ⟨rfl, HB.out⟩
      
    

theorem srtrootKeeps_any (n s : Nat) (hs : s < 256) (hn : n < QQ) (w : World) :
    Calls Try.prog 6 #[.agg #[.int .u64 (dgl (n) 0 : Nat), .int .u64 (dgl (n) 1 : Nat), .int .u64 (dgl (n) 2 : Nat), .int .u64 (dgl (n) 3 : Nat), .int .u64 (dgl (n) 4 : Nat), .int .u64 (dgl (n) 5 : Nat), .int .u64 (dgl (n) 6 : Nat), .int .u64 (dgl (n) 7 : Nat)], .int .u8 (s : Nat)] w fun e w' => e = .returned (.bool true) ∧ Below w.heap.size w w' := by
  have HAW := hide (fun w => awake16_any w)
  obtain ⟨k, hk⟩ : ∃ k : Nat, k = s % 65 := ⟨_, rfl⟩
  have hk64 : k ≤ 64 := by omega
  by_cases hN : n = 0 ∨ 256 < Go.bitLen n
  · refine srtrootKeeps_E n s k 0 0 (if 256 < Go.bitLen n then 4 else 0) hs (by omega) (hide fun w => digB_any0 n hn hN w) (hide fun w => ?_) (hide fun w => ?_) HAW w
    · have h := farB_any0 n (k : Nat) hn (by omega) (by omega) hN w
      rw [dgl_zero]
      exact h
    · have h := normB_no n hn hN w
      rw [dgl_zero]
      exact h
  · have h0 : n ≠ 0 := fun h => hN (.inl h)
    have hL : Go.bitLen n ≤ 256 := by omega
    have ok := ok16 n h0 hL
    have hu := up16_bd n h0 hL
    have hq : 2 ^ 256 < QQ := by decide +kernel
    have hq3 : 2 ^ 129 < QQ := by decide +kernel
    have hpq := Nat.lt_trans (pn16_lt ok k hk64) hq3
    have hkp := ok.keeps k hk64
    have hW := pow4_pos (64 - k)
    have hZ := pow4_pos (63 - 2)
    obtain ⟨T, hT⟩ : ∃ T : Nat, 2 ^ (1 + 2 * (64 - k)) = T := ⟨_, rfl⟩
    have eT : 2 * (4 : Int) ^ (64 - k) = (T : Int) := by
      rw [← hT, pow4_two, Nat.pow_add, Nat.pow_one, Int.natCast_mul]
      rfl
    have hc := ok.cast k hk64
    have hlo := hkp.lo
    have hhi := hkp.hi
    have hp32 := hkp.p32
    obtain ⟨a, ha⟩ := hkp.dvd
    rw [← hc, eT] at hlo hhi
    rw [← hc] at hp32 ha
    have hle : T ≤ 3 * pn16 n k := by
      have ha1 : 0 < a := by
        rcases Int.lt_or_le 0 a with h | h
        · exact h
        · have := Int.mul_nonpos_of_nonpos_of_nonneg h (Int.le_of_lt hW)
          omega
      have := Int.mul_le_mul_of_nonneg_right (show (1 : Int) ≤ a from ha1) (Int.le_of_lt hW)
      omega
    have hlo2 : (3 * pn16 n k - T) * (3 * pn16 n k - T) ≤ 9 * up16 n := by
      have e : 3 * ((pn16 n k : Nat) : Int) - (T : Int) = ((3 * pn16 n k - T : Nat) : Int) := by omega
      rw [e, ← Int.natCast_mul] at hlo
      omega
    have hhi2 : 9 * up16 n ≤ (3 * pn16 n k + T) * (3 * pn16 n k + T) := by
      have e : 3 * ((pn16 n k : Nat) : Int) + (T : Int) = ((3 * pn16 n k + T : Nat) : Int) := by omega
      rw [e, ← Int.natCast_mul] at hhi
      omega
    have cge : ∀ A B : Nat, B ≤ A → ¬ cmpN A B < 0 := fun A B h => by
      unfold cmpN
      rw [if_neg (by omega)]
      split <;> decide
    have cle : ∀ A B : Nat, A ≤ B → cmpN A B ≤ 0 := fun A B h => by
      unfold cmpN
      split
      · decide
      · rw [if_neg (by omega)]
        decide
    refine srtrootKeeps_Y n s k (64 - k) (2 * (64 - k)) (1 + 2 * (64 - k)) (pn16 n k) (up16 n) T _ _ _ _ (dg16 n) hs (by omega) (by rw [IntKind.wrap_i64]; omega) (by rw [IntKind.wrap_i64]; omega) (by rw [IntKind.wrap_i64]; omega) (fun i hi => ok.bd i hi) hpq (Nat.lt_trans hu.2 hq) hle rfl rfl rfl (cge _ _ hhi2) (cge _ _ hle) (cle _ _ hlo2)
      (hide fun w => (digB_ok n hn h0 hL w).mono fun e w' ⟨v, h1, h2, h3⟩ => by
        obtain ⟨ao, ca, rfl⟩ := rd_slice h2
        exact ⟨ao, ca, h1, h2, h3⟩)
      (hide fun w => farB_ok n k hn h0 hL hk64 w) (hide fun w => normB_yes n hn h0 hL w) (hide fun w => ?_) HAW w
    refine (refPower_any (1 + 2 * (64 - k)) T (by omega) hT w).mono ?_
    rintro e w' ⟨v, rfl, h2, h3⟩
    exact ⟨v, rfl, h2.mono (by omega), h3⟩
end Go.Proofs.Ytbngaajhdaciaaa

/- For all wides and steps the law radicandlaw16.SrtrootKeeps returns true and leaves what came in as it was. No condition. -/
namespace Go.Proofs.Ytbngaajhdaciaaa.srtrootKeeps
open Go.ChangeShapes Go.WideShapes Go.ChangeAt Go.RowKit Go.Proofs.Ytbngaajhdaciaaa

theorem own : ownKnob Try.prog.godebug = none := by kernel_rfl
theorem laidOut : laidOutB Try.prog = true := by kernel_rfl

set_option maxRecDepth 100000 in
theorem lifted (os : Os) (started : os.Started) (H : Type) (enc : TypeId × Value → H) :
    ReturnsInHanded {} Try.checked os 6 .any (Rows.srtrootKeepsSpec.pre6 enc Try.prog Try.f6 Rows.srtrootKeepsRow.domain false) (Rows.srtrootKeepsSpec.post enc Try.prog Try.f6 false true false false) := by
  refine returnsInHanded_of_change (C := Try.checked) own started (by kernel_rfl) Try.func6
    (ChangeSpec.witness6 (enc := enc) (C := Try.checked) false ⟨#[], #[.agg #[.int .u64 0, .int .u64 0, .int .u64 0, .int .u64 0, .int .u64 0, .int .u64 0, .int .u64 0, .int .u64 0], .int .u8 0], []⟩ 40 (by kernel_rfl) (by kernel_rfl) (by kernel_rfl) (by kernel_rfl)) ?_
  intro W base args ds gs before hval0 hW hcnd _
  have hval : ∀ (j : Nat) t v, Try.f6.params[j]? = some t → args[j]? = some v → Value.okWide Try.prog W .any base t v := hval0
  have hW' := hW
  obtain ⟨p, q, hA0, hV, rfl, hfz, hnd⟩ := hW
  have hA : DataW.TrodAll enc Try.prog W 0 (fun _ => true) true Try.f6.params.toList args.toList ds p := hA0
  rw [Try.params6] at hA hval
  obtain ⟨v0, vs0, d0, ds0, p0, q0, hargs, rfl, rfl, h0, r0⟩ := trodAll_cons hA
  obtain ⟨v1, vs1, d1, ds1, p1, q1, rfl, rfl, rfl, h1, r1⟩ := trodAll_cons r0
  obtain ⟨rfl, rfl, rfl⟩ := trodAll_nil r1
  obtain rfl : args = #[v0, v1] := by cases args; simp_all
  obtain ⟨rfl, rfl⟩ := trodVars_none hV
  have k0 := h0
  have lt0 : ∀ x ∈ p0, x.block < W.heap.size := by obtain ⟨m, hm⟩ := k0; exact DataW.trod_lt m _ _ _ hm
  have k1 := h1
  have lt1 : ∀ x ∈ p1, x.block < W.heap.size := by obtain ⟨m, hm⟩ := k1; exact DataW.trod_lt m _ _ _ hm
  obtain ⟨x0, hx0, rfl⟩ := wide_of_trod (hval 0 24 v0 rfl rfl) h0
  obtain ⟨a1, rfl, rfl, rfl, wf1⟩ := open_int Try.underlying5 (hval 1 5 v1 rfl rfl) h1
  clear hA0 hval0
  obtain ⟨z1, rfl, hz1⟩ := u8_natS wf1
  refine (srtrootKeeps_any x0 z1 hz1 hx0 W).mono fun e W' ⟨he, bel⟩ => ?_
  subst he
  exact ⟨_, rfl, _, _, _, [], _, [], hW', trodAll_mk1 (shut_bool Try.underlying4 _), (trodAll_cons_mk (Below.trod laidOut (by kernel_rfl) (of_decide_eq_true (by kernel_rfl)) k0 bel lt0) (trodAll_cons_mk (Below.trod laidOut (by kernel_rfl) (of_decide_eq_true (by kernel_rfl)) k1 bel lt1) trodAll_mk0)), rfl, bel.frame _, fun h => by cases h⟩

theorem over : Rows.srtrootKeepsRow.holds Try.pinned (OpenSpec.ofChange Rows.srtrootKeepsSpec) :=
  OpenClaim.holds_of_wide 6 Try.f6 rfl rfl rfl rfl rfl rfl rfl ⟨rfl, rfl, rfl, rfl, rfl⟩ rfl rfl rfl rfl rfl (by kernel_rfl) Try.func6 (by kernel_rfl)
    (of_decide_eq_true (by kernel_rfl)) (by unfold Func.isWrapper; first | (rw [if_pos (by decide +kernel)]; kernel_rfl) | (rw [if_neg (by decide +kernel)]; exact ⟨rfl, rfl⟩))
    (fun os started H enc _ => lifted os started H enc)

theorem proved : Rows.SrtrootKeepsSaid := over
#print axioms proved
end Go.Proofs.Ytbngaajhdaciaaa.srtrootKeeps

