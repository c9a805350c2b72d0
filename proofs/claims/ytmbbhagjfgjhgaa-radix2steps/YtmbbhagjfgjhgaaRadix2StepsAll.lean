/- For all wides and all ints the law radicandlaw11.Radix2Steps returns true, and its arguments read afterwards as they read before. No condition. -/
import Derived.Test.YtmbbhagjfgjhgaaPartAO
import Derived.Test.YtmbbhagjfgjhgaaRows
import Derived.WalkKit
import Derived.ProofKit
import Derived.OpenShut
import Derived.ShutString
import Derived.ChangeOld
import Derived.Below
/- For all wides and all ints the law radicandlaw11.Radix2Steps returns true. -/
set_option linter.unusedVariables false
set_option linter.unusedSimpArgs false
set_option maxRecDepth 8000
namespace Go.Proofs.Ytmbbhagjfgjhgaa
open Go.RowKit Plain

theorem RdW.keep {w w' : World} {v : Value} {l : List Nat} (h : RdW w v l) (hb : Below w.heap.size w w') : RdW w' v l := by
  obtain ⟨ao, cap, rfl, h1, h2, h3⟩ := h
  refine ⟨ao, cap, rfl, h1, h2, ?_⟩
  rcases h3 with h3 | ⟨b, off, rfl, h4, h5⟩
  · exact .inl h3
  · exact .inr ⟨b, off, rfl, Nat.lt_of_lt_of_le h4 hb.size, fun i j hi hj => (hb.cell (p := ⟨b, off + i * 8 + j, none⟩) h4).trans (h5 i j hi hj)⟩
theorem rdw_slice {W : World} {v : Value} {L : List Nat} {k : Nat} (h : RdW W v L) (hk : L.length = k) : ∃ ao cap, v = .slice ao k cap := by
  obtain ⟨ao, cap, rfl, _⟩ := h
  exact ⟨ao, cap, by rw [hk]⟩
theorem rdw_cells {W : World} {ao : Option Addr} {cap k j : Nat} {L : List Nat} (h : RdW W (.slice ao k cap) L) (hk : L.length = k) (hj : j < k) : ∃ b off, ao = some ⟨b, off, none⟩ ∧ b < W.heap.size ∧ ∀ i, i < 8 → W.cell? ⟨b, off + j * 8 + i, none⟩ = some (.int .u64 (dgl (dg L j) i : Nat)) := by
  obtain ⟨ao', cap', he, h1, h2, h3⟩ := h
  injection he with he1 he2 he3
  subst he1
  rcases h3 with h3 | ⟨b, off, rfl, h4, h5⟩
  · omega
  · exact ⟨b, off, rfl, h4, fun i hi => h5 j i (by omega) hi⟩

set_option maxHeartbeats 2000000 in
theorem slaw_E (n d : Nat) (mi m : Int) (hm : (m == 0) = false)
    (HD : Hid (∀ w, Calls Try.prog 23 #[.agg #[.int .u64 (dgl (n) 0 : Nat), .int .u64 (dgl (n) 1 : Nat), .int .u64 (dgl (n) 2 : Nat), .int .u64 (dgl (n) 3 : Nat), .int .u64 (dgl (n) 4 : Nat), .int .u64 (dgl (n) 5 : Nat), .int .u64 (dgl (n) 6 : Nat), .int .u64 (dgl (n) 7 : Nat)], .agg #[.int .u64 (dgl (d) 0 : Nat), .int .u64 (dgl (d) 1 : Nat), .int .u64 (dgl (d) 2 : Nat), .int .u64 (dgl (d) 3 : Nat), .int .u64 (dgl (d) 4 : Nat), .int .u64 (dgl (d) 5 : Nat), .int .u64 (dgl (d) 6 : Nat), .int .u64 (dgl (d) 7 : Nat)], .int .i64 mi] w fun e w' => e = .returned (.tuple #[.slice none 0 0, .int .i64 m]) ∧ Below w.heap.size w w'))
    (HM : Hid (∀ w, Calls Try.prog 15 #[.agg #[.int .u64 (dgl (n) 0 : Nat), .int .u64 (dgl (n) 1 : Nat), .int .u64 (dgl (n) 2 : Nat), .int .u64 (dgl (n) 3 : Nat), .int .u64 (dgl (n) 4 : Nat), .int .u64 (dgl (n) 5 : Nat), .int .u64 (dgl (n) 6 : Nat), .int .u64 (dgl (n) 7 : Nat)], .agg #[.int .u64 (dgl (d) 0 : Nat), .int .u64 (dgl (d) 1 : Nat), .int .u64 (dgl (d) 2 : Nat), .int .u64 (dgl (d) 3 : Nat), .int .u64 (dgl (d) 4 : Nat), .int .u64 (dgl (d) 5 : Nat), .int .u64 (dgl (d) 6 : Nat), .int .u64 (dgl (d) 7 : Nat)]] w fun e w' => e = .returned (.int .i64 m) ∧ Below w.heap.size w w'))
    (HAW : Hid (∀ w, Calls Try.prog 17 #[] w fun e w' => e = .returned (.bool true) ∧ Below w.heap.size w w')) (w : World) :
    Calls Try.prog 5 #[.agg #[.int .u64 (dgl (n) 0 : Nat), .int .u64 (dgl (n) 1 : Nat), .int .u64 (dgl (n) 2 : Nat), .int .u64 (dgl (n) 3 : Nat), .int .u64 (dgl (n) 4 : Nat), .int .u64 (dgl (n) 5 : Nat), .int .u64 (dgl (n) 6 : Nat), .int .u64 (dgl (n) 7 : Nat)], .agg #[.int .u64 (dgl (d) 0 : Nat), .int .u64 (dgl (d) 1 : Nat), .int .u64 (dgl (d) 2 : Nat), .int .u64 (dgl (d) 3 : Nat), .int .u64 (dgl (d) 4 : Nat), .int .u64 (dgl (d) 5 : Nat), .int .u64 (dgl (d) 6 : Nat), .int .u64 (dgl (d) 7 : Nat)], .int .i64 mi] w fun e w' => e = .returned (.bool true) ∧ Below w.heap.size w w' := by
  have HS := hide (twSt_start n d w 24 24)
  go_enter Try.func5, Try.ntmps5
  have hca := HS.out.la.1
  have hcb := HS.out.lb.1
  go_wp2_with fail
  refine (HD.out _).mono ?_
  rintro e' w1 ⟨rfl, hb1⟩
  replace HS := hide (HS.out.below hb1)
  clear hb1 hca hcb
  have hca := HS.out.la.1
  have hcb := HS.out.lb.1
  go_wp2_with fail
  refine (HM.out _).mono ?_
  rintro e' w2 ⟨rfl, hb2⟩
  replace HS := hide (HS.out.below hb2)
  clear hb2 hca hcb
  go_wp2_with fail
  refine (HAW.out _).mono ?_
  rintro e' w3 ⟨rfl, hb3⟩
  replace HS := hide (HS.out.below hb3)
  clear hb3
  have HB := hide HS.out.bel
  clear HS
  go_wp2
  go_ret
  exact ⟨rfl, HB.out⟩

set_option maxHeartbeats 8000000 in
theorem slaw_Y (n d q r k : Nat) (mi : Int) (L : List Nat) (HLN : Hid (L.length = k)) (hk129 : k ≤ 129) (HKM : Hid ((k : Int) = max 0 (min mi 129)))
    (HLG : Hid (∀ j, j < k → dg L j = n - hiN q (128 - j) * d)) (HLE : Hid (∀ j, hiN q (128 - j) * d ≤ n))
    (HD : Hid (∀ w, Calls Try.prog 23 #[.agg #[.int .u64 (dgl (n) 0 : Nat), .int .u64 (dgl (n) 1 : Nat), .int .u64 (dgl (n) 2 : Nat), .int .u64 (dgl (n) 3 : Nat), .int .u64 (dgl (n) 4 : Nat), .int .u64 (dgl (n) 5 : Nat), .int .u64 (dgl (n) 6 : Nat), .int .u64 (dgl (n) 7 : Nat)], .agg #[.int .u64 (dgl (d) 0 : Nat), .int .u64 (dgl (d) 1 : Nat), .int .u64 (dgl (d) 2 : Nat), .int .u64 (dgl (d) 3 : Nat), .int .u64 (dgl (d) 4 : Nat), .int .u64 (dgl (d) 5 : Nat), .int .u64 (dgl (d) 6 : Nat), .int .u64 (dgl (d) 7 : Nat)], .int .i64 mi] w fun e w' => ∃ v, e = .returned (.tuple #[v, .int .i64 0]) ∧ RdW w' v L ∧ Below w.heap.size w w'))
    (HM : Hid (∀ w, Calls Try.prog 15 #[.agg #[.int .u64 (dgl (n) 0 : Nat), .int .u64 (dgl (n) 1 : Nat), .int .u64 (dgl (n) 2 : Nat), .int .u64 (dgl (n) 3 : Nat), .int .u64 (dgl (n) 4 : Nat), .int .u64 (dgl (n) 5 : Nat), .int .u64 (dgl (n) 6 : Nat), .int .u64 (dgl (n) 7 : Nat)], .agg #[.int .u64 (dgl (d) 0 : Nat), .int .u64 (dgl (d) 1 : Nat), .int .u64 (dgl (d) 2 : Nat), .int .u64 (dgl (d) 3 : Nat), .int .u64 (dgl (d) 4 : Nat), .int .u64 (dgl (d) 5 : Nat), .int .u64 (dgl (d) 6 : Nat), .int .u64 (dgl (d) 7 : Nat)]] w fun e w' => e = .returned (.int .i64 0) ∧ Below w.heap.size w w'))
    (HDV : Hid (∀ w, Calls Try.prog 19 #[.agg #[.int .u64 (dgl (n) 0 : Nat), .int .u64 (dgl (n) 1 : Nat), .int .u64 (dgl (n) 2 : Nat), .int .u64 (dgl (n) 3 : Nat), .int .u64 (dgl (n) 4 : Nat), .int .u64 (dgl (n) 5 : Nat), .int .u64 (dgl (n) 6 : Nat), .int .u64 (dgl (n) 7 : Nat)], .agg #[.int .u64 (dgl (d) 0 : Nat), .int .u64 (dgl (d) 1 : Nat), .int .u64 (dgl (d) 2 : Nat), .int .u64 (dgl (d) 3 : Nat), .int .u64 (dgl (d) 4 : Nat), .int .u64 (dgl (d) 5 : Nat), .int .u64 (dgl (d) 6 : Nat), .int .u64 (dgl (d) 7 : Nat)]] w fun e w' => e = .returned (.tuple #[.agg #[.int .u64 (dgl (q) 0 : Nat), .int .u64 (dgl (q) 1 : Nat), .int .u64 (dgl (q) 2 : Nat), .int .u64 (dgl (q) 3 : Nat), .int .u64 (dgl (q) 4 : Nat), .int .u64 (dgl (q) 5 : Nat), .int .u64 (dgl (q) 6 : Nat), .int .u64 (dgl (q) 7 : Nat)], .agg #[.int .u64 (dgl (r) 0 : Nat), .int .u64 (dgl (r) 1 : Nat), .int .u64 (dgl (r) 2 : Nat), .int .u64 (dgl (r) 3 : Nat), .int .u64 (dgl (r) 4 : Nat), .int .u64 (dgl (r) 5 : Nat), .int .u64 (dgl (r) 6 : Nat), .int .u64 (dgl (r) 7 : Nat)]]) ∧ Below w.heap.size w w'))
    (HBQ : Hid (∀ w, Calls Try.prog 20 #[.agg #[.int .u64 (dgl (q) 0 : Nat), .int .u64 (dgl (q) 1 : Nat), .int .u64 (dgl (q) 2 : Nat), .int .u64 (dgl (q) 3 : Nat), .int .u64 (dgl (q) 4 : Nat), .int .u64 (dgl (q) 5 : Nat), .int .u64 (dgl (q) 6 : Nat), .int .u64 (dgl (q) 7 : Nat)]] w fun e w' => ∃ v, e = .returned v ∧ BigV w' v q 40 ∧ Below w.heap.size w w'))
    (HBN : Hid (∀ w, Calls Try.prog 20 #[.agg #[.int .u64 (dgl (n) 0 : Nat), .int .u64 (dgl (n) 1 : Nat), .int .u64 (dgl (n) 2 : Nat), .int .u64 (dgl (n) 3 : Nat), .int .u64 (dgl (n) 4 : Nat), .int .u64 (dgl (n) 5 : Nat), .int .u64 (dgl (n) 6 : Nat), .int .u64 (dgl (n) 7 : Nat)]] w fun e w' => ∃ v, e = .returned v ∧ BigV w' v n 40 ∧ Below w.heap.size w w'))
    (HBD : Hid (∀ w, Calls Try.prog 20 #[.agg #[.int .u64 (dgl (d) 0 : Nat), .int .u64 (dgl (d) 1 : Nat), .int .u64 (dgl (d) 2 : Nat), .int .u64 (dgl (d) 3 : Nat), .int .u64 (dgl (d) 4 : Nat), .int .u64 (dgl (d) 5 : Nat), .int .u64 (dgl (d) 6 : Nat), .int .u64 (dgl (d) 7 : Nat)]] w fun e w' => ∃ v, e = .returned v ∧ BigV w' v d 40 ∧ Below w.heap.size w w'))
    (HAW : Hid (∀ w, Calls Try.prog 17 #[] w fun e w' => e = .returned (.bool true) ∧ Below w.heap.size w w')) (w : World) :
    Calls Try.prog 5 #[.agg #[.int .u64 (dgl (n) 0 : Nat), .int .u64 (dgl (n) 1 : Nat), .int .u64 (dgl (n) 2 : Nat), .int .u64 (dgl (n) 3 : Nat), .int .u64 (dgl (n) 4 : Nat), .int .u64 (dgl (n) 5 : Nat), .int .u64 (dgl (n) 6 : Nat), .int .u64 (dgl (n) 7 : Nat)], .agg #[.int .u64 (dgl (d) 0 : Nat), .int .u64 (dgl (d) 1 : Nat), .int .u64 (dgl (d) 2 : Nat), .int .u64 (dgl (d) 3 : Nat), .int .u64 (dgl (d) 4 : Nat), .int .u64 (dgl (d) 5 : Nat), .int .u64 (dgl (d) 6 : Nat), .int .u64 (dgl (d) 7 : Nat)], .int .i64 mi] w fun e w' => e = .returned (.bool true) ∧ Below w.heap.size w w' := by
  have HT := hide (twSt_start n d w 24 24)
  have hne : ((k : Int) != max 0 (min mi 129)) = false := by rw [bne_eq_false_iff_eq]; exact HKM.out
  go_enter Try.func5, Try.ntmps5
  have hca := HT.out.la.1
  have hcb := HT.out.lb.1
  go_wp2_with fail
  refine (HD.out _).mono ?_
  rintro e' w1 ⟨v, rfl, hrd, hb1⟩
  obtain ⟨ao, cap, rfl⟩ := rdw_slice hrd HLN.out
  have HS1 := hide (show TwSt n d w w1 ∧ RdW w1 (.slice ao k cap) L from ⟨HT.out.below hb1, hrd⟩)
  clear hb1 hca hcb hrd HD HT
  have hca := HS1.out.1.la.1
  have hcb := HS1.out.1.lb.1
  go_wp2_with fail
  refine (HM.out _).mono ?_
  rintro e' w2 ⟨rfl, hb2⟩
  replace HS1 := hide (show TwSt n d w w2 ∧ RdW w2 (.slice ao k cap) L from ⟨HS1.out.1.below hb2, HS1.out.2.keep hb2⟩)
  clear hb2 hca hcb
  have hca := HS1.out.1.la.1
  have hcb := HS1.out.1.lb.1
  go_wp2_with fail
  refine (HDV.out _).mono ?_
  rintro e' w3 ⟨rfl, hb3⟩
  replace HS1 := hide (show TwSt n d w w3 ∧ RdW w3 (.slice ao k cap) L from ⟨HS1.out.1.below hb3, HS1.out.2.keep hb3⟩)
  clear hb3 hca hcb hne HKM
  go_upto_region 8 with fail
  have hbw := below_trans (below_allocs w3 (.cells #[.int .u64 (dgl (q) 0 : Nat), .int .u64 (dgl (q) 1 : Nat), .int .u64 (dgl (q) 2 : Nat), .int .u64 (dgl (q) 3 : Nat), .int .u64 (dgl (q) 4 : Nat), .int .u64 (dgl (q) 5 : Nat), .int .u64 (dgl (q) 6 : Nat), .int .u64 (dgl (q) 7 : Nat)] 24)) (below_allocs _ (.cells #[.int .u64 (dgl (r) 0 : Nat), .int .u64 (dgl (r) 1 : Nat), .int .u64 (dgl (r) 2 : Nat), .int .u64 (dgl (r) 3 : Nat), .int .u64 (dgl (r) 4 : Nat), .int .u64 (dgl (r) 5 : Nat), .int .u64 (dgl (r) 6 : Nat), .int .u64 (dgl (r) 7 : Nat)] 24))
  refine wp_gen (fun W => TwSt n d w W ∧ LiesF W w3.heap.size (dgl q) ∧ RdW W (.slice ao k cap) L) ⟨HS1.out.1.below hbw, (r2_put w w3 q r HS1.out.1.bel _ _).lx, HS1.out.2.keep hbw⟩ ?_
  clear HS1 hbw
  generalize w3.heap.size = p10 at *
  rintro W8 h8
  have HS0 := hide h8
  clear h8
  go_wp2
  go_loopw [12] (fun i wr => ∃ j : Nat, j ≤ k ∧ i = .int .i64 (j : Nat) ∧ Hid (TwSt n d w wr ∧ LiesF wr p10 (dgl q) ∧ RdW wr (.slice ao k cap) L))
    (fun i _ => k - (intOf i).toNat)
  case atStart => exact ⟨0, by omega, rfl, HS0⟩
  case round =>
    clear HS0
    obtain ⟨j, hjk, rfl, HS⟩ := hrel
    by_cases hlt : j < k
    · have hj : (j : Int) < (k : Int) := by omega
      have HJ := hide hlt
      obtain ⟨b, off, rfl, hbl, hcl⟩ := rdw_cells HS.out.2.2 HLN.out hlt
      have hlg := HLG.out j hlt
      have hle := HLE.out j
      obtain ⟨m, hm⟩ : ∃ m, 128 - j = m := ⟨_, rfl⟩
      have hsb : IntKind.i64.wrap (128 - (j : Int)) = ((m : Nat) : Int) := by rw [IntKind.wrap_i64]; omega
      have hm128 : m ≤ 128 := by omega
      rw [hm] at hlg hle
      have HSR : Hid (∀ u w, BigV w u q 40 → Calls Try.prog 22 #[u, .int .i64 (m : Nat)] w fun e w' => ∃ v', e = .returned v' ∧ BigV w' v' (q / 2 ^ m) 40 ∧ Below w.heap.size w w') := fun u w hu => refShr_any q 40 m u w hu (by decide) (by omega)
      have HSL : Hid (∀ u w, BigV w u (q / 2 ^ m) 40 → Calls Try.prog 24 #[u, .int .i64 (m : Nat)] w fun e w' => ∃ v', e = .returned v' ∧ BigV w' v' (q / 2 ^ m * 2 ^ m) 60 ∧ Below w.heap.size w w') := fun u w hu =>
        (refShl_any _ 40 m u w hu (by decide) (by omega)).mono fun e w' ⟨v', e1, e2, e3⟩ => ⟨v', e1, e2.mono (by omega), e3⟩
      have HHI : Hid (q / 2 ^ m * 2 ^ m = hiN q m) := rfl
      rw [HHI.out] at HSL
      generalize q / 2 ^ m = qm at *
      clear HHI
      generalize hiN q m = hm at *
      rename_i hmEq
      have HMU : Hid (∀ u v w, BigV w u hm 60 → BigV w v d 40 → Calls Try.prog 27 #[u, v] w fun e w' => ∃ v', e = .returned v' ∧ BigV w' v' (hm * d) 100 ∧ Below w.heap.size w w') := fun u v w hu hv => refMul_any hm d 60 40 u v w hu hv (by decide) (by decide)
      have HSB : Hid (∀ u v w, BigV w u n 40 → BigV w v (hm * d) 100 → Calls Try.prog 26 #[u, v] w fun e w' => ∃ v', e = .returned v' ∧ BigV w' v' (n - hm * d) 100 ∧ Below w.heap.size w w') := fun u v w hu hv =>
        (refSub_any n (hm * d) 40 100 u v w hu hv (by decide) hle).mono fun e w' ⟨v', e1, e2, e3⟩ => ⟨v', e1, e2.mono (by decide), e3⟩
      rw [hlg] at hcl
      generalize n - hm * d = lf at *
      have HWI : Hid (∀ u w, BigV w u lf 100 → Calls Try.prog 25 #[u] w fun e w' => e = .returned (.tuple #[.agg #[.int .u64 (dgl (lf) 0 : Nat), .int .u64 (dgl (lf) 1 : Nat), .int .u64 (dgl (lf) 2 : Nat), .int .u64 (dgl (lf) 3 : Nat), .int .u64 (dgl (lf) 4 : Nat), .int .u64 (dgl (lf) 5 : Nat), .int .u64 (dgl (lf) 6 : Nat), .int .u64 (dgl (lf) 7 : Nat)], .bool (decide (QQ ≤ lf))]) ∧ Below w.heap.size w w') := fun u w hu => refWide_any lf 100 u w hu
      generalize decide (QQ ≤ lf) = ov at *
      have hsl := fun w => wide_sameF (dgl lf) w
      have HC := hide (show b < wr.heap.size ∧ ∀ i, i < 8 → wr.cell? ⟨b, off + j * 8 + i, none⟩ = some (.int .u64 (dgl lf i : Nat)) from ⟨hbl, hcl⟩)
      clear hlg hle hbl hcl hmEq hm128
      have hcq := HS.out.2.1.1
      go_wp2_with fail
      refine (HBQ.out _).mono ?_
      rintro e' w9 ⟨u9, rfl, hu9, hb9⟩
      replace HS := hide (show TwSt n d w w9 ∧ LiesF w9 p10 (dgl q) ∧ RdW w9 (.slice (some ⟨b, off, none⟩) k cap) L from ⟨HS.out.1.below hb9, HS.out.2.1.below hb9, HS.out.2.2.keep hb9⟩)
      replace HC := hide (show b < w9.heap.size ∧ ∀ i, i < 8 → w9.cell? ⟨b, off + j * 8 + i, none⟩ = some (.int .u64 (dgl lf i : Nat)) from ⟨Nat.lt_of_lt_of_le HC.out.1 hb9.size, fun i hi => (hb9.cell (p := ⟨b, off + j * 8 + i, none⟩) HC.out.1).trans (HC.out.2 i hi)⟩)
      clear hb9
      clear hcq
      go_wp2_with fail
      refine (HSR.out _ _ hu9).mono ?_
      rintro e' w10 ⟨u10, rfl, hu10, hb10⟩
      replace HS := hide (show TwSt n d w w10 ∧ LiesF w10 p10 (dgl q) ∧ RdW w10 (.slice (some ⟨b, off, none⟩) k cap) L from ⟨HS.out.1.below hb10, HS.out.2.1.below hb10, HS.out.2.2.keep hb10⟩)
      replace HC := hide (show b < w10.heap.size ∧ ∀ i, i < 8 → w10.cell? ⟨b, off + j * 8 + i, none⟩ = some (.int .u64 (dgl lf i : Nat)) from ⟨Nat.lt_of_lt_of_le HC.out.1 hb10.size, fun i hi => (hb10.cell (p := ⟨b, off + j * 8 + i, none⟩) HC.out.1).trans (HC.out.2 i hi)⟩)
      clear hb10
      clear hu9
      go_wp2_with fail
      refine (HSL.out _ _ hu10).mono ?_
      rintro e' w11 ⟨u13, rfl, hu13, hb11⟩
      replace HS := hide (show TwSt n d w w11 ∧ LiesF w11 p10 (dgl q) ∧ RdW w11 (.slice (some ⟨b, off, none⟩) k cap) L from ⟨HS.out.1.below hb11, HS.out.2.1.below hb11, HS.out.2.2.keep hb11⟩)
      replace HC := hide (show b < w11.heap.size ∧ ∀ i, i < 8 → w11.cell? ⟨b, off + j * 8 + i, none⟩ = some (.int .u64 (dgl lf i : Nat)) from ⟨Nat.lt_of_lt_of_le HC.out.1 hb11.size, fun i hi => (hb11.cell (p := ⟨b, off + j * 8 + i, none⟩) HC.out.1).trans (HC.out.2 i hi)⟩)
      clear hb11
      clear hu10
      have H13 := hide hu13
      clear hu13
      go_upto_region 12 with fail
      refine wp_gen (fun W => (TwSt n d w W ∧ LiesF W p10 (dgl q) ∧ RdW W (.slice (some ⟨b, off, none⟩) k cap) L) ∧ (b < W.heap.size ∧ ∀ i, i < 8 → W.cell? ⟨b, off + j * 8 + i, none⟩ = some (.int .u64 (dgl lf i : Nat))) ∧ BigV W u13 hm 60) ⟨HS.out, HC.out, H13.out⟩ ?_
      clear HS HC H13
      rintro W11 h11
      have HS := hide h11.1
      have HC := hide h11.2.1
      have H13 := hide h11.2.2
      clear h11
      refine wp_region_storeK 14 [12] [70, 71, 72, 73, 74, 75, 76, 77, 69, 78, 79, 14, 15] (fun bs => [(70, .val (.agg #[.int .u64 (dgl (n) 0 : Nat), .int .u64 (dgl (n) 1 : Nat), .int .u64 (dgl (n) 2 : Nat), .int .u64 (dgl (n) 3 : Nat), .int .u64 (dgl (n) 4 : Nat), .int .u64 (dgl (n) 5 : Nat), .int .u64 (dgl (n) 6 : Nat), .int .u64 (dgl (n) 7 : Nat)])), (71, bif bs.headD false then SlotIs.any  else SlotIs.big n 40), (72, .val (u13)), (73, .val (.agg #[.int .u64 (dgl (d) 0 : Nat), .int .u64 (dgl (d) 1 : Nat), .int .u64 (dgl (d) 2 : Nat), .int .u64 (dgl (d) 3 : Nat), .int .u64 (dgl (d) 4 : Nat), .int .u64 (dgl (d) 5 : Nat), .int .u64 (dgl (d) 6 : Nat), .int .u64 (dgl (d) 7 : Nat)])), (74, bif bs.headD false then SlotIs.any  else SlotIs.big d 40), (75, bif bs.headD false then SlotIs.any  else SlotIs.big (hm * d) 100), (76, bif bs.headD false then SlotIs.any  else SlotIs.big lf 100), (77, .val (.tuple #[.agg #[.int .u64 (dgl (lf) 0 : Nat), .int .u64 (dgl (lf) 1 : Nat), .int .u64 (dgl (lf) 2 : Nat), .int .u64 (dgl (lf) 3 : Nat), .int .u64 (dgl (lf) 4 : Nat), .int .u64 (dgl (lf) 5 : Nat), .int .u64 (dgl (lf) 6 : Nat), .int .u64 (dgl (lf) 7 : Nat)], .bool ov])), (69, .val (.tuple #[.agg #[.int .u64 (dgl (lf) 0 : Nat), .int .u64 (dgl (lf) 1 : Nat), .int .u64 (dgl (lf) 2 : Nat), .int .u64 (dgl (lf) 3 : Nat), .int .u64 (dgl (lf) 4 : Nat), .int .u64 (dgl (lf) 5 : Nat), .int .u64 (dgl (lf) 6 : Nat), .int .u64 (dgl (lf) 7 : Nat)], .bool ov])), (78, .val (.agg #[.int .u64 (dgl (lf) 0 : Nat), .int .u64 (dgl (lf) 1 : Nat), .int .u64 (dgl (lf) 2 : Nat), .int .u64 (dgl (lf) 3 : Nat), .int .u64 (dgl (lf) 4 : Nat), .int .u64 (dgl (lf) 5 : Nat), .int .u64 (dgl (lf) 6 : Nat), .int .u64 (dgl (lf) 7 : Nat)])), (79, .val (.bool ov)), (14, bif bs.headD false then SlotIs.box W11.heap.size (dgl lf) else SlotIs.box W11.heap.size (fun _ => 0)), (15, .val (.bool ov))])
        (fun _ W => Below W11.heap.size W11 W) (fun bs => rfl) mixedOk (by kernel_rfl) (by kernel_rfl) (by kernel_rfl) ((Below.refl _ _).drew) (fun bs W W' h hb => h.trans (hb.mono h.size)) ?_ ?_
      · refine kSt rfl (fun φ hφ => gStep_run rfl ?_) ?_
        · intro ρ W hC hc hf hL
          have e3 : ρ (.tmp 3) = .pointer (some ⟨w.heap.size, 0, none⟩) := hL 3 (by decide +kernel)
          have hl := (HS.out.1.below hC).la.1
          simp [go_sem, hc, hf, e3, hl]
          exact ⟨Below.refl _ _, rfl⟩
        refine kSt rfl (fun φ hφ => gStep_run rfl ?_) ?_
        · intro ρ W hC hc hf hL
          have hφ0 : φ 12 = false := hφ 12 (by simp) (by kernel_rfl)
          have e70 : ρ (.tmp 70) = .agg #[.int .u64 (dgl (n) 0 : Nat), .int .u64 (dgl (n) 1 : Nat), .int .u64 (dgl (n) 2 : Nat), .int .u64 (dgl (n) 3 : Nat), .int .u64 (dgl (n) 4 : Nat), .int .u64 (dgl (n) 5 : Nat), .int .u64 (dgl (n) 6 : Nat), .int .u64 (dgl (n) 7 : Nat)] := hL 70 (by decide +kernel)
          simp [go_sem, hc, hf, e70]
          refine (HBN.out W).mono ?_
          rintro e w' ⟨v, rfl, hv, hb⟩
          refine ⟨_, rfl, hb, ?_⟩
          show (bif φ 12 then SlotIs.any else SlotIs.big (n) 40).R _ _
          rw [hφ0]
          exact hv
        refine kSt rfl (fun φ hφ => gStep_run rfl (gRun_move 13 72 (.inl rfl) rfl (by decide +kernel) (fun v w h => h))) ?_
        refine kSt rfl (fun φ hφ => gStep_run rfl ?_) ?_
        · intro ρ W hC hc hf hL
          have e4 : ρ (.tmp 4) = .pointer (some ⟨w.heap.size + 1, 0, none⟩) := hL 4 (by decide +kernel)
          have hl := (HS.out.1.below hC).lb.1
          simp [go_sem, hc, hf, e4, hl]
          exact ⟨Below.refl _ _, rfl⟩
        refine kSt rfl (fun φ hφ => gStep_run rfl ?_) ?_
        · intro ρ W hC hc hf hL
          have hφ0 : φ 12 = false := hφ 12 (by simp) (by kernel_rfl)
          have e73 : ρ (.tmp 73) = .agg #[.int .u64 (dgl (d) 0 : Nat), .int .u64 (dgl (d) 1 : Nat), .int .u64 (dgl (d) 2 : Nat), .int .u64 (dgl (d) 3 : Nat), .int .u64 (dgl (d) 4 : Nat), .int .u64 (dgl (d) 5 : Nat), .int .u64 (dgl (d) 6 : Nat), .int .u64 (dgl (d) 7 : Nat)] := hL 73 (by decide +kernel)
          simp [go_sem, hc, hf, e73]
          refine (HBD.out W).mono ?_
          rintro e w' ⟨v, rfl, hv, hb⟩
          refine ⟨_, rfl, hb, ?_⟩
          show (bif φ 12 then SlotIs.any else SlotIs.big (d) 40).R _ _
          rw [hφ0]
          exact hv
        refine kSt rfl (fun φ hφ => gStep_run rfl ?_) ?_
        · intro ρ W hC hc hf hL
          have hφ0 : φ 12 = false := hφ 12 (by simp) (by kernel_rfl)
          have e72 : ρ (.tmp 72) = u13 := hL 72 (by decide +kernel)
          have b74 : (bif φ 12 then SlotIs.any  else SlotIs.big d 40).R (ρ (.tmp 74)) W := hL 74 (by decide +kernel)
          rw [hφ0] at b74
          simp [go_sem, hc, hf, e72]
          refine (HMU.out _ _ W (BigV.below H13.out hC) b74).mono ?_
          rintro e w' ⟨v, rfl, hv, hb⟩
          refine ⟨_, rfl, hb, ?_⟩
          show (bif φ 12 then SlotIs.any else SlotIs.big (hm * d) 100).R _ _
          rw [hφ0]
          exact hv
        refine kSt rfl (fun φ hφ => gStep_run rfl ?_) ?_
        · intro ρ W hC hc hf hL
          have hφ0 : φ 12 = false := hφ 12 (by simp) (by kernel_rfl)
          have b71 : (bif φ 12 then SlotIs.any  else SlotIs.big n 40).R (ρ (.tmp 71)) W := hL 71 (by decide +kernel)
          rw [hφ0] at b71
          have b75 : (bif φ 12 then SlotIs.any  else SlotIs.big (hm * d) 100).R (ρ (.tmp 75)) W := hL 75 (by decide +kernel)
          rw [hφ0] at b75
          simp [go_sem, hc, hf]
          refine (HSB.out _ _ W b71 b75).mono ?_
          rintro e w' ⟨v, rfl, hv, hb⟩
          refine ⟨_, rfl, hb, ?_⟩
          show (bif φ 12 then SlotIs.any else SlotIs.big (lf) 100).R _ _
          rw [hφ0]
          exact hv
        refine kSt rfl (fun φ hφ => gStep_run rfl ?_) ?_
        · intro ρ W hC hc hf hL
          have hφ0 : φ 12 = false := hφ 12 (by simp) (by kernel_rfl)
          have b76 : (bif φ 12 then SlotIs.any  else SlotIs.big lf 100).R (ρ (.tmp 76)) W := hL 76 (by decide +kernel)
          rw [hφ0] at b76
          simp [go_sem, hc, hf]
          refine (HWI.out _ W b76).mono ?_
          rintro e w' ⟨rfl, hb⟩
          exact ⟨_, rfl, by first | exact hb | (subst hb; exact Below.refl _ _), rfl⟩
        refine kSt rfl (fun φ hφ => gStep_run rfl (gRun_move 77 69 (.inl rfl) rfl (by decide +kernel) (fun v w h => h))) ?_
        refine kSt rfl (fun φ hφ => gStep_run rfl ?_) ?_
        · intro ρ W hC hc hf hL
          have e69 : ρ (.tmp 69) = .tuple #[.agg #[.int .u64 (dgl (lf) 0 : Nat), .int .u64 (dgl (lf) 1 : Nat), .int .u64 (dgl (lf) 2 : Nat), .int .u64 (dgl (lf) 3 : Nat), .int .u64 (dgl (lf) 4 : Nat), .int .u64 (dgl (lf) 5 : Nat), .int .u64 (dgl (lf) 6 : Nat), .int .u64 (dgl (lf) 7 : Nat)], .bool ov] := hL 69 (by decide +kernel)
          simp [go_sem, hc, hf, e69]
          exact ⟨Below.refl _ _, rfl⟩
        refine kSt rfl (fun φ hφ => gStep_run rfl ?_) ?_
        · intro ρ W hC hc hf hL
          have e69 : ρ (.tmp 69) = .tuple #[.agg #[.int .u64 (dgl (lf) 0 : Nat), .int .u64 (dgl (lf) 1 : Nat), .int .u64 (dgl (lf) 2 : Nat), .int .u64 (dgl (lf) 3 : Nat), .int .u64 (dgl (lf) 4 : Nat), .int .u64 (dgl (lf) 5 : Nat), .int .u64 (dgl (lf) 6 : Nat), .int .u64 (dgl (lf) 7 : Nat)], .bool ov] := hL 69 (by decide +kernel)
          simp [go_sem, hc, hf, e69]
          exact ⟨Below.refl _ _, rfl⟩
        refine kSt rfl (fun φ hφ => gStep_run rfl ?_) ?_
        · intro ρ W hC hc hf hL
          have hφ0 : φ 12 = false := hφ 12 (by simp) (by kernel_rfl)
          simp [go_sem, hc, hf]
          refine ⟨below_allocs _ _, ?_⟩
          show (bif φ 12 then SlotIs.box (W11.heap.size) (dgl lf) else SlotIs.box (W11.heap.size) (fun _ => 0)).R _ _
          rw [hφ0]
          exact ⟨_, rfl, hC.size, liesF_new _ (fun _ => 0) _, fun i => by simp [go_sem]⟩
        refine kStS rfl ⟨rfl, rfl, ?_⟩ ?_
        · intro φ ρ W hφ hC hc hL
          have b14 := hL 14 (by decide +kernel)
          have e78 : ρ (.tmp 78) = .agg #[.int .u64 (dgl (lf) 0 : Nat), .int .u64 (dgl (lf) 1 : Nat), .int .u64 (dgl (lf) 2 : Nat), .int .u64 (dgl (lf) 3 : Nat), .int .u64 (dgl (lf) 4 : Nat), .int .u64 (dgl (lf) 5 : Nat), .int .u64 (dgl (lf) 6 : Nat), .int .u64 (dgl (lf) 7 : Nat)] := hL 78 (by decide +kernel)
          have bx : (bif φ 12 then SlotIs.box (W11.heap.size) (dgl lf) else SlotIs.box (W11.heap.size) (fun _ => 0)).R (ρ (.tmp 14)) W := hL 14 (by decide +kernel)
          rw [hφ] at bx
          obtain ⟨px, ex, qx, lx, zx⟩ := bx
          have hz := lx.1
          have hzl := lx.2
          refine gUpon_of ((((((((W.setCell ⟨px, 0, none⟩ (.int .u64 (dgl lf 0 : Nat))).setCell ⟨px, 1, none⟩ (.int .u64 (dgl lf 1 : Nat))).setCell ⟨px, 2, none⟩ (.int .u64 (dgl lf 2 : Nat))).setCell ⟨px, 3, none⟩ (.int .u64 (dgl lf 3 : Nat))).setCell ⟨px, 4, none⟩ (.int .u64 (dgl lf 4 : Nat))).setCell ⟨px, 5, none⟩ (.int .u64 (dgl lf 5 : Nat))).setCell ⟨px, 6, none⟩ (.int .u64 (dgl lf 6 : Nat))).setCell ⟨px, 7, none⟩ (.int .u64 (dgl lf 7 : Nat))) ?_ (fun _ => ?_)
          · simp [go_sem, hc, e78, ex, hz, hzl, zx, gUpon]
          have hs8 := below_set8 (Below.refl W11.heap.size W) px qx (.int .u64 (dgl lf 0 : Nat)) (.int .u64 (dgl lf 1 : Nat)) (.int .u64 (dgl lf 2 : Nat)) (.int .u64 (dgl lf 3 : Nat)) (.int .u64 (dgl lf 4 : Nat)) (.int .u64 (dgl lf 5 : Nat)) (.int .u64 (dgl lf 6 : Nat)) (.int .u64 (dgl lf 7 : Nat))
          refine ⟨hC.trans hs8, fun t => ?_⟩
          refine (tbl_imp rfl (fun _ => val_imp) (tbl_imp rfl (fun _ _ => ?_) (tbl_imp rfl (fun _ => val_imp) (tbl_imp rfl (fun _ => val_imp) (tbl_imp rfl (fun _ _ => ?_) (tbl_imp rfl (fun _ _ => ?_) (tbl_imp rfl (fun _ _ => ?_) (tbl_imp rfl (fun _ => val_imp) (tbl_imp rfl (fun _ => val_imp) (tbl_imp rfl (fun _ => val_imp) (tbl_imp rfl (fun _ => val_imp) (tbl_imp rfl (fun ht h => ?_) (tbl_imp rfl (fun _ => val_imp) tbl_nil_imp)))))))))))))
          · show (bif (φ 12 || true) then SlotIs.any else SlotIs.big (n) 40).R _ _
            rw [Bool.or_true]
            trivial
          · show (bif (φ 12 || true) then SlotIs.any else SlotIs.big (d) 40).R _ _
            rw [Bool.or_true]
            trivial
          · show (bif (φ 12 || true) then SlotIs.any else SlotIs.big (hm * d) 100).R _ _
            rw [Bool.or_true]
            trivial
          · show (bif (φ 12 || true) then SlotIs.any else SlotIs.big (lf) 100).R _ _
            rw [Bool.or_true]
            trivial
          · subst ht
            show (bif (φ 12 || true) then SlotIs.box (W11.heap.size) (dgl lf) else SlotIs.box (W11.heap.size) (fun _ => 0)).R _ _
            rw [Bool.or_true]
            exact ⟨px, ex, qx, set8_same W px (dgl lf) (fun _ => 0) lx, fun i => by simpa [go_sem] using zx i⟩
        refine kSt rfl (fun φ hφ => gStep_run rfl (gRun_move 79 15 (.inr rfl) rfl (by decide +kernel) (fun v w h => h))) ?_
        exact kSt0
      · intro W hC
        refine gFi 70 rfl ?_
        rintro _ rfl
        refine gFi 71 rfl ?_
        rintro u71 b71
        refine gFi 72 rfl ?_
        rintro _ rfl
        refine gFi 73 rfl ?_
        rintro _ rfl
        refine gFi 74 rfl ?_
        rintro u74 b74
        refine gFi 75 rfl ?_
        rintro u75 b75
        refine gFi 76 rfl ?_
        rintro u76 b76
        refine gFi 77 rfl ?_
        rintro _ rfl
        refine gFi 69 rfl ?_
        rintro _ rfl
        refine gFi 78 rfl ?_
        rintro _ rfl
        refine gFi 79 rfl ?_
        rintro _ rfl
        refine gFi 14 rfl ?_
        rintro _ ⟨p14, rfl, q14, l14, z14⟩
        refine gFiN rfl ?_
        refine gFi 15 rfl ?_
        rintro _ rfl
        refine gFi0 ?_
        simp only [List.drop_succ_cons, List.drop_zero, Act.put, List.setIfInBounds_toArray, List.set_cons_succ, List.set_cons_zero]
        have HS12 := hide (show TwSt n d w W ∧ LiesF W p10 (dgl q) ∧ RdW W (.slice (some ⟨b, off, none⟩) k cap) L from ⟨HS.out.1.below hC, HS.out.2.1.below hC, HS.out.2.2.keep hC⟩)
        have HC2 := hide (show b < W.heap.size ∧ ∀ i, i < 8 → W.cell? ⟨b, off + j * 8 + i, none⟩ = some (.int .u64 (dgl lf i : Nat)) from ⟨Nat.lt_of_lt_of_le HC.out.1 hC.size, fun i hi => (hC.cell (p := ⟨b, off + j * 8 + i, none⟩) HC.out.1).trans (HC.out.2 i hi)⟩)
        have H14 := hide l14
        clear HS HC hC l14 q14 z14 b71 b74 b75 b76 H13
        go_upto_region 13 with fail
        refine wp_gen (fun W => (TwSt n d w W ∧ LiesF W p10 (dgl q) ∧ RdW W (.slice (some ⟨b, off, none⟩) k cap) L) ∧ (b < W.heap.size ∧ ∀ i, i < 8 → W.cell? ⟨b, off + j * 8 + i, none⟩ = some (.int .u64 (dgl lf i : Nat))) ∧ LiesF W p14 (dgl lf)) ⟨HS12.out, HC2.out, H14.out⟩ ?_
        clear HS12 HC2 H14
        rintro W12 h12
        have HS := hide h12.1
        have HC := hide h12.2.1
        have H14 := hide h12.2.2
        clear h12
        refine wp_region_grow 6 [(80, .val (.slice (some ⟨b, off, none⟩) k cap)), (81, .val (.int .i64 (j : Nat))), (82, .val (.pointer (some ⟨b, off + j * 8, none⟩))), (83, .val (.agg #[.int .u64 (dgl (lf) 0 : Nat), .int .u64 (dgl (lf) 1 : Nat), .int .u64 (dgl (lf) 2 : Nat), .int .u64 (dgl (lf) 3 : Nat), .int .u64 (dgl (lf) 4 : Nat), .int .u64 (dgl (lf) 5 : Nat), .int .u64 (dgl (lf) 6 : Nat), .int .u64 (dgl (lf) 7 : Nat)])), (84, .val (.agg #[.int .u64 (dgl (lf) 0 : Nat), .int .u64 (dgl (lf) 1 : Nat), .int .u64 (dgl (lf) 2 : Nat), .int .u64 (dgl (lf) 3 : Nat), .int .u64 (dgl (lf) 4 : Nat), .int .u64 (dgl (lf) 5 : Nat), .int .u64 (dgl (lf) 6 : Nat), .int .u64 (dgl (lf) 7 : Nat)])), (85, .val (.bool false))]
          (fun W => Below W12.heap.size W12 W) mixedOk (by kernel_rfl) (by kernel_rfl) ((Below.refl _ _).drew) (fun W W' h hb => h.trans (hb.mono h.size)) ?_ ?_
        · refine gSt (gStep_run rfl (gRun_move 7 80 (.inl rfl) rfl (by decide +kernel) (fun v w h => h))) ?_
          refine gSt (gStep_run rfl (gRun_move 12 81 (.inl rfl) rfl (by decide +kernel) (fun v w h => h))) ?_
          refine gSt (gStep_run rfl ?_) ?_
          · intro ρ W hC hc hf hL
            have e80 : ρ (.tmp 80) = .slice (some ⟨b, off, none⟩) k cap := hL 80 (by decide +kernel)
            have e81 : ρ (.tmp 81) = .int .i64 (j : Nat) := hL 81 (by decide +kernel)
            have hkl : (j : Int) < (k : Int) := by have := HJ.out; omega
            have hk0 : (0 : Int) ≤ (j : Int) := by omega
            simp [go_sem, hc, hf, e80, e81, hkl, hk0]
            exact ⟨Below.refl _ _, rfl⟩
          refine gSt (gStep_run rfl ?_) ?_
          · intro ρ W hC hc hf hL
            have e82 : ρ (.tmp 82) = .pointer (some ⟨b, off + j * 8, none⟩) := hL 82 (by decide +kernel)
            have hl : ∀ i, i < 8 → W.cell? ⟨b, off + j * 8 + i, none⟩ = some (.int .u64 (dgl lf i : Nat)) := fun i hi => (hC.cell (p := ⟨b, off + j * 8 + i, none⟩) HC.out.1).trans (HC.out.2 i hi)
            have hl0 := hl 0 (by decide)
            rw [Nat.add_zero] at hl0
            simp [go_sem, hc, hf, e82, hl, hl0]
            exact ⟨Below.refl _ _, rfl⟩
          refine gSt (gStep_run rfl ?_) ?_
          · intro ρ W hC hc hf hL
            have e14 : ρ (.tmp 14) = .pointer (some ⟨p14, 0, none⟩) := hL 14 (by decide +kernel)
            have hl := (H14.out.below hC).1
            simp [go_sem, hc, hf, e14, hl]
            exact ⟨Below.refl _ _, rfl⟩
          refine gSt (gStep_run rfl ?_) ?_
          · intro ρ W hC hc hf hL
            have e83 : ρ (.tmp 83) = .agg #[.int .u64 (dgl (lf) 0 : Nat), .int .u64 (dgl (lf) 1 : Nat), .int .u64 (dgl (lf) 2 : Nat), .int .u64 (dgl (lf) 3 : Nat), .int .u64 (dgl (lf) 4 : Nat), .int .u64 (dgl (lf) 5 : Nat), .int .u64 (dgl (lf) 6 : Nat), .int .u64 (dgl (lf) 7 : Nat)] := hL 83 (by decide +kernel)
            have e84 : ρ (.tmp 84) = .agg #[.int .u64 (dgl (lf) 0 : Nat), .int .u64 (dgl (lf) 1 : Nat), .int .u64 (dgl (lf) 2 : Nat), .int .u64 (dgl (lf) 3 : Nat), .int .u64 (dgl (lf) 4 : Nat), .int .u64 (dgl (lf) 5 : Nat), .int .u64 (dgl (lf) 6 : Nat), .int .u64 (dgl (lf) 7 : Nat)] := hL 84 (by decide +kernel)
            simp [go_sem, hc, hf, e83, e84, hsl]
            exact ⟨Below.refl _ _, rfl⟩
          exact gSt0
        · intro W hC
          refine gFi 80 rfl ?_
          rintro _ rfl
          refine gFi 81 rfl ?_
          rintro _ rfl
          refine gFi 82 rfl ?_
          rintro _ rfl
          refine gFi 83 rfl ?_
          rintro _ rfl
          refine gFi 84 rfl ?_
          rintro _ rfl
          refine gFi 85 rfl ?_
          rintro _ rfl
          refine gFi0 ?_
          simp only [List.drop_succ_cons, List.drop_zero, Act.put, List.setIfInBounds_toArray, List.set_cons_succ, List.set_cons_zero]
          replace HS := hide (show TwSt n d w W ∧ LiesF W p10 (dgl q) ∧ RdW W (.slice (some ⟨b, off, none⟩) k cap) L from ⟨HS.out.1.below hC, HS.out.2.1.below hC, HS.out.2.2.keep hC⟩)
          clear hC HC H14
          have hw1 : IntKind.i64.wrap ((j : Int) + 1) = ((j + 1 : Nat) : Int) := by rw [IntKind.wrap_i64]; omega
          go_wp2
          go_roundw
          case rel => exact ⟨j + 1, by omega, by go_num, HS⟩
          case measure => simp [intOf]; omega
  
    · have hk2 : j = k := by omega
      subst hk2
      have hj : ¬ (j : Int) < (j : Int) := by omega
      go_wp2_with fail
      refine (HAW.out _).mono ?_
      rintro e' w9 ⟨rfl, hb9⟩
      have HB := hide (below_trans HS.out.1.bel hb9)
      clear HS hb9
      go_wp2
      go_ret
      exact ⟨rfl, HB.out⟩

theorem radix2Steps_walk (n d : Nat) (mi : Int) (hn : n < QQ) (hd : d < QQ) (w : World) :
    Calls Try.prog 5 #[.agg #[.int .u64 (dgl (n) 0 : Nat), .int .u64 (dgl (n) 1 : Nat), .int .u64 (dgl (n) 2 : Nat), .int .u64 (dgl (n) 3 : Nat), .int .u64 (dgl (n) 4 : Nat), .int .u64 (dgl (n) 5 : Nat), .int .u64 (dgl (n) 6 : Nat), .int .u64 (dgl (n) 7 : Nat)], .agg #[.int .u64 (dgl (d) 0 : Nat), .int .u64 (dgl (d) 1 : Nat), .int .u64 (dgl (d) 2 : Nat), .int .u64 (dgl (d) 3 : Nat), .int .u64 (dgl (d) 4 : Nat), .int .u64 (dgl (d) 5 : Nat), .int .u64 (dgl (d) 6 : Nat), .int .u64 (dgl (d) 7 : Nat)], .int .i64 mi] w fun e w' => e = .returned (.bool true) ∧ Below w.heap.size w w' := by
  have HM := fun w => rmay_any n d hn hd w
  have HM1 := fun w => may_any n d hn hd w
  by_cases hm : mayN n d = 0
  · rw [hm] at HM HM1
    have hz := mayN_zero hm
    obtain ⟨k, hk⟩ : ∃ k : Nat, (k : Int) = max 0 (min mi 129) := ⟨(max 0 (min mi 129)).toNat, by omega⟩
    have HD : ∀ w, Calls Try.prog 23 #[.agg #[.int .u64 (dgl (n) 0 : Nat), .int .u64 (dgl (n) 1 : Nat), .int .u64 (dgl (n) 2 : Nat), .int .u64 (dgl (n) 3 : Nat), .int .u64 (dgl (n) 4 : Nat), .int .u64 (dgl (n) 5 : Nat), .int .u64 (dgl (n) 6 : Nat), .int .u64 (dgl (n) 7 : Nat)], .agg #[.int .u64 (dgl (d) 0 : Nat), .int .u64 (dgl (d) 1 : Nat), .int .u64 (dgl (d) 2 : Nat), .int .u64 (dgl (d) 3 : Nat), .int .u64 (dgl (d) 4 : Nat), .int .u64 (dgl (d) 5 : Nat), .int .u64 (dgl (d) 6 : Nat), .int .u64 (dgl (d) 7 : Nat)], .int .i64 mi] w fun e w' => ∃ v, e = .returned (.tuple #[v, .int .i64 0]) ∧ RdW w' v (stepL n d k) ∧ Below w.heap.size w w' := by
      intro w
      by_cases h1 : mi < 1
      · have : k = 0 := by omega
        subst this
        refine (psteps_Z n d mi h1 HM1 w).mono ?_
        rintro e w' ⟨rfl, hb⟩
        exact ⟨_, rfl, ⟨none, 0, rfl, Nat.le_refl _, by unfold maxLen; omega, .inl rfl⟩, hb⟩
      · obtain ⟨M, rfl⟩ : ∃ M : Nat, mi = (M : Int) := ⟨mi.toNat, by omega⟩
        have := psteps_Y n d M hn (by omega) hm HM1 w
        rw [show min 129 M = k by omega] at this
        exact this
    exact slaw_Y n d (n / d) (n % d) k mi (stepL n d k) (stepL_len n d k) (by omega) hk (fun j hj => stepL_get n d k j hj) (fun j => hiN_mul_le n d _) HD HM
      (fun w => refDivide_any n d hn hd hz.1 (Nat.lt_of_lt_of_le (may_quo hm) (Nat.pow_le_pow_right (by decide) (by decide))) w) (fun w => refBig_any _ (Nat.lt_of_le_of_lt (Nat.div_le_self _ _) hn) w) (fun w => refBig_any n hn w) (fun w => refBig_any d hd w) (fun w => awake11_any w) w
  · exact slaw_E n d mi _ (by rw [beq_eq_false_iff_ne]; omega) (fun w => psteps_E n d mi _ (by rw [beq_eq_false_iff_ne]; omega) HM1 w) HM (fun w => awake11_any w) w

end Go.Proofs.Ytmbbhagjfgjhgaa

/- For all wides and all ints the law radicandlaw11.Radix2Steps returns true, and its arguments read afterwards as they read before. No condition. -/
namespace Go.Proofs.Ytmbbhagjfgjhgaa.radix2Steps
open Go.ChangeShapes Go.WideShapes Go.ChangeAt Go.RowKit Go.Proofs.Ytmbbhagjfgjhgaa

theorem own : ownKnob Try.prog.godebug = none := by kernel_rfl
theorem laidOut : laidOutB Try.prog = true := by kernel_rfl

set_option maxRecDepth 100000 in
theorem lifted (os : Os) (started : os.Started) (H : Type) (enc : TypeId × Value → H) :
    ReturnsInHanded {} Try.checked os 5 .any (Rows.radix2StepsSpec.pre6 enc Try.prog Try.f5 Rows.radix2StepsRow.domain false) (Rows.radix2StepsSpec.post enc Try.prog Try.f5 false true false false) := by
  refine returnsInHanded_of_change (C := Try.checked) own started (by kernel_rfl) Try.func5
    (ChangeSpec.witness6 (enc := enc) (C := Try.checked) false ⟨#[], #[.agg #[.int .u64 0, .int .u64 0, .int .u64 0, .int .u64 0, .int .u64 0, .int .u64 0, .int .u64 0, .int .u64 0], .agg #[.int .u64 0, .int .u64 0, .int .u64 0, .int .u64 0, .int .u64 0, .int .u64 0, .int .u64 0, .int .u64 0], .int .i64 0], []⟩ 40 (by kernel_rfl) (by kernel_rfl) (by kernel_rfl) (by kernel_rfl)) ?_
  intro W base args ds gs before hval0 hW hcnd _
  have hval : ∀ (j : Nat) t v, Try.f5.params[j]? = some t → args[j]? = some v → Value.okWide Try.prog W .any base t v := hval0
  have hW' := hW
  obtain ⟨p, q, hA0, hV, rfl, hfz, hnd⟩ := hW
  have hA : DataW.TrodAll enc Try.prog W 0 (fun _ => true) true Try.f5.params.toList args.toList ds p := hA0
  rw [Try.params5] at hA hval
  obtain ⟨v0, vs0, d0, ds0, p0, q0, hargs, rfl, rfl, h0, r0⟩ := trodAll_cons hA
  obtain ⟨v1, vs1, d1, ds1, p1, q1, rfl, rfl, rfl, h1, r1⟩ := trodAll_cons r0
  obtain ⟨v2, vs2, d2, ds2, p2, q2, rfl, rfl, rfl, h2, r2⟩ := trodAll_cons r1
  obtain ⟨rfl, rfl, rfl⟩ := trodAll_nil r2
  obtain rfl : args = #[v0, v1, v2] := by cases args; simp_all
  obtain ⟨rfl, rfl⟩ := trodVars_none hV
  have k0 := h0
  have lt0 : ∀ x ∈ p0, x.block < W.heap.size := by obtain ⟨m, hm⟩ := k0; exact DataW.trod_lt m _ _ _ hm
  have k1 := h1
  have lt1 : ∀ x ∈ p1, x.block < W.heap.size := by obtain ⟨m, hm⟩ := k1; exact DataW.trod_lt m _ _ _ hm
  have k2 := h2
  have lt2 : ∀ x ∈ p2, x.block < W.heap.size := by obtain ⟨m, hm⟩ := k2; exact DataW.trod_lt m _ _ _ hm
  obtain ⟨x0, hx0, rfl⟩ := wide_of_trod (hval 0 24 v0 rfl rfl) h0
  obtain ⟨x1, hx1, rfl⟩ := wide_of_trod (hval 1 24 v1 rfl rfl) h1
  obtain ⟨a2, rfl, rfl, rfl, wf2⟩ := open_int Try.underlying3 (hval 2 3 v2 rfl rfl) h2
  clear hA0 hval0
  refine (radix2Steps_walk x0 x1 a2 hx0 hx1 W).mono fun e W' ⟨he, bel⟩ => ?_
  subst he
  exact ⟨_, rfl, _, _, _, [], _, [], hW', trodAll_mk1 (shut_bool Try.underlying4 _), (trodAll_cons_mk (Below.trod laidOut (by kernel_rfl) (of_decide_eq_true (by kernel_rfl)) k0 bel lt0) (trodAll_cons_mk (Below.trod laidOut (by kernel_rfl) (of_decide_eq_true (by kernel_rfl)) k1 bel lt1) (trodAll_cons_mk (Below.trod laidOut (by kernel_rfl) (of_decide_eq_true (by kernel_rfl)) k2 bel lt2) trodAll_mk0))), rfl, bel.frame _, fun h => by cases h⟩

theorem over : Rows.radix2StepsRow.holds Try.pinned (OpenSpec.ofChange Rows.radix2StepsSpec) :=
  OpenClaim.holds_of_wide 5 Try.f5 rfl rfl rfl rfl rfl rfl rfl ⟨rfl, rfl, rfl, rfl, rfl⟩ rfl rfl rfl rfl rfl (by kernel_rfl) Try.func5 (by kernel_rfl)
    (of_decide_eq_true (by kernel_rfl)) (by unfold Func.isWrapper; first | (rw [if_pos (by decide +kernel)]; kernel_rfl) | (rw [if_neg (by decide +kernel)]; exact ⟨rfl, rfl⟩))
    (fun os started H enc _ => lifted os started H enc)

theorem proved : Rows.Radix2StepsSaid := over
#print axioms proved
end Go.Proofs.Ytmbbhagjfgjhgaa.radix2Steps

