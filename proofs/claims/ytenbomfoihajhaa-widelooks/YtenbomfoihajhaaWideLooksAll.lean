/- For all wides, ints and words the law radicandlaw02.WideLooks returns true, and its arguments read afterwards as they read before. No condition. -/
import Derived.Test.YtenbomfoihajhaaBaseK
import Derived.Lib.SmallJoins
import Derived.Test.YtenbomfoihajhaaRows
import Derived.WalkKit
import Derived.ProofKit
import Derived.OpenShut
import Derived.ShutString
import Derived.ChangeOld
import Derived.Below
/- The walk over radicandlaw02.WideLooks. -/
set_option linter.unusedVariables false
set_option linter.unusedSimpArgs false
set_option maxRecDepth 8000
namespace Go.Proofs.Ytenbomfoihajhaa
open Go.RowKit Plain

/-- Two limbs lie in a block. -/
def LiesW (W : World) (b x y : Nat) : Prop := W.cell? ⟨b, 0, none⟩ = some (.int .u64 (x : Nat)) ∧ W.cell? ⟨b, 1, none⟩ = some (.int .u64 (y : Nat)) ∧ b < W.heap.size
theorem LiesW.below {W W' : World} {b x y : Nat} (h : LiesW W b x y) (hb : Below W.heap.size W W') : LiesW W' b x y :=
  ⟨(hb.cell (p := ⟨b, 0, none⟩) h.2.2).trans h.1, (hb.cell (p := ⟨b, 1, none⟩) h.2.2).trans h.2.1, Nat.lt_of_lt_of_le h.2.2 hb.size⟩

structure LooksSt (X : World) (fp fm : Nat → Nat) (W : World) : Prop where
  bel : Below X.heap.size X W
  l9 : LiesF W X.heap.size fp
  z9 : ∀ i, W.frozen? ⟨X.heap.size, i, none⟩ = false
  l10 : LiesF W (X.heap.size + 1) fm
  z10 : ∀ i, W.frozen? ⟨X.heap.size + 1, i, none⟩ = false
theorem LooksSt.below {X : World} {fp fm : Nat → Nat} {W W' : World} (h : LooksSt X fp fm W) (hb : Below W.heap.size W W') : LooksSt X fp fm W' :=
  ⟨below_trans h.bel hb, h.l9.below hb, fun i => (hb.frozen (p := ⟨X.heap.size, i, none⟩) h.l9.2).trans (h.z9 i), h.l10.below hb, fun i => (hb.frozen (p := ⟨X.heap.size + 1, i, none⟩) h.l10.2).trans (h.z10 i)⟩
theorem LooksSt.start (X : World) : LooksSt X (fun _ => 0) (fun _ => 0) ((X.alloc (.cells #[.int .u64 0, .int .u64 0, .int .u64 0, .int .u64 0, .int .u64 0, .int .u64 0, .int .u64 0, .int .u64 0] 24)).alloc (.cells #[.int .u64 0, .int .u64 0, .int .u64 0, .int .u64 0, .int .u64 0, .int .u64 0, .int .u64 0, .int .u64 0] 24)) := by
  have h1 := (liesF_new X (fun _ => 0) 24).alloc (.cells #[.int .u64 0, .int .u64 0, .int .u64 0, .int .u64 0, .int .u64 0, .int .u64 0, .int .u64 0, .int .u64 0] 24)
  have h2 := liesF_new (X.alloc (.cells #[.int .u64 0, .int .u64 0, .int .u64 0, .int .u64 0, .int .u64 0, .int .u64 0, .int .u64 0, .int .u64 0] 24)) (fun _ => 0) 24
  rw [World.size_alloc] at h2
  exact ⟨below_trans (below_allocs _ _) (below_allocs _ _), h1, fun i => by simp [go_sem], h2, fun i => by simp [go_sem]⟩
theorem lies_other' {W : World} {b B : Nat} {f : Nat → Nat} {x0 x1 x2 x3 x4 x5 x6 x7 : Value} (h : LiesF W b f) (hne : b ≠ B) : LiesF ((((((((W.setCell ⟨B, 0, none⟩ x0).setCell ⟨B, 1, none⟩ x1).setCell ⟨B, 2, none⟩ x2).setCell ⟨B, 3, none⟩ x3).setCell ⟨B, 4, none⟩ x4).setCell ⟨B, 5, none⟩ x5).setCell ⟨B, 6, none⟩ x6).setCell ⟨B, 7, none⟩ x7) b f := by
  refine ⟨fun i hi => ?_, by simpa using h.2⟩
  have := h.1 i hi
  simp [go_sem, this, hne]
theorem LooksSt.set9 {X : World} {fp fm fq : Nat → Nat} {W : World} (h : LooksSt X fp fm W) : LooksSt X fq fm ((((((((W.setCell ⟨X.heap.size, 0, none⟩ (.int .u64 (fq 0 : Nat))).setCell ⟨X.heap.size, 1, none⟩ (.int .u64 (fq 1 : Nat))).setCell ⟨X.heap.size, 2, none⟩ (.int .u64 (fq 2 : Nat))).setCell ⟨X.heap.size, 3, none⟩ (.int .u64 (fq 3 : Nat))).setCell ⟨X.heap.size, 4, none⟩ (.int .u64 (fq 4 : Nat))).setCell ⟨X.heap.size, 5, none⟩ (.int .u64 (fq 5 : Nat))).setCell ⟨X.heap.size, 6, none⟩ (.int .u64 (fq 6 : Nat))).setCell ⟨X.heap.size, 7, none⟩ (.int .u64 (fq 7 : Nat))) :=
  ⟨below_set8 h.bel _ (Nat.le_refl _) _ _ _ _ _ _ _ _, set8_same W _ fq fp h.l9, fun i => by simpa [go_sem] using h.z9 i, lies_other' h.l10 (by omega), fun i => by simpa [go_sem] using h.z10 i⟩
theorem LooksSt.set10 {X : World} {fp fm fq : Nat → Nat} {W : World} (h : LooksSt X fp fm W) : LooksSt X fp fq ((((((((W.setCell ⟨X.heap.size + 1, 0, none⟩ (.int .u64 (fq 0 : Nat))).setCell ⟨X.heap.size + 1, 1, none⟩ (.int .u64 (fq 1 : Nat))).setCell ⟨X.heap.size + 1, 2, none⟩ (.int .u64 (fq 2 : Nat))).setCell ⟨X.heap.size + 1, 3, none⟩ (.int .u64 (fq 3 : Nat))).setCell ⟨X.heap.size + 1, 4, none⟩ (.int .u64 (fq 4 : Nat))).setCell ⟨X.heap.size + 1, 5, none⟩ (.int .u64 (fq 5 : Nat))).setCell ⟨X.heap.size + 1, 6, none⟩ (.int .u64 (fq 6 : Nat))).setCell ⟨X.heap.size + 1, 7, none⟩ (.int .u64 (fq 7 : Nat))) :=
  ⟨below_set8 h.bel _ (by omega) _ _ _ _ _ _ _ _, lies_other' h.l9 (by omega), fun i => by simpa [go_sem] using h.z9 i, set8_same W _ fq fm h.l10, fun i => by simpa [go_sem] using h.z10 i⟩

set_option maxHeartbeats 8000000 in
theorem wideLooks_first (fa fp fm fg fw : Nat → Nat) (a hi lo L pn pm : Nat) (n : Int) (is m o1 o2 o3 : Bool) (w : World) (hn1 : -9223372036854775808 ≤ n) (hn2 : n ≤ 9223372036854775807)
    (HA : Hid (a < QQ))
    (HB : Hid (∀ w, Calls Try.prog 17 #[.agg #[.int .u64 (fa 0 : Nat), .int .u64 (fa 1 : Nat), .int .u64 (fa 2 : Nat), .int .u64 (fa 3 : Nat), .int .u64 (fa 4 : Nat), .int .u64 (fa 5 : Nat), .int .u64 (fa 6 : Nat), .int .u64 (fa 7 : Nat)]] w fun e w' => ∃ v, e = .returned v ∧ BigV w' v a 40 ∧ Below w.heap.size w w'))
    (HIS : Hid (is = (decide (0 ≤ n ∧ n < 512) && (a / 2 ^ n.toNat % 2 == 1))))
    (HP1 : Hid (0 ≤ n → n < 512 → pn = 2 ^ n.toNat)) (HP2 : Hid (∀ v w, BigV w v pn 20 → Calls Try.prog 15 #[v] w fun e w' => e = .returned (.tuple #[.agg #[.int .u64 (fp 0 : Nat), .int .u64 (fp 1 : Nat), .int .u64 (fp 2 : Nat), .int .u64 (fp 3 : Nat), .int .u64 (fp 4 : Nat), .int .u64 (fp 5 : Nat), .int .u64 (fp 6 : Nat), .int .u64 (fp 7 : Nat)], .bool o1]) ∧ Below w.heap.size w w'))
    (hp0 : ¬ (0 ≤ n ∧ n < 512) → fp = fun _ => 0)
    (HQ1 : Hid (0 < n → pm = 2 ^ (min n 512).toNat)) (HQ2 : Hid (∀ v w, BigV w v (pm - 1) 20 → Calls Try.prog 15 #[v] w fun e w' => e = .returned (.tuple #[.agg #[.int .u64 (fm 0 : Nat), .int .u64 (fm 1 : Nat), .int .u64 (fm 2 : Nat), .int .u64 (fm 3 : Nat), .int .u64 (fm 4 : Nat), .int .u64 (fm 5 : Nat), .int .u64 (fm 6 : Nat), .int .u64 (fm 7 : Nat)], .bool o2]) ∧ Below w.heap.size w w'))
    (hm0 : ¬ 0 < n → fm = fun _ => 0)
    (HG : Hid (∀ v w, BigV w v (QQ - a) 19 → Calls Try.prog 15 #[v] w fun e w' => e = .returned (.tuple #[.agg #[.int .u64 (fg 0 : Nat), .int .u64 (fg 1 : Nat), .int .u64 (fg 2 : Nat), .int .u64 (fg 3 : Nat), .int .u64 (fg 4 : Nat), .int .u64 (fg 5 : Nat), .int .u64 (fg 6 : Nat), .int .u64 (fg 7 : Nat)], .bool o3]) ∧ Below w.heap.size w w'))
    (HLEN : Hid (∀ w, Calls Try.prog 30 #[.agg #[.int .u64 (fa 0 : Nat), .int .u64 (fa 1 : Nat), .int .u64 (fa 2 : Nat), .int .u64 (fa 3 : Nat), .int .u64 (fa 4 : Nat), .int .u64 (fa 5 : Nat), .int .u64 (fa 6 : Nat), .int .u64 (fa 7 : Nat)]] w fun e w' => e = .returned (.int .i64 (L : Nat)) ∧ Below w.heap.size w w'))
    (HRL : Hid (∀ v w, BigV w v a 40 → Calls Try.prog 31 #[v] w fun e w' => e = .returned (.int .i64 (L : Nat)) ∧ w' = w))
    (HBIT : Hid (∀ w, Calls Try.prog 32 #[.agg #[.int .u64 (fa 0 : Nat), .int .u64 (fa 1 : Nat), .int .u64 (fa 2 : Nat), .int .u64 (fa 3 : Nat), .int .u64 (fa 4 : Nat), .int .u64 (fa 5 : Nat), .int .u64 (fa 6 : Nat), .int .u64 (fa 7 : Nat)], .int .i64 n] w fun e w' => e = .returned (.bool is) ∧ Below w.heap.size w w'))
    (HM1 : Hid (∀ w, Calls Try.prog 33 #[.agg #[.int .u64 (fa 0 : Nat), .int .u64 (fa 1 : Nat), .int .u64 (fa 2 : Nat), .int .u64 (fa 3 : Nat), .int .u64 (fa 4 : Nat), .int .u64 (fa 5 : Nat), .int .u64 (fa 6 : Nat), .int .u64 (fa 7 : Nat)]] w fun e w' => e = .returned (.bool m) ∧ Below w.heap.size w w'))
    (HM2 : Hid (∀ w, Calls Try.prog 34 #[.agg #[.int .u64 (fa 0 : Nat), .int .u64 (fa 1 : Nat), .int .u64 (fa 2 : Nat), .int .u64 (fa 3 : Nat), .int .u64 (fa 4 : Nat), .int .u64 (fa 5 : Nat), .int .u64 (fa 6 : Nat), .int .u64 (fa 7 : Nat)]] w fun e w' => e = .returned (.bool m) ∧ Below w.heap.size w w'))
    (HNEG : Hid (∀ w, Calls Try.prog 35 #[.agg #[.int .u64 (fa 0 : Nat), .int .u64 (fa 1 : Nat), .int .u64 (fa 2 : Nat), .int .u64 (fa 3 : Nat), .int .u64 (fa 4 : Nat), .int .u64 (fa 5 : Nat), .int .u64 (fa 6 : Nat), .int .u64 (fa 7 : Nat)]] w fun e w' => e = .returned (.agg #[.int .u64 (fg 0 : Nat), .int .u64 (fg 1 : Nat), .int .u64 (fg 2 : Nat), .int .u64 (fg 3 : Nat), .int .u64 (fg 4 : Nat), .int .u64 (fg 5 : Nat), .int .u64 (fg 6 : Nat), .int .u64 (fg 7 : Nat)]) ∧ Below w.heap.size w w'))
    (HPW : Hid (∀ w, Calls Try.prog 36 #[.int .i64 n] w fun e w' => e = .returned (.agg #[.int .u64 (fp 0 : Nat), .int .u64 (fp 1 : Nat), .int .u64 (fp 2 : Nat), .int .u64 (fp 3 : Nat), .int .u64 (fp 4 : Nat), .int .u64 (fp 5 : Nat), .int .u64 (fp 6 : Nat), .int .u64 (fp 7 : Nat)]) ∧ Below w.heap.size w w'))
    (HMK : Hid (∀ w, Calls Try.prog 37 #[.int .i64 n] w fun e w' => e = .returned (.agg #[.int .u64 (fm 0 : Nat), .int .u64 (fm 1 : Nat), .int .u64 (fm 2 : Nat), .int .u64 (fm 3 : Nat), .int .u64 (fm 4 : Nat), .int .u64 (fm 5 : Nat), .int .u64 (fm 6 : Nat), .int .u64 (fm 7 : Nat)]) ∧ Below w.heap.size w w'))
    (HFR : Hid (∀ w, Calls Try.prog 39 #[.agg #[.int .u64 (hi : Nat), .int .u64 (lo : Nat)]] w fun e w' => e = .returned (.agg #[.int .u64 (fw 0 : Nat), .int .u64 (fw 1 : Nat), .int .u64 (fw 2 : Nat), .int .u64 (fw 3 : Nat), .int .u64 (fw 4 : Nat), .int .u64 (fw 5 : Nat), .int .u64 (fw 6 : Nat), .int .u64 (fw 7 : Nat)]) ∧ Below w.heap.size w w'))
    (hwe : ∀ w, (Op.equalIn 10000 24 (.agg #[.int .u64 (fw 0 : Nat), .int .u64 (fw 1 : Nat), .int .u64 (fw 2 : Nat), .int .u64 (fw 3 : Nat), .int .u64 (fw 4 : Nat), .int .u64 (fw 5 : Nat), .int .u64 (fw 6 : Nat), .int .u64 (fw 7 : Nat)]) (.agg #[.int .u64 (lo : Nat), .int .u64 (hi : Nat), .int .u64 0, .int .u64 0, .int .u64 0, .int .u64 0, .int .u64 0, .int .u64 0])).run Try.prog w = .ok true w) :
    Calls Try.prog 4 #[.agg #[.int .u64 (fa 0 : Nat), .int .u64 (fa 1 : Nat), .int .u64 (fa 2 : Nat), .int .u64 (fa 3 : Nat), .int .u64 (fa 4 : Nat), .int .u64 (fa 5 : Nat), .int .u64 (fa 6 : Nat), .int .u64 (fa 7 : Nat)], .int .i64 n, .agg #[.int .u64 (hi : Nat), .int .u64 (lo : Nat)]] w fun e w' => e = .returned (.bool true) ∧ Below w.heap.size w w' := by
  have HS0 : Hid (LiesF ((w.alloc (.cells #[.int .u64 (fa 0 : Nat), .int .u64 (fa 1 : Nat), .int .u64 (fa 2 : Nat), .int .u64 (fa 3 : Nat), .int .u64 (fa 4 : Nat), .int .u64 (fa 5 : Nat), .int .u64 (fa 6 : Nat), .int .u64 (fa 7 : Nat)] 24)).alloc (.cells #[.int .u64 (hi : Nat), .int .u64 (lo : Nat)] 37)) w.heap.size fa ∧ LiesW ((w.alloc (.cells #[.int .u64 (fa 0 : Nat), .int .u64 (fa 1 : Nat), .int .u64 (fa 2 : Nat), .int .u64 (fa 3 : Nat), .int .u64 (fa 4 : Nat), .int .u64 (fa 5 : Nat), .int .u64 (fa 6 : Nat), .int .u64 (fa 7 : Nat)] 24)).alloc (.cells #[.int .u64 (hi : Nat), .int .u64 (lo : Nat)] 37)) (w.heap.size + 1) hi lo ∧ Below w.heap.size w ((w.alloc (.cells #[.int .u64 (fa 0 : Nat), .int .u64 (fa 1 : Nat), .int .u64 (fa 2 : Nat), .int .u64 (fa 3 : Nat), .int .u64 (fa 4 : Nat), .int .u64 (fa 5 : Nat), .int .u64 (fa 6 : Nat), .int .u64 (fa 7 : Nat)] 24)).alloc (.cells #[.int .u64 (hi : Nat), .int .u64 (lo : Nat)] 37))) :=
    ⟨(liesF_new w fa 24).alloc _, ⟨by simp [go_sem], by simp [go_sem], by simp⟩, below_trans (below_allocs w _) (below_allocs _ _)⟩
  have HWE := hide hwe
  have HP0 := hide hp0
  have HM0 := hide hm0
  clear hwe hp0 hm0
  go_enter Try.func4, Try.ntmps4
  go_upto_region 1 with fail
  refine wp_gen (fun W => LiesF W w.heap.size fa ∧ LiesW W (w.heap.size + 1) hi lo ∧ Below w.heap.size w W) HS0.out ?_
  rintro W1 ⟨h1, h2, h3⟩
  clear HS0
  have hca := h1.1
  go_wp2_with fail
  refine (HB.out _).mono ?_
  rintro e X1 ⟨u7, rfl, hb7, hbX⟩
  have HLA1 := hide (h1.below hbX)
  have HLW1 := hide (h2.below hbX)
  have HB71 := hide hb7
  have HBX1 := hide (below_trans h3 hbX)
  clear h1 h2 h3 hca hb7 hbX
  go_upto_region 2 with fail
  go_cut [8] (fun x wx => x = .bool is ∧ LiesF wx w.heap.size fa ∧ LiesW wx (w.heap.size + 1) hi lo ∧ BigV wx u7 a 40 ∧ Below w.heap.size w wx)
  case first =>
    by_cases hn : 0 ≤ n
    · by_cases hn5 : n < 512
      · obtain ⟨j, rfl⟩ : ∃ j : Nat, n = (j : Int) := ⟨n.toNat, by omega⟩
        have HSR := hide (fun v w h => refShr_any a 40 j v w h (by omega) (by omega))
        have HI := hide (show is = (a / 2 ^ j % 2 == 1) by rw [HIS.out, decide_eq_true ⟨hn, hn5⟩]; simp)
        go_wp2_with fail
        refine (HSR.out _ _ HB71.out).mono ?_
        rintro e X2 ⟨v2, rfl, hv2, hb2⟩
        go_wp2_with fail
        refine (refOdd_any _ 40 _ _ hv2).mono ?_
        rintro e X3 ⟨rfl, hw⟩
        subst hw
        go_wp2
        go_meet
        exact ⟨by rw [HI.out], HLA1.out.below hb2, HLW1.out.below hb2, HB71.out.below hb2, below_trans HBX1.out hb2⟩
      · have HI := hide (show is = false by rw [HIS.out, decide_eq_false (by omega)]; simp)
        go_wp2
        go_meet
        exact ⟨by rw [HI.out], HLA1.out, HLW1.out, HB71.out, HBX1.out⟩
    · have HI := hide (show is = false by rw [HIS.out, decide_eq_false (by omega)]; simp)
      go_wp2
      go_meet
      exact ⟨by rw [HI.out], HLA1.out, HLW1.out, HB71.out, HBX1.out⟩
  case rest =>
    obtain ⟨rfl, h1, h2, h3, h4⟩ := hcut
    clear HLA1 HLW1 HB71 HBX1
    generalize wc = X at *
    have HLA := hide h1
    have HLW := hide h2
    have HB7 := hide h3
    have HBX := hide h4
    clear h1 h2 h3 h4
    have HS0 := hide (LooksSt.start X)
    go_upto_region 4 with fail
    refine wp_gen (fun W => LooksSt X (fun _ => 0) (fun _ => 0) W) HS0.out ?_
    rintro W3 h3
    clear HS0
    have HST := hide h3
    clear h3
    go_cut [34] (fun x wx => x = .bool (decide (0 ≤ n ∧ n < 512)) ∧ wx = W3)
    case first =>
      by_cases hn : 0 ≤ n
      · by_cases hn5 : n < 512
        · go_wp2
          go_meet
          exact ⟨by rw [decide_eq_true (show 0 ≤ n ∧ n < 512 from ⟨hn, hn5⟩)], rfl⟩
        · go_wp2
          go_meet
          exact ⟨by rw [decide_eq_false (show ¬ (0 ≤ n ∧ n < 512) by omega)], rfl⟩
      · go_wp2
        go_meet
        exact ⟨by rw [decide_eq_false (show ¬ (0 ≤ n ∧ n < 512) by omega)], rfl⟩
    case rest =>
    obtain ⟨rfl, rfl⟩ := hcut
    generalize wc = W3 at *
    go_upto_if 34 with fail
    go_cut [34] (fun x wx => LooksSt X fp (fun _ => 0) wx)
    case first =>
      by_cases hn : 0 ≤ n ∧ n < 512
      · rw [decide_eq_true hn]
        obtain ⟨j, rfl⟩ : ∃ j : Nat, n = (j : Int) := ⟨n.toNat, by omega⟩
        have HPO := hide (fun w => refPower_any j pn (by omega) (by rw [HP1.out hn.1 hn.2, Int.toNat_natCast]) w)
        go_wp2_with fail
        refine (HPO.out _).mono ?_
        rintro e X2 ⟨v2, rfl, hv2, hb2⟩
        replace HST := hide (HST.out.below hb2)
        go_wp2_with fail
        refine (HP2.out _ _ (hv2.mono (by omega))).mono ?_
        rintro e X3 ⟨rfl, hb3⟩
        replace HST := hide (HST.out.below hb3)
        have hc9 := HST.out.l9.1
        have hz9 := HST.out.z9
        have hl9 := HST.out.l9.2
        clear hb2 hb3 hv2
        go_wp2
        go_meet
        exact HST.out.set9
      · rw [decide_eq_false hn]
        go_wp2
        go_meet
        rw [HP0.out hn]
        exact HST.out
    case rest =>
    have HST := hide hcut
    clear hcut
    generalize wc = W4 at *
    go_upto_region 6 with fail
    go_cut [42] (fun x wx => x = .bool (decide (0 < n)) ∧ wx = W4)
    case first =>
      go_wp2
      go_meet
      exact ⟨rfl, rfl⟩
    case rest =>
    obtain ⟨rfl, rfl⟩ := hcut
    generalize wc = W4 at *
    go_upto_if 42 with fail
    go_cut [42] (fun x wx => LooksSt X fp fm wx)
    case first =>
      by_cases hn : 0 < n
      · rw [decide_eq_true hn]
        obtain ⟨j, hj⟩ : ∃ j : Nat, min n 512 = (j : Int) := ⟨(min n 512).toNat, by omega⟩
        have HPO := hide (fun (x : Int) (hx : x = (j : Int)) w => refPower_int j pm x (by omega) (by rw [HQ1.out hn, hj, Int.toNat_natCast]) hx w)
        have HJ := hide hj
        have HPP := hide (show 1 ≤ pm by rw [HQ1.out hn]; exact Nat.two_pow_pos _)
        clear hj
        go_wp2_with (go_at_call 26; refine (HPO.out _ (by have := HJ.out; omega) _).mono ?_; rintro e X2 ⟨v2, rfl, hv2, hb2⟩)
        all_goals
          replace HST := hide (HST.out.below hb2)
          refine (small_any 1 (by decide) _).mono ?_
          rintro e X5 ⟨v5, rfl, hv5, hb5⟩
          replace HST := hide (HST.out.below hb5)
          replace hv2 := hv2.below hb5
          clear hb2 hb5
          go_wp2_with fail
          refine (refSub_any pm 1 (j / 32 + 3) 2 _ _ _ hv2 hv5 (by have := HJ.out; omega) HPP.out).mono ?_
          rintro e X6 ⟨v6, rfl, hv6, hb6⟩
          replace HST := hide (HST.out.below hb6)
          clear hb6 hv2 hv5
          go_wp2_with fail
          refine (HQ2.out _ _ (hv6.mono (by have := HJ.out; omega))).mono ?_
          rintro e X3 ⟨rfl, hb3⟩
          replace HST := hide (HST.out.below hb3)
          have hc9 := HST.out.l10.1
          have hz9 := HST.out.z10
          have hl9 := HST.out.l10.2
          clear hb3 hv6
          go_wp2
          go_meet
          exact HST.out.set10
      · rw [decide_eq_false hn]
        go_wp2
        go_meet
        rw [HM0.out hn]
        exact HST.out
    case rest =>
    replace HST := hide hcut
    clear hcut
    generalize wc = W5 at *
    go_wp2_with fail
    refine (refWhole_any _).mono ?_
    rintro e X1 ⟨v1, rfl, hv1, hb1⟩
    replace HST := hide (HST.out.below hb1)
    clear hb1
    go_wp2_with fail
    refine (refSub_any QQ a 19 40 _ _ _ hv1 (HB7.out.below HST.out.bel) (by omega) (Nat.le_of_lt HA.out)).mono ?_
    rintro e X2 ⟨v2, rfl, hv2, hb2⟩
    replace HST := hide (HST.out.below hb2)
    clear hb2 hv1
    go_wp2_with fail
    refine (HG.out _ _ hv2).mono ?_
    rintro e X3 ⟨rfl, hb3⟩
    replace HST := hide (HST.out.below hb3)
    clear hb3 hv2
    go_upto_region 9 with fail
    refine wp_gen (fun W => LooksSt X fp fm W ∧ LiesF W X3.heap.size fg) ⟨HST.out.below (below_allocs _ _), liesF_new _ _ _⟩ ?_
    rintro W6 ⟨h1, h2⟩
    generalize X3.heap.size = p11 at *
    replace HST := hide h1
    have HL11 := hide h2
    clear h1 h2
    have hwe := HWE.out
    refine wp_region_grow 61 [(59, .val (.agg #[.int .u64 (fa 0 : Nat), .int .u64 (fa 1 : Nat), .int .u64 (fa 2 : Nat), .int .u64 (fa 3 : Nat), .int .u64 (fa 4 : Nat), .int .u64 (fa 5 : Nat), .int .u64 (fa 6 : Nat), .int .u64 (fa 7 : Nat)])), (60, .val (.int .i64 (L : Nat))), (61, .big a 40), (62, .val (.int .i64 (L : Nat))), (63, .val (.bool true)), (64, .val (.bool true)), (65, .val (.agg #[.int .u64 (fa 0 : Nat), .int .u64 (fa 1 : Nat), .int .u64 (fa 2 : Nat), .int .u64 (fa 3 : Nat), .int .u64 (fa 4 : Nat), .int .u64 (fa 5 : Nat), .int .u64 (fa 6 : Nat), .int .u64 (fa 7 : Nat)])), (66, .val (.int .i64 n)), (67, .val (.bool is)), (68, .val (.bool is)), (69, .val (.bool true)), (70, .val (.bool true)), (71, .val (.bool true)), (72, .val (.agg #[.int .u64 (fa 0 : Nat), .int .u64 (fa 1 : Nat), .int .u64 (fa 2 : Nat), .int .u64 (fa 3 : Nat), .int .u64 (fa 4 : Nat), .int .u64 (fa 5 : Nat), .int .u64 (fa 6 : Nat), .int .u64 (fa 7 : Nat)])), (73, .val (.bool m)), (74, .val (.agg #[.int .u64 (fa 0 : Nat), .int .u64 (fa 1 : Nat), .int .u64 (fa 2 : Nat), .int .u64 (fa 3 : Nat), .int .u64 (fa 4 : Nat), .int .u64 (fa 5 : Nat), .int .u64 (fa 6 : Nat), .int .u64 (fa 7 : Nat)])), (75, .val (.bool m)), (76, .val (.bool true)), (77, .val (.bool true)), (78, .val (.bool true)), (79, .val (.agg #[.int .u64 (fa 0 : Nat), .int .u64 (fa 1 : Nat), .int .u64 (fa 2 : Nat), .int .u64 (fa 3 : Nat), .int .u64 (fa 4 : Nat), .int .u64 (fa 5 : Nat), .int .u64 (fa 6 : Nat), .int .u64 (fa 7 : Nat)])), (80, .val (.agg #[.int .u64 (fg 0 : Nat), .int .u64 (fg 1 : Nat), .int .u64 (fg 2 : Nat), .int .u64 (fg 3 : Nat), .int .u64 (fg 4 : Nat), .int .u64 (fg 5 : Nat), .int .u64 (fg 6 : Nat), .int .u64 (fg 7 : Nat)])), (81, .val (.agg #[.int .u64 (fg 0 : Nat), .int .u64 (fg 1 : Nat), .int .u64 (fg 2 : Nat), .int .u64 (fg 3 : Nat), .int .u64 (fg 4 : Nat), .int .u64 (fg 5 : Nat), .int .u64 (fg 6 : Nat), .int .u64 (fg 7 : Nat)])), (82, .val (.bool true)), (83, .val (.bool true)), (84, .val (.bool true)), (85, .val (.int .i64 n)), (86, .val (.agg #[.int .u64 (fp 0 : Nat), .int .u64 (fp 1 : Nat), .int .u64 (fp 2 : Nat), .int .u64 (fp 3 : Nat), .int .u64 (fp 4 : Nat), .int .u64 (fp 5 : Nat), .int .u64 (fp 6 : Nat), .int .u64 (fp 7 : Nat)])), (87, .val (.agg #[.int .u64 (fp 0 : Nat), .int .u64 (fp 1 : Nat), .int .u64 (fp 2 : Nat), .int .u64 (fp 3 : Nat), .int .u64 (fp 4 : Nat), .int .u64 (fp 5 : Nat), .int .u64 (fp 6 : Nat), .int .u64 (fp 7 : Nat)])), (88, .val (.bool true)), (89, .val (.bool true)), (90, .val (.bool true)), (91, .val (.int .i64 n)), (92, .val (.agg #[.int .u64 (fm 0 : Nat), .int .u64 (fm 1 : Nat), .int .u64 (fm 2 : Nat), .int .u64 (fm 3 : Nat), .int .u64 (fm 4 : Nat), .int .u64 (fm 5 : Nat), .int .u64 (fm 6 : Nat), .int .u64 (fm 7 : Nat)])), (93, .val (.agg #[.int .u64 (fm 0 : Nat), .int .u64 (fm 1 : Nat), .int .u64 (fm 2 : Nat), .int .u64 (fm 3 : Nat), .int .u64 (fm 4 : Nat), .int .u64 (fm 5 : Nat), .int .u64 (fm 6 : Nat), .int .u64 (fm 7 : Nat)])), (94, .val (.bool true)), (95, .val (.bool true)), (96, .val (.bool true)), (97, .val (.agg #[.int .u64 (fa 0 : Nat), .int .u64 (fa 1 : Nat), .int .u64 (fa 2 : Nat), .int .u64 (fa 3 : Nat), .int .u64 (fa 4 : Nat), .int .u64 (fa 5 : Nat), .int .u64 (fa 6 : Nat), .int .u64 (fa 7 : Nat)])), (98, .val (.agg #[.int .u64 (fa 1 : Nat), .int .u64 (fa 0 : Nat)])), (99, .val (.pointer (some ⟨w.heap.size, 1, none⟩))), (100, .val (.int .u64 (fa 1 : Nat))), (101, .val (.pointer (some ⟨w.heap.size, 0, none⟩))), (102, .val (.int .u64 (fa 0 : Nat))), (103, .val (.agg #[.int .u64 (fa 1 : Nat), .int .u64 (fa 0 : Nat)])), (104, .val (.bool true)), (105, .val (.bool true)), (106, .val (.bool true)), (107, .val (.agg #[.int .u64 (hi : Nat), .int .u64 (lo : Nat)])), (108, .val (.agg #[.int .u64 (fw 0 : Nat), .int .u64 (fw 1 : Nat), .int .u64 (fw 2 : Nat), .int .u64 (fw 3 : Nat), .int .u64 (fw 4 : Nat), .int .u64 (fw 5 : Nat), .int .u64 (fw 6 : Nat), .int .u64 (fw 7 : Nat)])), (109, .val (.pointer (some ⟨w.heap.size + 1, 1, none⟩))), (110, .val (.int .u64 (lo : Nat))), (111, .val (.pointer (some ⟨w.heap.size + 1, 0, none⟩))), (112, .val (.int .u64 (hi : Nat))), (113, .val (.agg #[.int .u64 (lo : Nat), .int .u64 (hi : Nat), .int .u64 0, .int .u64 0, .int .u64 0, .int .u64 0, .int .u64 0, .int .u64 0])), (114, .val (.bool true)), (115, .val (.bool true)), (116, .val (.bool true)), (117, .val (.bool true)), (118, .val (.bool true)), (6, .val (.bool true))]
      (fun W => LooksSt X fp fm W ∧ LiesF W p11 fg) mixedOk (by kernel_rfl) (by kernel_rfl) (⟨HST.out.below (Below.refl _ _).drew, HL11.out⟩) (fun W W' h hb => ⟨h.1.below hb, h.2.below hb⟩) ?_ ?_
    · refine gSt (gStep_run rfl ?_) ?_
      · intro ρ W hC hc hf hL
        have e3 : ρ (.tmp 3) = .pointer (some ⟨w.heap.size, 0, none⟩) := hL 3 (by decide +kernel)
        have hl := (HLA.out.below hC.1.bel).1
        simp [go_sem, hc, hf, e3, hl]
        exact ⟨Below.refl _ _, rfl⟩
      refine gSt (gStep_run rfl ?_) ?_
      · intro ρ W hC hc hf hL
        have e59 : ρ (.tmp 59) = .agg #[.int .u64 (fa 0 : Nat), .int .u64 (fa 1 : Nat), .int .u64 (fa 2 : Nat), .int .u64 (fa 3 : Nat), .int .u64 (fa 4 : Nat), .int .u64 (fa 5 : Nat), .int .u64 (fa 6 : Nat), .int .u64 (fa 7 : Nat)] := hL 59 (by decide +kernel)
        simp [go_sem, hc, hf, e59]
        refine (HLEN.out _).mono ?_
        rintro e w' ⟨rfl, hb⟩
        exact ⟨_, rfl, by first | exact hb | (subst hb; exact Below.refl _ _), rfl⟩
      refine gSt (gStep_run rfl ?_) ?_
      · intro ρ W hC hc hf hL
        have e7 : ρ (.tmp 7) = u7 := hL 7 (by decide +kernel)
        simp [go_sem, hc, hf, e7]
        exact ⟨Below.refl _ _, HB7.out.below hC.1.bel⟩
      refine gSt (gStep_run rfl ?_) ?_
      · intro ρ W hC hc hf hL
        have b61 : BigV W (ρ (.tmp 61)) (a) (40) := hL 61 (by decide +kernel)
        simp [go_sem, hc, hf]
        refine (HRL.out _ _ b61).mono ?_
        rintro e w' ⟨rfl, hb⟩
        exact ⟨_, rfl, by first | exact hb | (subst hb; exact Below.refl _ _), rfl⟩
      refine gSt (gStep_run rfl ?_) ?_
      · intro ρ W hC hc hf hL
        have e60 : ρ (.tmp 60) = .int .i64 (L : Nat) := hL 60 (by decide +kernel)
        have e62 : ρ (.tmp 62) = .int .i64 (L : Nat) := hL 62 (by decide +kernel)
        simp [go_sem, hc, hf, e60, e62]
        exact ⟨Below.refl _ _, rfl⟩
      refine gSt (gStep_run rfl (gRun_move 63 64 (.inl rfl) rfl (by decide +kernel) (fun v w h => h))) ?_
      refine gSt (gStep_on 5 64 true rfl rfl (by decide +kernel) (fun v w h => h) ?_) ?_
      · intro ρ W hC hc hf hL
        have e3 : ρ (.tmp 3) = .pointer (some ⟨w.heap.size, 0, none⟩) := hL 3 (by decide +kernel)
        have hl := (HLA.out.below hC.1.bel).1
        simp [go_sem, hc, hf, e3, hl]
        exact ⟨Below.refl _ _, rfl⟩
      refine gSt (gStep_on 5 64 true rfl rfl (by decide +kernel) (fun v w h => h) (gRun_move 1 66 (.inl rfl) rfl (by decide +kernel) (fun v w h => h))) ?_
      refine gSt (gStep_on 5 64 true rfl rfl (by decide +kernel) (fun v w h => h) ?_) ?_
      · intro ρ W hC hc hf hL
        have e65 : ρ (.tmp 65) = .agg #[.int .u64 (fa 0 : Nat), .int .u64 (fa 1 : Nat), .int .u64 (fa 2 : Nat), .int .u64 (fa 3 : Nat), .int .u64 (fa 4 : Nat), .int .u64 (fa 5 : Nat), .int .u64 (fa 6 : Nat), .int .u64 (fa 7 : Nat)] := hL 65 (by decide +kernel)
        have e66 : ρ (.tmp 66) = .int .i64 n := hL 66 (by decide +kernel)
        simp [go_sem, hc, hf, e65, e66]
        refine (HBIT.out _).mono ?_
        rintro e w' ⟨rfl, hb⟩
        exact ⟨_, rfl, by first | exact hb | (subst hb; exact Below.refl _ _), rfl⟩
      refine gSt (gStep_on 5 64 true rfl rfl (by decide +kernel) (fun v w h => h) (gRun_move 8 68 (.inl rfl) rfl (by decide +kernel) (fun v w h => h))) ?_
      refine gSt (gStep_on 5 64 true rfl rfl (by decide +kernel) (fun v w h => h) ?_) ?_
      · intro ρ W hC hc hf hL
        have e67 : ρ (.tmp 67) = .bool is := hL 67 (by decide +kernel)
        have e68 : ρ (.tmp 68) = .bool is := hL 68 (by decide +kernel)
        simp [go_sem, hc, hf, e67, e68]
        exact ⟨Below.refl _ _, rfl⟩
      refine gSt (gStep_run rfl (gRun_pickT 64 69 70 _ rfl rfl (by decide +kernel) (by decide +kernel) (fun v w h => h) (fun v w h => h))) ?_
      refine gSt (gStep_run rfl (gRun_move 70 71 (.inl rfl) rfl (by decide +kernel) (fun v w h => h))) ?_
      refine gSt (gStep_on 12 71 true rfl rfl (by decide +kernel) (fun v w h => h) ?_) ?_
      · intro ρ W hC hc hf hL
        have e3 : ρ (.tmp 3) = .pointer (some ⟨w.heap.size, 0, none⟩) := hL 3 (by decide +kernel)
        have hl := (HLA.out.below hC.1.bel).1
        simp [go_sem, hc, hf, e3, hl]
        exact ⟨Below.refl _ _, rfl⟩
      refine gSt (gStep_on 12 71 true rfl rfl (by decide +kernel) (fun v w h => h) ?_) ?_
      · intro ρ W hC hc hf hL
        have e72 : ρ (.tmp 72) = .agg #[.int .u64 (fa 0 : Nat), .int .u64 (fa 1 : Nat), .int .u64 (fa 2 : Nat), .int .u64 (fa 3 : Nat), .int .u64 (fa 4 : Nat), .int .u64 (fa 5 : Nat), .int .u64 (fa 6 : Nat), .int .u64 (fa 7 : Nat)] := hL 72 (by decide +kernel)
        simp [go_sem, hc, hf, e72]
        refine (HM1.out _).mono ?_
        rintro e w' ⟨rfl, hb⟩
        exact ⟨_, rfl, by first | exact hb | (subst hb; exact Below.refl _ _), rfl⟩
      refine gSt (gStep_on 12 71 true rfl rfl (by decide +kernel) (fun v w h => h) ?_) ?_
      · intro ρ W hC hc hf hL
        have e3 : ρ (.tmp 3) = .pointer (some ⟨w.heap.size, 0, none⟩) := hL 3 (by decide +kernel)
        have hl := (HLA.out.below hC.1.bel).1
        simp [go_sem, hc, hf, e3, hl]
        exact ⟨Below.refl _ _, rfl⟩
      refine gSt (gStep_on 12 71 true rfl rfl (by decide +kernel) (fun v w h => h) ?_) ?_
      · intro ρ W hC hc hf hL
        have e74 : ρ (.tmp 74) = .agg #[.int .u64 (fa 0 : Nat), .int .u64 (fa 1 : Nat), .int .u64 (fa 2 : Nat), .int .u64 (fa 3 : Nat), .int .u64 (fa 4 : Nat), .int .u64 (fa 5 : Nat), .int .u64 (fa 6 : Nat), .int .u64 (fa 7 : Nat)] := hL 74 (by decide +kernel)
        simp [go_sem, hc, hf, e74]
        refine (HM2.out _).mono ?_
        rintro e w' ⟨rfl, hb⟩
        exact ⟨_, rfl, by first | exact hb | (subst hb; exact Below.refl _ _), rfl⟩
      refine gSt (gStep_on 12 71 true rfl rfl (by decide +kernel) (fun v w h => h) ?_) ?_
      · intro ρ W hC hc hf hL
        have e73 : ρ (.tmp 73) = .bool m := hL 73 (by decide +kernel)
        have e75 : ρ (.tmp 75) = .bool m := hL 75 (by decide +kernel)
        simp [go_sem, hc, hf, e73, e75]
        exact ⟨Below.refl _ _, rfl⟩
      refine gSt (gStep_run rfl (gRun_pickT 71 76 77 _ rfl rfl (by decide +kernel) (by decide +kernel) (fun v w h => h) (fun v w h => h))) ?_
      refine gSt (gStep_run rfl (gRun_move 77 78 (.inl rfl) rfl (by decide +kernel) (fun v w h => h))) ?_
      refine gSt (gStep_on 19 78 true rfl rfl (by decide +kernel) (fun v w h => h) ?_) ?_
      · intro ρ W hC hc hf hL
        have e3 : ρ (.tmp 3) = .pointer (some ⟨w.heap.size, 0, none⟩) := hL 3 (by decide +kernel)
        have hl := (HLA.out.below hC.1.bel).1
        simp [go_sem, hc, hf, e3, hl]
        exact ⟨Below.refl _ _, rfl⟩
      refine gSt (gStep_on 19 78 true rfl rfl (by decide +kernel) (fun v w h => h) ?_) ?_
      · intro ρ W hC hc hf hL
        have e79 : ρ (.tmp 79) = .agg #[.int .u64 (fa 0 : Nat), .int .u64 (fa 1 : Nat), .int .u64 (fa 2 : Nat), .int .u64 (fa 3 : Nat), .int .u64 (fa 4 : Nat), .int .u64 (fa 5 : Nat), .int .u64 (fa 6 : Nat), .int .u64 (fa 7 : Nat)] := hL 79 (by decide +kernel)
        simp [go_sem, hc, hf, e79]
        refine (HNEG.out _).mono ?_
        rintro e w' ⟨rfl, hb⟩
        exact ⟨_, rfl, by first | exact hb | (subst hb; exact Below.refl _ _), rfl⟩
      refine gSt (gStep_on 19 78 true rfl rfl (by decide +kernel) (fun v w h => h) ?_) ?_
      · intro ρ W hC hc hf hL
        have e11 : ρ (.tmp 11) = .pointer (some ⟨p11, 0, none⟩) := hL 11 (by decide +kernel)
        have hl := hC.2.1
        simp [go_sem, hc, hf, e11, hl]
        exact ⟨Below.refl _ _, rfl⟩
      refine gSt (gStep_on 19 78 true rfl rfl (by decide +kernel) (fun v w h => h) ?_) ?_
      · intro ρ W hC hc hf hL
        have e80 : ρ (.tmp 80) = .agg #[.int .u64 (fg 0 : Nat), .int .u64 (fg 1 : Nat), .int .u64 (fg 2 : Nat), .int .u64 (fg 3 : Nat), .int .u64 (fg 4 : Nat), .int .u64 (fg 5 : Nat), .int .u64 (fg 6 : Nat), .int .u64 (fg 7 : Nat)] := hL 80 (by decide +kernel)
        have e81 : ρ (.tmp 81) = .agg #[.int .u64 (fg 0 : Nat), .int .u64 (fg 1 : Nat), .int .u64 (fg 2 : Nat), .int .u64 (fg 3 : Nat), .int .u64 (fg 4 : Nat), .int .u64 (fg 5 : Nat), .int .u64 (fg 6 : Nat), .int .u64 (fg 7 : Nat)] := hL 81 (by decide +kernel)
        simp [go_sem, hc, hf, e80, e81, wide_sameF]
        exact ⟨Below.refl _ _, rfl⟩
      refine gSt (gStep_run rfl (gRun_pickT 78 82 83 _ rfl rfl (by decide +kernel) (by decide +kernel) (fun v w h => h) (fun v w h => h))) ?_
      refine gSt (gStep_run rfl (gRun_move 83 84 (.inl rfl) rfl (by decide +kernel) (fun v w h => h))) ?_
      refine gSt (gStep_on 25 84 true rfl rfl (by decide +kernel) (fun v w h => h) (gRun_move 1 85 (.inl rfl) rfl (by decide +kernel) (fun v w h => h))) ?_
      refine gSt (gStep_on 25 84 true rfl rfl (by decide +kernel) (fun v w h => h) ?_) ?_
      · intro ρ W hC hc hf hL
        have e85 : ρ (.tmp 85) = .int .i64 n := hL 85 (by decide +kernel)
        simp [go_sem, hc, hf, e85]
        refine (HPW.out _).mono ?_
        rintro e w' ⟨rfl, hb⟩
        exact ⟨_, rfl, by first | exact hb | (subst hb; exact Below.refl _ _), rfl⟩
      refine gSt (gStep_on 25 84 true rfl rfl (by decide +kernel) (fun v w h => h) ?_) ?_
      · intro ρ W hC hc hf hL
        have e9 : ρ (.tmp 9) = .pointer (some ⟨X.heap.size, 0, none⟩) := hL 9 (by decide +kernel)
        have hl := hC.1.l9.1
        simp [go_sem, hc, hf, e9, hl]
        exact ⟨Below.refl _ _, rfl⟩
      refine gSt (gStep_on 25 84 true rfl rfl (by decide +kernel) (fun v w h => h) ?_) ?_
      · intro ρ W hC hc hf hL
        have e86 : ρ (.tmp 86) = .agg #[.int .u64 (fp 0 : Nat), .int .u64 (fp 1 : Nat), .int .u64 (fp 2 : Nat), .int .u64 (fp 3 : Nat), .int .u64 (fp 4 : Nat), .int .u64 (fp 5 : Nat), .int .u64 (fp 6 : Nat), .int .u64 (fp 7 : Nat)] := hL 86 (by decide +kernel)
        have e87 : ρ (.tmp 87) = .agg #[.int .u64 (fp 0 : Nat), .int .u64 (fp 1 : Nat), .int .u64 (fp 2 : Nat), .int .u64 (fp 3 : Nat), .int .u64 (fp 4 : Nat), .int .u64 (fp 5 : Nat), .int .u64 (fp 6 : Nat), .int .u64 (fp 7 : Nat)] := hL 87 (by decide +kernel)
        simp [go_sem, hc, hf, e86, e87, wide_sameF]
        exact ⟨Below.refl _ _, rfl⟩
      refine gSt (gStep_run rfl (gRun_pickT 84 88 89 _ rfl rfl (by decide +kernel) (by decide +kernel) (fun v w h => h) (fun v w h => h))) ?_
      refine gSt (gStep_run rfl (gRun_move 89 90 (.inl rfl) rfl (by decide +kernel) (fun v w h => h))) ?_
      refine gSt (gStep_on 31 90 true rfl rfl (by decide +kernel) (fun v w h => h) (gRun_move 1 91 (.inl rfl) rfl (by decide +kernel) (fun v w h => h))) ?_
      refine gSt (gStep_on 31 90 true rfl rfl (by decide +kernel) (fun v w h => h) ?_) ?_
      · intro ρ W hC hc hf hL
        have e91 : ρ (.tmp 91) = .int .i64 n := hL 91 (by decide +kernel)
        simp [go_sem, hc, hf, e91]
        refine (HMK.out _).mono ?_
        rintro e w' ⟨rfl, hb⟩
        exact ⟨_, rfl, by first | exact hb | (subst hb; exact Below.refl _ _), rfl⟩
      refine gSt (gStep_on 31 90 true rfl rfl (by decide +kernel) (fun v w h => h) ?_) ?_
      · intro ρ W hC hc hf hL
        have e10 : ρ (.tmp 10) = .pointer (some ⟨X.heap.size + 1, 0, none⟩) := hL 10 (by decide +kernel)
        have hl := hC.1.l10.1
        simp [go_sem, hc, hf, e10, hl]
        exact ⟨Below.refl _ _, rfl⟩
      refine gSt (gStep_on 31 90 true rfl rfl (by decide +kernel) (fun v w h => h) ?_) ?_
      · intro ρ W hC hc hf hL
        have e92 : ρ (.tmp 92) = .agg #[.int .u64 (fm 0 : Nat), .int .u64 (fm 1 : Nat), .int .u64 (fm 2 : Nat), .int .u64 (fm 3 : Nat), .int .u64 (fm 4 : Nat), .int .u64 (fm 5 : Nat), .int .u64 (fm 6 : Nat), .int .u64 (fm 7 : Nat)] := hL 92 (by decide +kernel)
        have e93 : ρ (.tmp 93) = .agg #[.int .u64 (fm 0 : Nat), .int .u64 (fm 1 : Nat), .int .u64 (fm 2 : Nat), .int .u64 (fm 3 : Nat), .int .u64 (fm 4 : Nat), .int .u64 (fm 5 : Nat), .int .u64 (fm 6 : Nat), .int .u64 (fm 7 : Nat)] := hL 93 (by decide +kernel)
        simp [go_sem, hc, hf, e92, e93, wide_sameF]
        exact ⟨Below.refl _ _, rfl⟩
      refine gSt (gStep_run rfl (gRun_pickT 90 94 95 _ rfl rfl (by decide +kernel) (by decide +kernel) (fun v w h => h) (fun v w h => h))) ?_
      refine gSt (gStep_run rfl (gRun_move 95 96 (.inl rfl) rfl (by decide +kernel) (fun v w h => h))) ?_
      refine gSt (gStep_on 37 96 true rfl rfl (by decide +kernel) (fun v w h => h) ?_) ?_
      · intro ρ W hC hc hf hL
        have e3 : ρ (.tmp 3) = .pointer (some ⟨w.heap.size, 0, none⟩) := hL 3 (by decide +kernel)
        have hl := (HLA.out.below hC.1.bel).1
        simp [go_sem, hc, hf, e3, hl]
        exact ⟨Below.refl _ _, rfl⟩
      refine gSt (gStep_on 37 96 true rfl rfl (by decide +kernel) (fun v w h => h) ?_) ?_
      · intro ρ W hC hc hf hL
        have e97 : ρ (.tmp 97) = .agg #[.int .u64 (fa 0 : Nat), .int .u64 (fa 1 : Nat), .int .u64 (fa 2 : Nat), .int .u64 (fa 3 : Nat), .int .u64 (fa 4 : Nat), .int .u64 (fa 5 : Nat), .int .u64 (fa 6 : Nat), .int .u64 (fa 7 : Nat)] := hL 97 (by decide +kernel)
        simp [go_sem, hc, hf, e97]
        refine (wideLow_any fa _).mono ?_
        rintro e w' ⟨rfl, hb⟩
        exact ⟨_, rfl, by first | exact hb | (subst hb; exact Below.refl _ _), rfl⟩
      refine gSt (gStep_on 37 96 true rfl rfl (by decide +kernel) (fun v w h => h) ?_) ?_
      · intro ρ W hC hc hf hL
        have e3 : ρ (.tmp 3) = .pointer (some ⟨w.heap.size, 0, none⟩) := hL 3 (by decide +kernel)
        simp [go_sem, hc, hf, e3]
        exact ⟨Below.refl _ _, rfl⟩
      refine gSt (gStep_on 37 96 true rfl rfl (by decide +kernel) (fun v w h => h) ?_) ?_
      · intro ρ W hC hc hf hL
        have e99 : ρ (.tmp 99) = .pointer (some ⟨w.heap.size, 1, none⟩) := hL 99 (by decide +kernel)
        have hl := (HLA.out.below hC.1.bel).1
        simp [go_sem, hc, hf, e99, hl]
        exact ⟨Below.refl _ _, rfl⟩
      refine gSt (gStep_on 37 96 true rfl rfl (by decide +kernel) (fun v w h => h) ?_) ?_
      · intro ρ W hC hc hf hL
        have e3 : ρ (.tmp 3) = .pointer (some ⟨w.heap.size, 0, none⟩) := hL 3 (by decide +kernel)
        simp [go_sem, hc, hf, e3]
        exact ⟨Below.refl _ _, rfl⟩
      refine gSt (gStep_on 37 96 true rfl rfl (by decide +kernel) (fun v w h => h) ?_) ?_
      · intro ρ W hC hc hf hL
        have e101 : ρ (.tmp 101) = .pointer (some ⟨w.heap.size, 0, none⟩) := hL 101 (by decide +kernel)
        have hl := (HLA.out.below hC.1.bel).1
        simp [go_sem, hc, hf, e101, hl]
        exact ⟨Below.refl _ _, rfl⟩
      refine gSt (gStep_on 37 96 true rfl rfl (by decide +kernel) (fun v w h => h) ?_) ?_
      · intro ρ W hC hc hf hL
        have e100 : ρ (.tmp 100) = .int .u64 (fa 1 : Nat) := hL 100 (by decide +kernel)
        have e102 : ρ (.tmp 102) = .int .u64 (fa 0 : Nat) := hL 102 (by decide +kernel)
        simp [go_sem, hc, hf, e100, e102]
        exact ⟨Below.refl _ _, rfl⟩
      refine gSt (gStep_on 37 96 true rfl rfl (by decide +kernel) (fun v w h => h) ?_) ?_
      · intro ρ W hC hc hf hL
        have e98 : ρ (.tmp 98) = .agg #[.int .u64 (fa 1 : Nat), .int .u64 (fa 0 : Nat)] := hL 98 (by decide +kernel)
        have e103 : ρ (.tmp 103) = .agg #[.int .u64 (fa 1 : Nat), .int .u64 (fa 0 : Nat)] := hL 103 (by decide +kernel)
        simp [go_sem, hc, hf, e98, e103, word_same]
        exact ⟨Below.refl _ _, rfl⟩
      refine gSt (gStep_run rfl (gRun_pickT 96 104 105 _ rfl rfl (by decide +kernel) (by decide +kernel) (fun v w h => h) (fun v w h => h))) ?_
      refine gSt (gStep_run rfl (gRun_move 105 106 (.inl rfl) rfl (by decide +kernel) (fun v w h => h))) ?_
      refine gSt (gStep_on 47 106 true rfl rfl (by decide +kernel) (fun v w h => h) ?_) ?_
      · intro ρ W hC hc hf hL
        have e5 : ρ (.tmp 5) = .pointer (some ⟨w.heap.size + 1, 0, none⟩) := hL 5 (by decide +kernel)
        have hl := (HLW.out.below hC.1.bel).1; have hl2 := (HLW.out.below hC.1.bel).2.1
        simp [go_sem, hc, hf, e5, hl, hl2]
        exact ⟨Below.refl _ _, rfl⟩
      refine gSt (gStep_on 47 106 true rfl rfl (by decide +kernel) (fun v w h => h) ?_) ?_
      · intro ρ W hC hc hf hL
        have e107 : ρ (.tmp 107) = .agg #[.int .u64 (hi : Nat), .int .u64 (lo : Nat)] := hL 107 (by decide +kernel)
        simp [go_sem, hc, hf, e107]
        refine (HFR.out _).mono ?_
        rintro e w' ⟨rfl, hb⟩
        exact ⟨_, rfl, by first | exact hb | (subst hb; exact Below.refl _ _), rfl⟩
      refine gSt (gStep_on 47 106 true rfl rfl (by decide +kernel) (fun v w h => h) ?_) ?_
      · intro ρ W hC hc hf hL
        have e5 : ρ (.tmp 5) = .pointer (some ⟨w.heap.size + 1, 0, none⟩) := hL 5 (by decide +kernel)
        simp [go_sem, hc, hf, e5]
        exact ⟨Below.refl _ _, rfl⟩
      refine gSt (gStep_on 47 106 true rfl rfl (by decide +kernel) (fun v w h => h) ?_) ?_
      · intro ρ W hC hc hf hL
        have e109 : ρ (.tmp 109) = .pointer (some ⟨w.heap.size + 1, 1, none⟩) := hL 109 (by decide +kernel)
        have hl := (HLW.out.below hC.1.bel).1; have hl2 := (HLW.out.below hC.1.bel).2.1
        simp [go_sem, hc, hf, e109, hl2]
        exact ⟨Below.refl _ _, rfl⟩
      refine gSt (gStep_on 47 106 true rfl rfl (by decide +kernel) (fun v w h => h) ?_) ?_
      · intro ρ W hC hc hf hL
        have e5 : ρ (.tmp 5) = .pointer (some ⟨w.heap.size + 1, 0, none⟩) := hL 5 (by decide +kernel)
        simp [go_sem, hc, hf, e5]
        exact ⟨Below.refl _ _, rfl⟩
      refine gSt (gStep_on 47 106 true rfl rfl (by decide +kernel) (fun v w h => h) ?_) ?_
      · intro ρ W hC hc hf hL
        have e111 : ρ (.tmp 111) = .pointer (some ⟨w.heap.size + 1, 0, none⟩) := hL 111 (by decide +kernel)
        have hl := (HLW.out.below hC.1.bel).1; have hl2 := (HLW.out.below hC.1.bel).2.1
        simp [go_sem, hc, hf, e111, hl]
        exact ⟨Below.refl _ _, rfl⟩
      refine gSt (gStep_on 47 106 true rfl rfl (by decide +kernel) (fun v w h => h) ?_) ?_
      · intro ρ W hC hc hf hL
        have e110 : ρ (.tmp 110) = .int .u64 (lo : Nat) := hL 110 (by decide +kernel)
        have e112 : ρ (.tmp 112) = .int .u64 (hi : Nat) := hL 112 (by decide +kernel)
        simp [go_sem, hc, hf, e110, e112]
        exact ⟨Below.refl _ _, rfl⟩
      refine gSt (gStep_on 47 106 true rfl rfl (by decide +kernel) (fun v w h => h) ?_) ?_
      · intro ρ W hC hc hf hL
        have e108 : ρ (.tmp 108) = .agg #[.int .u64 (fw 0 : Nat), .int .u64 (fw 1 : Nat), .int .u64 (fw 2 : Nat), .int .u64 (fw 3 : Nat), .int .u64 (fw 4 : Nat), .int .u64 (fw 5 : Nat), .int .u64 (fw 6 : Nat), .int .u64 (fw 7 : Nat)] := hL 108 (by decide +kernel)
        have e113 : ρ (.tmp 113) = .agg #[.int .u64 (lo : Nat), .int .u64 (hi : Nat), .int .u64 0, .int .u64 0, .int .u64 0, .int .u64 0, .int .u64 0, .int .u64 0] := hL 113 (by decide +kernel)
        simp [go_sem, hc, hf, e108, e113, hwe]
        exact ⟨Below.refl _ _, rfl⟩
      refine gSt (gStep_run rfl (gRun_pickT 106 114 115 _ rfl rfl (by decide +kernel) (by decide +kernel) (fun v w h => h) (fun v w h => h))) ?_
      refine gSt (gStep_run rfl (gRun_move 115 116 (.inl rfl) rfl (by decide +kernel) (fun v w h => h))) ?_
      refine gSt (gStep_on 57 116 true rfl rfl (by decide +kernel) (fun v w h => h) ?_) ?_
      · intro ρ W hC hc hf hL
        simp [go_sem, hc, hf]
        refine (awake2_any _).mono ?_
        rintro e w' ⟨rfl, hb⟩
        exact ⟨_, rfl, by first | exact hb | (subst hb; exact Below.refl _ _), rfl⟩
      refine gSt (gStep_run rfl (gRun_pickT 116 117 118 _ rfl rfl (by decide +kernel) (by decide +kernel) (fun v w h => h) (fun v w h => h))) ?_
      refine gSt (gStep_run rfl (gRun_move 118 6 (.inr rfl) rfl (by decide +kernel) (fun v w h => h))) ?_
      exact gSt0
    · intro W hC
      refine gFi 59 rfl ?_
      rintro _ rfl
      refine gFi 60 rfl ?_
      rintro _ rfl
      refine gFi 61 rfl ?_
      rintro u61 b61
      refine gFi 62 rfl ?_
      rintro _ rfl
      refine gFi 63 rfl ?_
      rintro _ rfl
      refine gFi 64 rfl ?_
      rintro _ rfl
      refine gFi 65 rfl ?_
      rintro _ rfl
      refine gFi 66 rfl ?_
      rintro _ rfl
      refine gFi 67 rfl ?_
      rintro _ rfl
      refine gFi 68 rfl ?_
      rintro _ rfl
      refine gFi 69 rfl ?_
      rintro _ rfl
      refine gFi 70 rfl ?_
      rintro _ rfl
      refine gFi 71 rfl ?_
      rintro _ rfl
      refine gFi 72 rfl ?_
      rintro _ rfl
      refine gFi 73 rfl ?_
      rintro _ rfl
      refine gFi 74 rfl ?_
      rintro _ rfl
      refine gFi 75 rfl ?_
      rintro _ rfl
      refine gFi 76 rfl ?_
      rintro _ rfl
      refine gFi 77 rfl ?_
      rintro _ rfl
      refine gFi 78 rfl ?_
      rintro _ rfl
      refine gFi 79 rfl ?_
      rintro _ rfl
      refine gFi 80 rfl ?_
      rintro _ rfl
      refine gFi 81 rfl ?_
      rintro _ rfl
      refine gFi 82 rfl ?_
      rintro _ rfl
      refine gFi 83 rfl ?_
      rintro _ rfl
      refine gFi 84 rfl ?_
      rintro _ rfl
      refine gFi 85 rfl ?_
      rintro _ rfl
      refine gFi 86 rfl ?_
      rintro _ rfl
      refine gFi 87 rfl ?_
      rintro _ rfl
      refine gFi 88 rfl ?_
      rintro _ rfl
      refine gFi 89 rfl ?_
      rintro _ rfl
      refine gFi 90 rfl ?_
      rintro _ rfl
      refine gFi 91 rfl ?_
      rintro _ rfl
      refine gFi 92 rfl ?_
      rintro _ rfl
      refine gFi 93 rfl ?_
      rintro _ rfl
      refine gFi 94 rfl ?_
      rintro _ rfl
      refine gFi 95 rfl ?_
      rintro _ rfl
      refine gFi 96 rfl ?_
      rintro _ rfl
      refine gFi 97 rfl ?_
      rintro _ rfl
      refine gFi 98 rfl ?_
      rintro _ rfl
      refine gFi 99 rfl ?_
      rintro _ rfl
      refine gFi 100 rfl ?_
      rintro _ rfl
      refine gFi 101 rfl ?_
      rintro _ rfl
      refine gFi 102 rfl ?_
      rintro _ rfl
      refine gFi 103 rfl ?_
      rintro _ rfl
      refine gFi 104 rfl ?_
      rintro _ rfl
      refine gFi 105 rfl ?_
      rintro _ rfl
      refine gFi 106 rfl ?_
      rintro _ rfl
      refine gFi 107 rfl ?_
      rintro _ rfl
      refine gFi 108 rfl ?_
      rintro _ rfl
      refine gFi 109 rfl ?_
      rintro _ rfl
      refine gFi 110 rfl ?_
      rintro _ rfl
      refine gFi 111 rfl ?_
      rintro _ rfl
      refine gFi 112 rfl ?_
      rintro _ rfl
      refine gFi 113 rfl ?_
      rintro _ rfl
      refine gFi 114 rfl ?_
      rintro _ rfl
      refine gFi 115 rfl ?_
      rintro _ rfl
      refine gFi 116 rfl ?_
      rintro _ rfl
      refine gFi 117 rfl ?_
      rintro _ rfl
      refine gFi 118 rfl ?_
      rintro _ rfl
      refine gFi 6 rfl ?_
      rintro _ rfl
      refine gFi0 ?_
      simp only [List.drop_succ_cons, List.drop_zero, Act.put, List.setIfInBounds_toArray, List.set_cons_succ, List.set_cons_zero]
      have HB0 := hide (below_trans HBX.out hC.1.bel)
      clear hC HST HL11
      go_wp2
      go_ret
      exact ⟨rfl, HB0.out⟩


end Go.Proofs.Ytenbomfoihajhaa

/- For all wides, ints and words the law radicandlaw02.WideLooks returns true. -/
set_option linter.unusedVariables false
set_option linter.unusedSimpArgs false
set_option maxRecDepth 8000
namespace Go.Proofs.Ytenbomfoihajhaa
open Go.RowKit Plain

theorem power_num (n : Int) (pw q : Nat) (hq : 2 ^ q = QQ) (hq5 : q = 512) (hpw : pw = if 0 ≤ n ∧ n < 512 then 2 ^ n.toNat else 0) (w : World) :
    Calls Try.prog 36 #[.int .i64 n] w fun e w' => e = .returned (.agg #[.int .u64 (dgl (pw) 0 : Nat), .int .u64 (dgl (pw) 1 : Nat), .int .u64 (dgl (pw) 2 : Nat), .int .u64 (dgl (pw) 3 : Nat), .int .u64 (dgl (pw) 4 : Nat), .int .u64 (dgl (pw) 5 : Nat), .int .u64 (dgl (pw) 6 : Nat), .int .u64 (dgl (pw) 7 : Nat)]) ∧ Below w.heap.size w w' := by
  by_cases hn : n < 0
  · rw [hpw, if_neg (by omega)]
    exact widePower_neg n hn w
  · obtain ⟨j, rfl⟩ : ∃ j : Nat, n = (j : Int) := ⟨n.toNat, by omega⟩
    have h := widePower_any (j : Int) (by omega) w
    by_cases h5 : (j : Int) < 512
    · have e1 : roomI (j : Int) = (j : Int) := by unfold roomI; omega
      rw [hpw, if_pos (by omega), Int.toNat_natCast]
      rw [e1, sh_up, Nat.one_mul] at h
      exact h
    · have e1 : roomI (j : Int) = (q : Int) := by unfold roomI; omega
      rw [hpw, if_neg (by omega)]
      rw [e1, sh_up, Nat.one_mul, hq, w8_mod (show QQ % QQ = 0 % QQ by rw [Nat.mod_self, Nat.zero_mod])] at h
      exact h

theorem bit_num (a q : Nat) (n : Int) (hq : 2 ^ q = QQ) (hq5 : q = 512) (ha : a < QQ) (hn2 : n ≤ 9223372036854775807) (w : World) :
    Calls Try.prog 32 #[.agg #[.int .u64 (dgl (a) 0 : Nat), .int .u64 (dgl (a) 1 : Nat), .int .u64 (dgl (a) 2 : Nat), .int .u64 (dgl (a) 3 : Nat), .int .u64 (dgl (a) 4 : Nat), .int .u64 (dgl (a) 5 : Nat), .int .u64 (dgl (a) 6 : Nat), .int .u64 (dgl (a) 7 : Nat)], .int .i64 n] w fun e w' => e = .returned (.bool (decide (0 ≤ n ∧ n < 512) && (a / 2 ^ n.toNat % 2 == 1))) ∧ Below w.heap.size w w' := by
  by_cases hn : n < 0
  · rw [decide_eq_false (by omega), Bool.false_and]
    exact wideBit_neg a n hn w
  · have h := wideBit_any a n ha (by omega) hn2 w
    by_cases h5 : n < 512
    · rw [decide_eq_true (by omega), Bool.true_and]
      exact h
    · rw [decide_eq_false (by omega), Bool.false_and]
      have h0 : a / 2 ^ n.toNat = 0 := Nat.div_eq_of_lt (Nat.lt_of_lt_of_le ha (by rw [← hq]; exact Nat.pow_le_pow_right (by decide) (by omega)))
      rw [h0] at h
      exact h

theorem wideLooks_walk (a hi lo : Nat) (n : Int) (hn1 : -9223372036854775808 ≤ n) (hn2 : n ≤ 9223372036854775807) (ha : a < QQ) (hh : hi < 18446744073709551616) (hl : lo < 18446744073709551616) (w : World) :
    Calls Try.prog 4 #[.agg #[.int .u64 (dgl (a) 0 : Nat), .int .u64 (dgl (a) 1 : Nat), .int .u64 (dgl (a) 2 : Nat), .int .u64 (dgl (a) 3 : Nat), .int .u64 (dgl (a) 4 : Nat), .int .u64 (dgl (a) 5 : Nat), .int .u64 (dgl (a) 6 : Nat), .int .u64 (dgl (a) 7 : Nat)], .int .i64 n, .agg #[.int .u64 (hi : Nat), .int .u64 (lo : Nat)]] w fun e w' => e = .returned (.bool true) ∧ Below w.heap.size w w' := by
  obtain ⟨r, hr⟩ : ∃ r : Nat, roomI n = (r : Int) := ⟨(roomI n).toNat, by have := roomI_bd n; omega⟩
  obtain ⟨pw, hpw⟩ : ∃ pw, pw = if 0 ≤ n ∧ n < 512 then 2 ^ n.toNat else 0 := ⟨_, rfl⟩
  have hq := qq_pow 512 rfl
  have hz : dgl 0 = fun _ => 0 := funext dgl_zero
  refine wideLooks_first (dgl a) (dgl pw) (dgl (2 ^ r - 1)) (dgl (subQ 0 a)) (dgl (lo + 18446744073709551616 * hi)) a hi lo (Go.bitLen a) pw (2 ^ r) n (decide (0 ≤ n ∧ n < 512) && (a / 2 ^ n.toNat % 2 == 1)) (a / 2 ^ 511 % 2 == 1) _ _ (decide (QQ ≤ QQ - a)) w hn1 hn2 ha
    (fun w => refBig_any a ha w) rfl (fun h1 h2 => by rw [hpw, if_pos ⟨h1, h2⟩]) (fun v w h => refWide_any pw 20 v w h) (fun h => by rw [hpw, if_neg h, hz])
    (fun h => by congr 1; unfold roomI at hr; omega) (fun v w h => refWide_any _ 20 v w h) (fun h => by
      have h0 : r = 0 := by unfold roomI at hr; omega
      rw [h0, Nat.pow_zero, Nat.sub_self, hz]) (fun v w h => ?_) (fun w => wideLen_any a ha w) (fun v w h => refLen_any a 40 v w h (by omega)) (fun w => bit_num a 512 n hq rfl ha hn2 w) (fun w => wideMinus_any a ha w) (fun w => refMinus_any a ha w)
    (fun w => wideNeg_any a ha w) (fun w => power_num n pw 512 hq rfl hpw w) (fun w => wideMask_any n r hr w) (fun w => wideFrom_any hi lo hh hl w) (fun w => ?_)
  · have h2 := refWide_any (QQ - a) 19 v w h
    rw [w8_mod (show (QQ - a) % QQ = subQ 0 a % QQ by
      rw [neg_eq a ha]
      by_cases h0 : a = 0
      · rw [if_pos h0, h0, Nat.sub_zero, Nat.mod_self, Nat.zero_mod]
      · rw [if_neg h0])] at h2
    exact h2
  · have e := w8_congr (x := dgl (lo + 18446744073709551616 * hi)) (y := dg [lo, hi]) (fun i hi8 => ((dig_two (β := 18446744073709551616) hl hh).2 i).symm)
    rw [e]
    exact wide_sameF (dg [lo, hi]) w

open Go.ChangeShapes Go.WideShapes Go.ChangeAt in
theorem word_of_trod {H : Type} {enc : TypeId × Value → H} {W : World} {r : Reach} {b0 base : Nat} {sp : Nat → Bool} {held : Bool} {v : Value} {d : DataW H} {ps : List MemPlace}
    (hval : Value.okWide Try.prog W r b0 37 v) (hd : DataW.Trod enc Try.prog W base sp held 37 v d ps) : ∃ x y : Nat, x < 18446744073709551616 ∧ y < 18446744073709551616 ∧ v = .agg #[.int .u64 (x : Nat), .int .u64 (y : Nat)] := by
  obtain ⟨c0, c1, y0, y1, m, rfl, rfl, rfl, hy0, hy1⟩ := Go.Joins.open_agg2 Try.underlying37 (by kernel_rfl) (by kernel_rfl) hval hd
  obtain ⟨a0, e0, _, wa0⟩ := DataW.trod_int Try.underlying22 hy0
  obtain ⟨a1, e1, _, wa1⟩ := DataW.trod_int Try.underlying22 hy1
  obtain ⟨x, rfl, hx⟩ := u64_nat wa0
  obtain ⟨y, rfl, hy⟩ := u64_nat wa1
  simp at e0 e1
  subst e0 e1
  exact ⟨x, y, hx, hy, rfl⟩
end Go.Proofs.Ytenbomfoihajhaa

/- For all wides, ints and words the law radicandlaw02.WideLooks returns true, and its arguments read afterwards as they read before. No condition. -/
namespace Go.Proofs.Ytenbomfoihajhaa.wideLooks
open Go.ChangeShapes Go.WideShapes Go.ChangeAt Go.RowKit Go.Proofs.Ytenbomfoihajhaa

theorem own : ownKnob Try.prog.godebug = none := by kernel_rfl
theorem laidOut : laidOutB Try.prog = true := by kernel_rfl

set_option maxRecDepth 100000 in
theorem lifted (os : Os) (started : os.Started) (H : Type) (enc : TypeId × Value → H) :
    ReturnsInHanded {} Try.checked os 4 .any (Rows.wideLooksSpec.pre6 enc Try.prog Try.f4 Rows.wideLooksRow.domain false) (Rows.wideLooksSpec.post enc Try.prog Try.f4 false true false false) := by
  refine returnsInHanded_of_change (C := Try.checked) own started (by kernel_rfl) Try.func4
    (ChangeSpec.witness6 (enc := enc) (C := Try.checked) false ⟨#[], #[.agg #[.int .u64 0, .int .u64 0, .int .u64 0, .int .u64 0, .int .u64 0, .int .u64 0, .int .u64 0, .int .u64 0], .int .i64 0, .agg #[.int .u64 0, .int .u64 0]], []⟩ 40 (by kernel_rfl) (by kernel_rfl) (by kernel_rfl) (by kernel_rfl)) ?_
  intro W base args ds gs before hval0 hW hcnd _
  have hval : ∀ (j : Nat) t v, Try.f4.params[j]? = some t → args[j]? = some v → Value.okWide Try.prog W .any base t v := hval0
  have hW' := hW
  obtain ⟨p, q, hA0, hV, rfl, hfz, hnd⟩ := hW
  have hA : DataW.TrodAll enc Try.prog W 0 (fun _ => true) true Try.f4.params.toList args.toList ds p := hA0
  rw [Try.params4] at hA hval
  obtain ⟨v0, vs0, d0, ds0, p0, q0, hargs, rfl, rfl, h0, r0⟩ := trodAll_cons hA
  obtain ⟨v1, vs1, d1, ds1, p1, q1, rfl, rfl, rfl, h1, r1⟩ := trodAll_cons r0
  obtain ⟨v2, vs2, d2, ds2, p2, q2, rfl, rfl, rfl, h2, r2⟩ := trodAll_cons r1
  obtain ⟨rfl, rfl, rfl⟩ := trodAll_nil r2
  obtain rfl : args = #[v0, v1, v2] := by cases args; simp_all
  obtain ⟨rfl, rfl⟩ := trodVars_none hV
  have k0 := h0
  have lt0 : ∀ x ∈ p0, x.block < W.heap.size := by obtain ⟨m, hm⟩ := k0; exact DataW.trod_lt m _ _ _ hm
  have k1 := h1
  have lt1 : ∀ x ∈ p1, x.block < W.heap.size := by obtain ⟨m, hm⟩ := k1; exact DataW.trod_lt m _ _ _ hm
  have k2 := h2
  have lt2 : ∀ x ∈ p2, x.block < W.heap.size := by obtain ⟨m, hm⟩ := k2; exact DataW.trod_lt m _ _ _ hm
  obtain ⟨x0, hx0, rfl⟩ := wide_of_trod (hval 0 24 v0 rfl rfl) h0
  obtain ⟨a1, rfl, rfl, rfl, wf1⟩ := open_int Try.underlying3 (hval 1 3 v1 rfl rfl) h1
  obtain ⟨x2, y2, hx2, hy2, rfl⟩ := word_of_trod (hval 2 37 v2 rfl rfl) h2
  clear hA0 hval0
  refine (wideLooks_walk x0 x2 y2 a1 (i64_bd wf1).1 (i64_bd wf1).2 hx0 hx2 hy2 W).mono fun e W' ⟨he, bel⟩ => ?_
  subst he
  exact ⟨_, rfl, _, _, _, [], _, [], hW', trodAll_mk1 (shut_bool Try.underlying4 _), (trodAll_cons_mk (Below.trod laidOut (by kernel_rfl) (of_decide_eq_true (by kernel_rfl)) k0 bel lt0) (trodAll_cons_mk (Below.trod laidOut (by kernel_rfl) (of_decide_eq_true (by kernel_rfl)) k1 bel lt1) (trodAll_cons_mk (Below.trod laidOut (by kernel_rfl) (of_decide_eq_true (by kernel_rfl)) k2 bel lt2) trodAll_mk0))), rfl, bel.frame _, fun h => by cases h⟩

theorem over : Rows.wideLooksRow.holds Try.pinned (OpenSpec.ofChange Rows.wideLooksSpec) :=
  OpenClaim.holds_of_wide 4 Try.f4 rfl rfl rfl rfl rfl rfl rfl ⟨rfl, rfl, rfl, rfl, rfl⟩ rfl rfl rfl rfl rfl (by kernel_rfl) Try.func4 (by kernel_rfl)
    (of_decide_eq_true (by kernel_rfl)) (by unfold Func.isWrapper; first | (rw [if_pos (by decide +kernel)]; kernel_rfl) | (rw [if_neg (by decide +kernel)]; exact ⟨rfl, rfl⟩))
    (fun os started H enc _ => lifted os started H enc)

theorem proved : Rows.WideLooksSaid := over
#print axioms proved
end Go.Proofs.Ytenbomfoihajhaa.wideLooks

