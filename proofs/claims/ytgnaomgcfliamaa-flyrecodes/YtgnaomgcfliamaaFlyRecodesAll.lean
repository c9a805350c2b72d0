/- For all wides and ints the law radicandlaw13.FlyRecodes returns true and leaves what came in as it was. No conditions. -/
import Derived.Test.YtgnaomgcfliamaaPartAN
import Derived.Test.YtgnaomgcfliamaaRows
import Derived.WalkKit
import Derived.ProofKit
import Derived.OpenShut
import Derived.ShutString
import Derived.ChangeOld
import Derived.Below
/- For all wides and ints the law radicandlaw13.FlyRecodes returns true. -/
set_option linter.unusedVariables false
set_option linter.unusedSimpArgs false
set_option maxRecDepth 8000
namespace Go.Proofs.Ytgnaomgcfliamaa
open Go.RowKit Plain

set_option maxHeartbeats 1000000 in
theorem flyRecodes_bad (a : Nat) (n : Int) (hn : n < 0 ∨ 300 < n)
    (HRC : Hid (∀ w, Calls Try.prog 18 #[.agg #[.int .u64 (dgl (a) 0 : Nat), .int .u64 (dgl (a) 1 : Nat), .int .u64 (dgl (a) 2 : Nat), .int .u64 (dgl (a) 3 : Nat), .int .u64 (dgl (a) 4 : Nat), .int .u64 (dgl (a) 5 : Nat), .int .u64 (dgl (a) 6 : Nat), .int .u64 (dgl (a) 7 : Nat)], .int .i64 n] w fun e w' => e = .returned (.tuple #[.slice none 0 0, .bool false]) ∧ Below w.heap.size w w')) (HAW : Hid (∀ w, Calls Try.prog 7 #[] w fun e w' => e = .returned (.bool true) ∧ Below w.heap.size w w')) (w : World) :
    Calls Try.prog 5 #[.agg #[.int .u64 (dgl (a) 0 : Nat), .int .u64 (dgl (a) 1 : Nat), .int .u64 (dgl (a) 2 : Nat), .int .u64 (dgl (a) 3 : Nat), .int .u64 (dgl (a) 4 : Nat), .int .u64 (dgl (a) 5 : Nat), .int .u64 (dgl (a) 6 : Nat), .int .u64 (dgl (a) 7 : Nat)], .int .i64 n] w fun e w' => e = .returned (.bool true) ∧ Below w.heap.size w w' := by
  have HN := hide hn
  clear hn
  have HS : Hid (LiesF (w.alloc (.cells #[.int .u64 (dgl (a) 0 : Nat), .int .u64 (dgl (a) 1 : Nat), .int .u64 (dgl (a) 2 : Nat), .int .u64 (dgl (a) 3 : Nat), .int .u64 (dgl (a) 4 : Nat), .int .u64 (dgl (a) 5 : Nat), .int .u64 (dgl (a) 6 : Nat), .int .u64 (dgl (a) 7 : Nat)] 26)) w.heap.size (dgl a) ∧ Below w.heap.size w (w.alloc (.cells #[.int .u64 (dgl (a) 0 : Nat), .int .u64 (dgl (a) 1 : Nat), .int .u64 (dgl (a) 2 : Nat), .int .u64 (dgl (a) 3 : Nat), .int .u64 (dgl (a) 4 : Nat), .int .u64 (dgl (a) 5 : Nat), .int .u64 (dgl (a) 6 : Nat), .int .u64 (dgl (a) 7 : Nat)] 26))) := ⟨liesF_new w (dgl a) _, below_allocs w _⟩
  go_enter Try.func5, Try.ntmps5
  have hla := HS.out.1.1
  go_wp2_with fail
  refine (HRC.out _).mono ?_
  rintro e w1 ⟨rfl, hb1⟩
  have HB := hide (below_trans HS.out.2 hb1)
  clear hb1 HS hla HRC
  rcases HN.out with h | h
  · go_wp2_with fail
    refine (HAW.out _).mono ?_
    rintro e w2 ⟨rfl, hb2⟩
    have HB2 := hide (below_trans HB.out hb2)
    clear hb2 HB
    go_wp2
    go_ret
    exact ⟨rfl, HB2.out⟩
  · have h0 : ¬ n < 0 := by omega
    go_wp2_with fail
    refine (HAW.out _).mono ?_
    rintro e w2 ⟨rfl, hb2⟩
    have HB2 := hide (below_trans HB.out hb2)
    clear hb2 HB
    go_wp2
    go_ret
    exact ⟨rfl, HB2.out⟩

set_option maxHeartbeats 1000000 in
theorem flyRecodes_few (a n : Nat) (hn : n ≤ 300)
    (HRC : Hid (∀ w, Calls Try.prog 18 #[.agg #[.int .u64 (dgl (a) 0 : Nat), .int .u64 (dgl (a) 1 : Nat), .int .u64 (dgl (a) 2 : Nat), .int .u64 (dgl (a) 3 : Nat), .int .u64 (dgl (a) 4 : Nat), .int .u64 (dgl (a) 5 : Nat), .int .u64 (dgl (a) 6 : Nat), .int .u64 (dgl (a) 7 : Nat)], .int .i64 (n : Nat)] w fun e w' => e = .returned (.tuple #[.slice none 0 0, .bool false]) ∧ Below w.heap.size w w'))
    (HRF : Hid (∀ w, Calls Try.prog 19 #[.agg #[.int .u64 (dgl (a) 0 : Nat), .int .u64 (dgl (a) 1 : Nat), .int .u64 (dgl (a) 2 : Nat), .int .u64 (dgl (a) 3 : Nat), .int .u64 (dgl (a) 4 : Nat), .int .u64 (dgl (a) 5 : Nat), .int .u64 (dgl (a) 6 : Nat), .int .u64 (dgl (a) 7 : Nat)], .int .i64 (n : Nat)] w fun e w' => ∃ v, e = .returned (.tuple #[v, .bool false]) ∧ Below w.heap.size w w')) (HAW : Hid (∀ w, Calls Try.prog 7 #[] w fun e w' => e = .returned (.bool true) ∧ Below w.heap.size w w')) (w : World) :
    Calls Try.prog 5 #[.agg #[.int .u64 (dgl (a) 0 : Nat), .int .u64 (dgl (a) 1 : Nat), .int .u64 (dgl (a) 2 : Nat), .int .u64 (dgl (a) 3 : Nat), .int .u64 (dgl (a) 4 : Nat), .int .u64 (dgl (a) 5 : Nat), .int .u64 (dgl (a) 6 : Nat), .int .u64 (dgl (a) 7 : Nat)], .int .i64 (n : Nat)] w fun e w' => e = .returned (.bool true) ∧ Below w.heap.size w w' := by
  have h0 : ¬ (n : Int) < 0 := by omega
  have h3 : ¬ 300 < (n : Int) := by omega
  have HS : Hid (LiesF (w.alloc (.cells #[.int .u64 (dgl (a) 0 : Nat), .int .u64 (dgl (a) 1 : Nat), .int .u64 (dgl (a) 2 : Nat), .int .u64 (dgl (a) 3 : Nat), .int .u64 (dgl (a) 4 : Nat), .int .u64 (dgl (a) 5 : Nat), .int .u64 (dgl (a) 6 : Nat), .int .u64 (dgl (a) 7 : Nat)] 26)) w.heap.size (dgl a) ∧ Below w.heap.size w (w.alloc (.cells #[.int .u64 (dgl (a) 0 : Nat), .int .u64 (dgl (a) 1 : Nat), .int .u64 (dgl (a) 2 : Nat), .int .u64 (dgl (a) 3 : Nat), .int .u64 (dgl (a) 4 : Nat), .int .u64 (dgl (a) 5 : Nat), .int .u64 (dgl (a) 6 : Nat), .int .u64 (dgl (a) 7 : Nat)] 26))) := ⟨liesF_new w (dgl a) _, below_allocs w _⟩
  go_enter Try.func5, Try.ntmps5
  have hla := HS.out.1.1
  go_wp2_with fail
  refine (HRC.out _).mono ?_
  rintro e w1 ⟨rfl, hb1⟩
  replace HS := hide (show LiesF w1 w.heap.size (dgl a) ∧ Below w.heap.size w w1 from ⟨HS.out.1.below hb1, below_trans HS.out.2 hb1⟩)
  clear hb1 hla HRC
  have hla := HS.out.1.1
  go_wp2_with fail
  refine (HRF.out _).mono ?_
  rintro e w2 ⟨v, rfl, hb2⟩
  have HB := hide (below_trans HS.out.2 hb2)
  clear hb2 HS hla HRF
  go_wp2_with fail
  refine (HAW.out _).mono ?_
  rintro e w3 ⟨rfl, hb3⟩
  have HB2 := hide (below_trans HB.out hb3)
  clear hb3 HB
  go_wp2
  go_ret
  exact ⟨rfl, HB2.out⟩

set_option maxHeartbeats 2000000 in
theorem flyRecodes_yes (a n : Nat) (L : List Nat) (hn : n ≤ 300) (HQ : Hid (∀ w, (Op.equalIn 10000 26 (.agg #[.int .u64 (dgl (a) 0 : Nat), .int .u64 (dgl (a) 1 : Nat), .int .u64 (dgl (a) 2 : Nat), .int .u64 (dgl (a) 3 : Nat), .int .u64 (dgl (a) 4 : Nat), .int .u64 (dgl (a) 5 : Nat), .int .u64 (dgl (a) 6 : Nat), .int .u64 (dgl (a) 7 : Nat)]) (.agg #[.int .u64 (dgl (a) 0 : Nat), .int .u64 (dgl (a) 1 : Nat), .int .u64 (dgl (a) 2 : Nat), .int .u64 (dgl (a) 3 : Nat), .int .u64 (dgl (a) 4 : Nat), .int .u64 (dgl (a) 5 : Nat), .int .u64 (dgl (a) 6 : Nat), .int .u64 (dgl (a) 7 : Nat)])).run Try.prog w = .ok true w))
    (HRC : Hid (∀ w, Calls Try.prog 18 #[.agg #[.int .u64 (dgl (a) 0 : Nat), .int .u64 (dgl (a) 1 : Nat), .int .u64 (dgl (a) 2 : Nat), .int .u64 (dgl (a) 3 : Nat), .int .u64 (dgl (a) 4 : Nat), .int .u64 (dgl (a) 5 : Nat), .int .u64 (dgl (a) 6 : Nat), .int .u64 (dgl (a) 7 : Nat)], .int .i64 (n : Nat)] w fun e w' => ∃ v, e = .returned (.tuple #[v, .bool true]) ∧ Rd mkZ w' v L ∧ Below w.heap.size w w'))
    (HRF : Hid (∀ w, Calls Try.prog 19 #[.agg #[.int .u64 (dgl (a) 0 : Nat), .int .u64 (dgl (a) 1 : Nat), .int .u64 (dgl (a) 2 : Nat), .int .u64 (dgl (a) 3 : Nat), .int .u64 (dgl (a) 4 : Nat), .int .u64 (dgl (a) 5 : Nat), .int .u64 (dgl (a) 6 : Nat), .int .u64 (dgl (a) 7 : Nat)], .int .i64 (n : Nat)] w fun e w' => ∃ v, e = .returned (.tuple #[v, .bool true]) ∧ Rd mkZ w' v L ∧ Below w.heap.size w w'))
    (HCV : Hid (∀ v w, Rd mkZ w v L → Calls Try.prog 8 #[v] w fun e w' => e = .returned (.tuple #[.agg #[.int .u64 (dgl (a) 0 : Nat), .int .u64 (dgl (a) 1 : Nat), .int .u64 (dgl (a) 2 : Nat), .int .u64 (dgl (a) 3 : Nat), .int .u64 (dgl (a) 4 : Nat), .int .u64 (dgl (a) 5 : Nat), .int .u64 (dgl (a) 6 : Nat), .int .u64 (dgl (a) 7 : Nat)], .bool true]) ∧ Below w.heap.size w w'))
    (HSM : Hid (∀ u v w, Rd mkZ w u L → Rd mkZ w v L → Calls Try.prog 20 #[u, v] w fun e w' => e = .returned (.bool true) ∧ Below w.heap.size w w')) (HAW : Hid (∀ w, Calls Try.prog 7 #[] w fun e w' => e = .returned (.bool true) ∧ Below w.heap.size w w')) (w : World) :
    Calls Try.prog 5 #[.agg #[.int .u64 (dgl (a) 0 : Nat), .int .u64 (dgl (a) 1 : Nat), .int .u64 (dgl (a) 2 : Nat), .int .u64 (dgl (a) 3 : Nat), .int .u64 (dgl (a) 4 : Nat), .int .u64 (dgl (a) 5 : Nat), .int .u64 (dgl (a) 6 : Nat), .int .u64 (dgl (a) 7 : Nat)], .int .i64 (n : Nat)] w fun e w' => e = .returned (.bool true) ∧ Below w.heap.size w w' := by
  have h0 : ¬ (n : Int) < 0 := by omega
  have h3 : ¬ 300 < (n : Int) := by omega
  have HS : Hid (LiesF (w.alloc (.cells #[.int .u64 (dgl (a) 0 : Nat), .int .u64 (dgl (a) 1 : Nat), .int .u64 (dgl (a) 2 : Nat), .int .u64 (dgl (a) 3 : Nat), .int .u64 (dgl (a) 4 : Nat), .int .u64 (dgl (a) 5 : Nat), .int .u64 (dgl (a) 6 : Nat), .int .u64 (dgl (a) 7 : Nat)] 26)) w.heap.size (dgl a) ∧ Below w.heap.size w (w.alloc (.cells #[.int .u64 (dgl (a) 0 : Nat), .int .u64 (dgl (a) 1 : Nat), .int .u64 (dgl (a) 2 : Nat), .int .u64 (dgl (a) 3 : Nat), .int .u64 (dgl (a) 4 : Nat), .int .u64 (dgl (a) 5 : Nat), .int .u64 (dgl (a) 6 : Nat), .int .u64 (dgl (a) 7 : Nat)] 26))) := ⟨liesF_new w (dgl a) _, below_allocs w _⟩
  go_enter Try.func5, Try.ntmps5
  have hla := HS.out.1.1
  go_wp2_with fail
  refine (HRC.out _).mono ?_
  rintro e w1 ⟨u, rfl, hu, hb1⟩
  replace HS := hide (show LiesF w1 w.heap.size (dgl a) ∧ Below w.heap.size w w1 from ⟨HS.out.1.below hb1, below_trans HS.out.2 hb1⟩)
  have HU := hide hu
  clear hb1 hla hu HRC
  have hla := HS.out.1.1
  go_wp2_with fail
  refine (HRF.out _).mono ?_
  rintro e w2 ⟨v, rfl, hv, hb2⟩
  replace HS := hide (show LiesF w2 w.heap.size (dgl a) ∧ Below w.heap.size w w2 from ⟨HS.out.1.below hb2, below_trans HS.out.2 hb2⟩)
  replace HU := hide (HU.out.below hb2)
  have HV := hide hv
  clear hb2 hla hv HRF
  go_wp2_with fail
  refine (HCV.out _ _ HU.out).mono ?_
  rintro e w3 ⟨rfl, hb3⟩
  replace HS := hide (show LiesF w3 w.heap.size (dgl a) ∧ Below w.heap.size w w3 from ⟨HS.out.1.below hb3, below_trans HS.out.2 hb3⟩)
  replace HU := hide (HU.out.below hb3)
  replace HV := hide (HV.out.below hb3)
  clear hb3 HCV
  go_upto_region 8 with fail
  have hbw := below_allocs w3 (.cells #[.int .u64 (dgl (a) 0 : Nat), .int .u64 (dgl (a) 1 : Nat), .int .u64 (dgl (a) 2 : Nat), .int .u64 (dgl (a) 3 : Nat), .int .u64 (dgl (a) 4 : Nat), .int .u64 (dgl (a) 5 : Nat), .int .u64 (dgl (a) 6 : Nat), .int .u64 (dgl (a) 7 : Nat)] 26)
  refine wp_gen (fun W => LiesF W w.heap.size (dgl a) ∧ Below w.heap.size w W ∧ Rd mkZ W u L ∧ Rd mkZ W v L ∧ LiesF W w3.heap.size (dgl a)) ⟨HS.out.1.below hbw, below_trans HS.out.2 hbw, HU.out.below hbw, HV.out.below hbw, liesF_new w3 (dgl a) _⟩ ?_
  clear HS HU HV hbw
  generalize w3.heap.size = p9 at *
  rintro W8 h8
  have HS := hide h8
  clear h8
  go_wp2_with fail
  refine (HSM.out _ _ _ HS.out.2.2.1 HS.out.2.2.2.1).mono ?_
  rintro e w4 ⟨rfl, hb4⟩
  have HS2 : Hid (LiesF w4 w.heap.size (dgl a) ∧ Below w.heap.size w w4 ∧ LiesF w4 p9 (dgl a)) := ⟨HS.out.1.below hb4, below_trans HS.out.2.1 hb4, HS.out.2.2.2.2.below hb4⟩
  clear HS hb4 HSM
  have hla := HS2.out.1.1
  have hl9 := HS2.out.2.2.1
  have hq := HQ.out
  go_wp2_with fail
  refine (HAW.out _).mono ?_
  rintro e w5 ⟨rfl, hb5⟩
  have HB := hide (below_trans HS2.out.2.1 hb5)
  clear hb5 HS2 hla hl9 hq
  go_wp2
  go_ret
  exact ⟨rfl, HB.out⟩

theorem pZ_rec {a n : Nat} {L : List Nat} (h : RL a n L) (h0 : rQ a n = 0) : ∀ k, k ≤ n → pZ L k = (rQ a (n - k) : Int)
  | 0, _ => by
    rw [Nat.sub_zero, h0]
    rfl
  | k + 1, hk => by
    have ih := pZ_rec h h0 k (by omega)
    have h1 := h.2 k (by omega)
    have h2 := sp_eq (rQ a (n - (k + 1)))
    have e1 : spQ (rQ a (n - (k + 1))) = rQ a (n - k) := by
      rw [show n - k = (n - (k + 1)) + 1 by omega]
      rfl
    rw [e1] at h2
    have h3 := spD_bd (rQ a (n - (k + 1)))
    have h4 : zof (dg L k) = spD (rQ a (n - (k + 1))) := by
      rw [h1, show n - 1 - k = n - (k + 1) by omega]
      exact zof_nof (by omega)
    show 4 * pZ L k + zof (dg L k) = _
    rw [ih, h4, ← h2]
theorem rl_all {a n : Nat} {L : List Nat} (h : RL a n L) : allD L L.length := by
  intro i hi
  rw [h.1] at hi
  rw [h.2 i hi]
  have h3 := spD_bd (rQ a (n - 1 - i))
  rw [zof_nof (by omega), isD_iff]
  omega
theorem rl_unique {a n : Nat} {L M : List Nat} (h : RL a n L) (k : RL a n M) : L = M := by
  apply List.ext_getElem
  · rw [h.1, k.1]
  · intro i h1 h2
    have e1 := h.2 i (by rw [← h.1]; exact h1)
    have e2 := k.2 i (by rw [← h.1]; exact h1)
    simp [dg, h1] at e1
    simp [dg, h2] at e2
    rw [e1, e2]
/-- The document's digits. -/
def rList (a : Nat) : Nat → List Nat
  | 0 => []
  | k + 1 => [nof (spD (rQ a k))] ++ rList a k
theorem rl_list (a : Nat) : ∀ k, RL a k (rList a k)
  | 0 => ⟨rfl, fun i hi => absurd hi (by omega)⟩
  | k + 1 => (rl_list a k).cons _ rfl

theorem flyRecodes_any (a : Nat) (n : Int) (ha : a < QQ) (w : World) :
    Calls Try.prog 5 #[.agg #[.int .u64 (dgl (a) 0 : Nat), .int .u64 (dgl (a) 1 : Nat), .int .u64 (dgl (a) 2 : Nat), .int .u64 (dgl (a) 3 : Nat), .int .u64 (dgl (a) 4 : Nat), .int .u64 (dgl (a) 5 : Nat), .int .u64 (dgl (a) 6 : Nat), .int .u64 (dgl (a) 7 : Nat)], .int .i64 n] w fun e w' => e = .returned (.bool true) ∧ Below w.heap.size w w' := by
  by_cases hn : n < 0 ∨ 300 < n
  · exact flyRecodes_bad a n hn (fun w => recode_no a n hn w) (fun w => awake13_any w) w
  · obtain ⟨m, rfl⟩ : ∃ m : Nat, n = (m : Int) := ⟨n.toNat, by omega⟩
    have hm : m ≤ 300 := by omega
    by_cases h0 : rQ a m = 0
    · have hq := fun w => wide_eqb ha ha w
      rw [decide_eq_true rfl] at hq
      have hl := rl_list a m
      refine flyRecodes_yes a m (rList a m) hm hq (fun w => ?_) (fun w => ?_) (fun v w hv => ?_) (fun u v w hu hv => ?_) (fun w => awake13_any w) w
      · refine (recode_any a m ha hm w).mono ?_
        rintro e w' ⟨hb, h | h⟩
        · obtain ⟨_, v, L, rfl, hr, h1, h2⟩ := h
          rw [rl_unique ⟨h1, h2⟩ hl] at hr
          exact ⟨v, rfl, hr, hb⟩
        · exact absurd h0 h.1
      · refine (refRecode_any a m ha hm w).mono ?_
        rintro e w' ⟨v, L, rfl, hr, h1, hb⟩
        rw [rl_unique h1 hl] at hr
        exact ⟨v, by rw [decide_eq_true h0], hr, hb⟩
      · refine (convert_yes (rList a m) v w hv (by rw [hl.1]; omega) (rl_all hl)).mono ?_
        rintro e w' ⟨rfl, hb⟩
        have e1 : qz (pZ (rList a m) (rList a m).length) = a := by
          rw [hl.1, pZ_rec hl h0 m (Nat.le_refl _), Nat.sub_self]
          exact qz_nat ha
        rw [e1]
        exact ⟨rfl, hb⟩
      · exact same13_any _ _ u v w hu hv (by rw [hl.1]; omega) rfl (fun i hi => rfl)
    · refine flyRecodes_few a m hm (fun w => ?_) (fun w => ?_) (fun w => awake13_any w) w
      · refine (recode_any a m ha hm w).mono ?_
        rintro e w' ⟨hb, h | h⟩
        · exact absurd h.1 h0
        · exact ⟨h.2, hb⟩
      · refine (refRecode_any a m ha hm w).mono ?_
        rintro e w' ⟨v, L, rfl, hr, h1, hb⟩
        exact ⟨v, by rw [decide_eq_false h0], hb⟩
end Go.Proofs.Ytgnaomgcfliamaa

/- For all wides and ints the law radicandlaw13.FlyRecodes returns true and leaves what came in as it was. No conditions. -/
namespace Go.Proofs.Ytgnaomgcfliamaa.flyRecodes
open Go.ChangeShapes Go.WideShapes Go.ChangeAt Go.RowKit Go.Proofs.Ytgnaomgcfliamaa

theorem own : ownKnob Try.prog.godebug = none := by kernel_rfl
theorem laidOut : laidOutB Try.prog = true := by kernel_rfl

set_option maxRecDepth 100000 in
theorem lifted (os : Os) (started : os.Started) (H : Type) (enc : TypeId × Value → H) :
    ReturnsInHanded {} Try.checked os 5 .any (Rows.flyRecodesSpec.pre6 enc Try.prog Try.f5 Rows.flyRecodesRow.domain false) (Rows.flyRecodesSpec.post enc Try.prog Try.f5 false true false false) := by
  refine returnsInHanded_of_change (C := Try.checked) own started (by kernel_rfl) Try.func5
    (ChangeSpec.witness6 (enc := enc) (C := Try.checked) false ⟨#[], #[.agg #[.int .u64 0, .int .u64 0, .int .u64 0, .int .u64 0, .int .u64 0, .int .u64 0, .int .u64 0, .int .u64 0], .int .i64 0], []⟩ 40 (by kernel_rfl) (by kernel_rfl) (by kernel_rfl) (by kernel_rfl)) ?_
  intro W base args ds gs before hval0 hW hcnd _
  have hval : ∀ (j : Nat) t v, Try.f5.params[j]? = some t → args[j]? = some v → Value.okWide Try.prog W .any base t v := hval0
  have hW' := hW
  obtain ⟨p, q, hA0, hV, rfl, hfz, hnd⟩ := hW
  have hA : DataW.TrodAll enc Try.prog W 0 (fun _ => true) true Try.f5.params.toList args.toList ds p := hA0
  rw [Try.params5] at hA hval
  obtain ⟨v0, vs0, d0, ds0, p0, q0, hargs, rfl, rfl, h0, r0⟩ := trodAll_cons hA
  obtain ⟨v1, vs1, d1, ds1, p1, q1, rfl, rfl, rfl, h1, r1⟩ := trodAll_cons r0
  obtain ⟨rfl, rfl, rfl⟩ := trodAll_nil r1
  obtain rfl : args = #[v0, v1] := by cases args; simp_all
  obtain ⟨rfl, rfl⟩ := trodVars_none hV
  have k0 := h0
  have lt0 : ∀ x ∈ p0, x.block < W.heap.size := by obtain ⟨m, hm⟩ := k0; exact DataW.trod_lt m _ _ _ hm
  have k1 := h1
  have lt1 : ∀ x ∈ p1, x.block < W.heap.size := by obtain ⟨m, hm⟩ := k1; exact DataW.trod_lt m _ _ _ hm
  obtain ⟨x0, hx0, rfl⟩ := wide_of_trod (hval 0 26 v0 rfl rfl) h0
  obtain ⟨a1, rfl, rfl, rfl, wf1⟩ := open_int Try.underlying3 (hval 1 3 v1 rfl rfl) h1
  clear hA0 hval0
  refine (flyRecodes_any x0 a1 hx0 W).mono fun e W' ⟨he, bel⟩ => ?_
  subst he
  exact ⟨_, rfl, _, _, _, [], _, [], hW', trodAll_mk1 (shut_bool Try.underlying4 _), (trodAll_cons_mk (Below.trod laidOut (by kernel_rfl) (of_decide_eq_true (by kernel_rfl)) k0 bel lt0) (trodAll_cons_mk (Below.trod laidOut (by kernel_rfl) (of_decide_eq_true (by kernel_rfl)) k1 bel lt1) trodAll_mk0)), rfl, bel.frame _, fun h => by cases h⟩

theorem over : Rows.flyRecodesRow.holds Try.pinned (OpenSpec.ofChange Rows.flyRecodesSpec) :=
  OpenClaim.holds_of_wide 5 Try.f5 rfl rfl rfl rfl rfl rfl rfl ⟨rfl, rfl, rfl, rfl, rfl⟩ rfl rfl rfl rfl rfl (by kernel_rfl) Try.func5 (by kernel_rfl)
    (of_decide_eq_true (by kernel_rfl)) (by unfold Func.isWrapper; first | (rw [if_pos (by decide +kernel)]; kernel_rfl) | (rw [if_neg (by decide +kernel)]; exact ⟨rfl, rfl⟩))
    (fun os started H enc _ => lifted os started H enc)

theorem proved : Rows.FlyRecodesSaid := over
#print axioms proved
end Go.Proofs.Ytgnaomgcfliamaa.flyRecodes

