/- For all wides and ints the law radicandlaw15.SrtLeft returns true and leaves what came in as it was. Conditions: those of the tied card (the table of rows is laid as the program lays it). -/
import Derived.Test.YtbngaajhdaciaaaDoorPartAV
import Derived.Test.YtbngaajhdaciaaaDoorPartAG
import Derived.Test.YtbngaajhdaciaaaDoorRows
import Derived.Test.YtbngaajhdaciaaaDoorTie
import Derived.Test.YtbngaajhdaciaaaDoorCards
import Derived.LaidMore
import Derived.Stop.Joined
import Derived.SevenTiedAt
import Derived.WalkKit
import Derived.ProofKit
import Derived.OpenShut
import Derived.ShutString
import Derived.ChangeOld
import Derived.Below
/- For all wides and ints the law radicandlaw15.SrtLeft returns true. -/
set_option linter.unusedVariables false
set_option linter.unusedSimpArgs false
set_option maxRecDepth 8000
namespace Go.Proofs.YtbngaajhdaciaaaDoor
open Go.RowKit Plain

set_option maxHeartbeats 8000000 in
theorem srtLeft_N1 (n d k a x : Nat) (s : Int) (hk : Go.bitLen d = k) (hkk : k = 0 ∨ 120 < k) (hk5 : k ≤ 512) (hz : s < 0 ∨ 65 < s)
    (HL : Hid (∀ w, TabG w → Calls Tryd.prog 14 #[.agg #[.int .u64 (dgl (n) 0 : Nat), .int .u64 (dgl (n) 1 : Nat), .int .u64 (dgl (n) 2 : Nat), .int .u64 (dgl (n) 3 : Nat), .int .u64 (dgl (n) 4 : Nat), .int .u64 (dgl (n) 5 : Nat), .int .u64 (dgl (n) 6 : Nat), .int .u64 (dgl (n) 7 : Nat)], .agg #[.int .u64 (dgl (d) 0 : Nat), .int .u64 (dgl (d) 1 : Nat), .int .u64 (dgl (d) 2 : Nat), .int .u64 (dgl (d) 3 : Nat), .int .u64 (dgl (d) 4 : Nat), .int .u64 (dgl (d) 5 : Nat), .int .u64 (dgl (d) 6 : Nat), .int .u64 (dgl (d) 7 : Nat)], .int .i64 s] w fun e w' => e = .returned (.tuple #[.agg #[.int .u64 (dgl (a) 0 : Nat), .int .u64 (dgl (a) 1 : Nat), .int .u64 (dgl (a) 2 : Nat), .int .u64 (dgl (a) 3 : Nat), .int .u64 (dgl (a) 4 : Nat), .int .u64 (dgl (a) 5 : Nat), .int .u64 (dgl (a) 6 : Nat), .int .u64 (dgl (a) 7 : Nat)], .bool false, .int .i64 4]) ∧ Below w.heap.size w w'))
    (HNO : Hid (∀ w, Calls Tryd.prog 15 #[.agg #[.int .u64 (dgl (d) 0 : Nat), .int .u64 (dgl (d) 1 : Nat), .int .u64 (dgl (d) 2 : Nat), .int .u64 (dgl (d) 3 : Nat), .int .u64 (dgl (d) 4 : Nat), .int .u64 (dgl (d) 5 : Nat), .int .u64 (dgl (d) 6 : Nat), .int .u64 (dgl (d) 7 : Nat)]] w fun e w' => e = .returned (.tuple #[.agg #[.int .u64 (dgl (x) 0 : Nat), .int .u64 (dgl (x) 1 : Nat), .int .u64 (dgl (x) 2 : Nat), .int .u64 (dgl (x) 3 : Nat), .int .u64 (dgl (x) 4 : Nat), .int .u64 (dgl (x) 5 : Nat), .int .u64 (dgl (x) 6 : Nat), .int .u64 (dgl (x) 7 : Nat)], .int .i64 0, .bool false]) ∧ Below w.heap.size w w'))
    (HBD : Hid (∀ w, Calls Tryd.prog 16 #[.agg #[.int .u64 (dgl (d) 0 : Nat), .int .u64 (dgl (d) 1 : Nat), .int .u64 (dgl (d) 2 : Nat), .int .u64 (dgl (d) 3 : Nat), .int .u64 (dgl (d) 4 : Nat), .int .u64 (dgl (d) 5 : Nat), .int .u64 (dgl (d) 6 : Nat), .int .u64 (dgl (d) 7 : Nat)]] w fun e w' => ∃ v, e = .returned v ∧ BigV w' v d 40 ∧ Below w.heap.size w w'))
    (HAW : Hid (∀ w, TabG w → Calls Tryd.prog 9 #[] w fun e w' => e = .returned (.bool true) ∧ Below w.heap.size w w'))
    (hqa : ∀ w, (Op.equalIn 10000 24 (.agg #[.int .u64 (dgl (a) 0 : Nat), .int .u64 (dgl (a) 1 : Nat), .int .u64 (dgl (a) 2 : Nat), .int .u64 (dgl (a) 3 : Nat), .int .u64 (dgl (a) 4 : Nat), .int .u64 (dgl (a) 5 : Nat), .int .u64 (dgl (a) 6 : Nat), .int .u64 (dgl (a) 7 : Nat)]) (.agg #[.int .u64 0, .int .u64 0, .int .u64 0, .int .u64 0, .int .u64 0, .int .u64 0, .int .u64 0, .int .u64 0])).run Tryd.prog w = .ok true w)
    (hqx : ∀ w, (Op.equalIn 10000 24 (.agg #[.int .u64 (dgl (x) 0 : Nat), .int .u64 (dgl (x) 1 : Nat), .int .u64 (dgl (x) 2 : Nat), .int .u64 (dgl (x) 3 : Nat), .int .u64 (dgl (x) 4 : Nat), .int .u64 (dgl (x) 5 : Nat), .int .u64 (dgl (x) 6 : Nat), .int .u64 (dgl (x) 7 : Nat)]) (.agg #[.int .u64 0, .int .u64 0, .int .u64 0, .int .u64 0, .int .u64 0, .int .u64 0, .int .u64 0, .int .u64 0])).run Tryd.prog w = .ok true w) (w : World) (hg : TabG w) :
    Calls Tryd.prog 5 #[.agg #[.int .u64 (dgl (n) 0 : Nat), .int .u64 (dgl (n) 1 : Nat), .int .u64 (dgl (n) 2 : Nat), .int .u64 (dgl (n) 3 : Nat), .int .u64 (dgl (n) 4 : Nat), .int .u64 (dgl (n) 5 : Nat), .int .u64 (dgl (n) 6 : Nat), .int .u64 (dgl (n) 7 : Nat)], .agg #[.int .u64 (dgl (d) 0 : Nat), .int .u64 (dgl (d) 1 : Nat), .int .u64 (dgl (d) 2 : Nat), .int .u64 (dgl (d) 3 : Nat), .int .u64 (dgl (d) 4 : Nat), .int .u64 (dgl (d) 5 : Nat), .int .u64 (dgl (d) 6 : Nat), .int .u64 (dgl (d) 7 : Nat)], .int .i64 s] w fun e w' => e = .returned (.bool true) ∧ Below w.heap.size w w' := by
  have HZ := hide hz
  clear hz
  have hkz : (k : Int) = 0 ∨ (¬ (k : Int) = 0 ∧ ((k : Int) == 0) = false ∧ 120 < (k : Int)) := by
    rcases hkk with h | h
    · exact .inl (by omega)
    · exact .inr ⟨by omega, by rw [beq_eq_false_iff_ne]; omega, by omega⟩
  have HS := hide (twSt_start n d w 24 24)
  have HT := hide hg
  clear hg
  go_enter Tryd.func5, Tryd.ntmps5
  have hca := HS.out.la.1
  have hcb := HS.out.lb.1
  go_wp2_with fail
  refine (HL.out _ (HT.out.below HS.out.bel)).mono ?_
  rintro e' w1 ⟨rfl, hb1⟩
  replace HS := hide (HS.out.below hb1)
  clear hb1 hca hcb HL
  go_upto_region 2 with fail
  refine wp_gen (fun W => TwSt n d w W ∧ LiesF W w1.heap.size (dgl a)) ⟨HS.out.below (below_allocs _ _), liesF_new w1 (dgl a) _⟩ ?_
  clear HS
  generalize w1.heap.size = p7 at *
  rintro W2 h2
  have HS := hide h2
  have hcb := h2.1.lb.1
  clear h2
  go_wp2_with fail
  refine (HNO.out _).mono ?_
  rintro e' w2 ⟨rfl, hb2⟩
  replace HS := hide (show TwSt n d w w2 ∧ LiesF w2 p7 (dgl a) from ⟨HS.out.1.below hb2, HS.out.2.below hb2⟩)
  clear hb2 hcb HNO
  go_upto_region 3 with fail
  refine wp_gen (fun W => TwSt n d w W ∧ LiesF W p7 (dgl a) ∧ LiesF W w2.heap.size (dgl x)) ⟨HS.out.1.below (below_allocs _ _), HS.out.2.below (below_allocs _ _), liesF_new w2 (dgl x) _⟩ ?_
  clear HS
  generalize w2.heap.size = p10 at *
  rintro W3 h3
  have HS := hide h3
  have hcb := h3.1.lb.1
  clear h3
  go_wp2_with fail
  refine (HBD.out _).mono ?_
  rintro e' w3 ⟨v, rfl, hv, hb3⟩
  replace HS := hide (show TwSt n d w w3 ∧ LiesF w3 p7 (dgl a) ∧ LiesF w3 p10 (dgl x) from ⟨HS.out.1.below hb3, HS.out.2.1.below hb3, HS.out.2.2.below hb3⟩)
  have HV := hide hv
  clear hb3 hcb HBD hv
  have HLN := hide (refLen_any d 40 v w3 HV.out (by decide))
  rw [hk] at HLN
  go_wp2_with fail
  refine HLN.out.mono ?_
  rintro e' w4 ⟨rfl, hw⟩
  subst w4
  clear HLN
  have hx10 := HS.out.2.2.1
  clear HV
  rcases hkz with hk0 | ⟨hk0, hk3, hk4⟩
  · rw [hk0]
    have ha7 := HS.out.2.1.1
    have HB := hide HS.out.1.bel
    rcases HZ.out with h | h
    · skip
      clear HS
      go_wp2_with fail
      refine (HAW.out _ (HT.out.below HB.out)).mono ?_
      rintro e' w9 ⟨rfl, hb9⟩
      replace HB := hide (below_trans HB.out hb9)
      clear hb9
      go_wp2
      go_ret
      exact ⟨rfl, HB.out⟩
    · have h0 : ¬ s < 0 := by omega
      clear HS
      go_wp2_with fail
      refine (HAW.out _ (HT.out.below HB.out)).mono ?_
      rintro e' w9 ⟨rfl, hb9⟩
      replace HB := hide (below_trans HB.out hb9)
      clear hb9
      go_wp2
      go_ret
      exact ⟨rfl, HB.out⟩
  · skip
    have ha7 := HS.out.2.1.1
    have HB := hide HS.out.1.bel
    rcases HZ.out with h | h
    · skip
      clear HS
      go_wp2_with fail
      refine (HAW.out _ (HT.out.below HB.out)).mono ?_
      rintro e' w9 ⟨rfl, hb9⟩
      replace HB := hide (below_trans HB.out hb9)
      clear hb9
      go_wp2
      go_ret
      exact ⟨rfl, HB.out⟩
    · have h0 : ¬ s < 0 := by omega
      clear HS
      go_wp2_with fail
      refine (HAW.out _ (HT.out.below HB.out)).mono ?_
      rintro e' w9 ⟨rfl, hb9⟩
      replace HB := hide (below_trans HB.out hb9)
      clear hb9
      go_wp2
      go_ret
      exact ⟨rfl, HB.out⟩

set_option maxHeartbeats 8000000 in
theorem srtLeft_N2 (n d k a x : Nat) (s m : Int) (hk : Go.bitLen d = k) (hkk : k = 0 ∨ 120 < k) (hk5 : k ≤ 512) (hz : 0 ≤ s ∧ s ≤ 65) (hm : ¬ m = 0) (hm2 : (m == 0) = false)
    (HL : Hid (∀ w, TabG w → Calls Tryd.prog 14 #[.agg #[.int .u64 (dgl (n) 0 : Nat), .int .u64 (dgl (n) 1 : Nat), .int .u64 (dgl (n) 2 : Nat), .int .u64 (dgl (n) 3 : Nat), .int .u64 (dgl (n) 4 : Nat), .int .u64 (dgl (n) 5 : Nat), .int .u64 (dgl (n) 6 : Nat), .int .u64 (dgl (n) 7 : Nat)], .agg #[.int .u64 (dgl (d) 0 : Nat), .int .u64 (dgl (d) 1 : Nat), .int .u64 (dgl (d) 2 : Nat), .int .u64 (dgl (d) 3 : Nat), .int .u64 (dgl (d) 4 : Nat), .int .u64 (dgl (d) 5 : Nat), .int .u64 (dgl (d) 6 : Nat), .int .u64 (dgl (d) 7 : Nat)], .int .i64 s] w fun e w' => e = .returned (.tuple #[.agg #[.int .u64 (dgl (a) 0 : Nat), .int .u64 (dgl (a) 1 : Nat), .int .u64 (dgl (a) 2 : Nat), .int .u64 (dgl (a) 3 : Nat), .int .u64 (dgl (a) 4 : Nat), .int .u64 (dgl (a) 5 : Nat), .int .u64 (dgl (a) 6 : Nat), .int .u64 (dgl (a) 7 : Nat)], .bool false, .int .i64 m]) ∧ Below w.heap.size w w'))
    (HNO : Hid (∀ w, Calls Tryd.prog 15 #[.agg #[.int .u64 (dgl (d) 0 : Nat), .int .u64 (dgl (d) 1 : Nat), .int .u64 (dgl (d) 2 : Nat), .int .u64 (dgl (d) 3 : Nat), .int .u64 (dgl (d) 4 : Nat), .int .u64 (dgl (d) 5 : Nat), .int .u64 (dgl (d) 6 : Nat), .int .u64 (dgl (d) 7 : Nat)]] w fun e w' => e = .returned (.tuple #[.agg #[.int .u64 (dgl (x) 0 : Nat), .int .u64 (dgl (x) 1 : Nat), .int .u64 (dgl (x) 2 : Nat), .int .u64 (dgl (x) 3 : Nat), .int .u64 (dgl (x) 4 : Nat), .int .u64 (dgl (x) 5 : Nat), .int .u64 (dgl (x) 6 : Nat), .int .u64 (dgl (x) 7 : Nat)], .int .i64 0, .bool false]) ∧ Below w.heap.size w w'))
    (HBD : Hid (∀ w, Calls Tryd.prog 16 #[.agg #[.int .u64 (dgl (d) 0 : Nat), .int .u64 (dgl (d) 1 : Nat), .int .u64 (dgl (d) 2 : Nat), .int .u64 (dgl (d) 3 : Nat), .int .u64 (dgl (d) 4 : Nat), .int .u64 (dgl (d) 5 : Nat), .int .u64 (dgl (d) 6 : Nat), .int .u64 (dgl (d) 7 : Nat)]] w fun e w' => ∃ v, e = .returned v ∧ BigV w' v d 40 ∧ Below w.heap.size w w'))
    (HAW : Hid (∀ w, TabG w → Calls Tryd.prog 9 #[] w fun e w' => e = .returned (.bool true) ∧ Below w.heap.size w w'))
    (hqa : ∀ w, (Op.equalIn 10000 24 (.agg #[.int .u64 (dgl (a) 0 : Nat), .int .u64 (dgl (a) 1 : Nat), .int .u64 (dgl (a) 2 : Nat), .int .u64 (dgl (a) 3 : Nat), .int .u64 (dgl (a) 4 : Nat), .int .u64 (dgl (a) 5 : Nat), .int .u64 (dgl (a) 6 : Nat), .int .u64 (dgl (a) 7 : Nat)]) (.agg #[.int .u64 0, .int .u64 0, .int .u64 0, .int .u64 0, .int .u64 0, .int .u64 0, .int .u64 0, .int .u64 0])).run Tryd.prog w = .ok true w)
    (hqx : ∀ w, (Op.equalIn 10000 24 (.agg #[.int .u64 (dgl (x) 0 : Nat), .int .u64 (dgl (x) 1 : Nat), .int .u64 (dgl (x) 2 : Nat), .int .u64 (dgl (x) 3 : Nat), .int .u64 (dgl (x) 4 : Nat), .int .u64 (dgl (x) 5 : Nat), .int .u64 (dgl (x) 6 : Nat), .int .u64 (dgl (x) 7 : Nat)]) (.agg #[.int .u64 0, .int .u64 0, .int .u64 0, .int .u64 0, .int .u64 0, .int .u64 0, .int .u64 0, .int .u64 0])).run Tryd.prog w = .ok true w)
    (HM : Hid (∀ w, Calls Tryd.prog 11 #[.agg #[.int .u64 (dgl (n) 0 : Nat), .int .u64 (dgl (n) 1 : Nat), .int .u64 (dgl (n) 2 : Nat), .int .u64 (dgl (n) 3 : Nat), .int .u64 (dgl (n) 4 : Nat), .int .u64 (dgl (n) 5 : Nat), .int .u64 (dgl (n) 6 : Nat), .int .u64 (dgl (n) 7 : Nat)], .agg #[.int .u64 (dgl (d) 0 : Nat), .int .u64 (dgl (d) 1 : Nat), .int .u64 (dgl (d) 2 : Nat), .int .u64 (dgl (d) 3 : Nat), .int .u64 (dgl (d) 4 : Nat), .int .u64 (dgl (d) 5 : Nat), .int .u64 (dgl (d) 6 : Nat), .int .u64 (dgl (d) 7 : Nat)]] w fun e w' => e = .returned (.int .i64 m) ∧ Below w.heap.size w w')) (w : World) (hg : TabG w) :
    Calls Tryd.prog 5 #[.agg #[.int .u64 (dgl (n) 0 : Nat), .int .u64 (dgl (n) 1 : Nat), .int .u64 (dgl (n) 2 : Nat), .int .u64 (dgl (n) 3 : Nat), .int .u64 (dgl (n) 4 : Nat), .int .u64 (dgl (n) 5 : Nat), .int .u64 (dgl (n) 6 : Nat), .int .u64 (dgl (n) 7 : Nat)], .agg #[.int .u64 (dgl (d) 0 : Nat), .int .u64 (dgl (d) 1 : Nat), .int .u64 (dgl (d) 2 : Nat), .int .u64 (dgl (d) 3 : Nat), .int .u64 (dgl (d) 4 : Nat), .int .u64 (dgl (d) 5 : Nat), .int .u64 (dgl (d) 6 : Nat), .int .u64 (dgl (d) 7 : Nat)], .int .i64 s] w fun e w' => e = .returned (.bool true) ∧ Below w.heap.size w w' := by
  have HZ := hide hz
  clear hz
  have hkz : (k : Int) = 0 ∨ (¬ (k : Int) = 0 ∧ ((k : Int) == 0) = false ∧ 120 < (k : Int)) := by
    rcases hkk with h | h
    · exact .inl (by omega)
    · exact .inr ⟨by omega, by rw [beq_eq_false_iff_ne]; omega, by omega⟩
  have HS := hide (twSt_start n d w 24 24)
  have HT := hide hg
  clear hg
  go_enter Tryd.func5, Tryd.ntmps5
  have hca := HS.out.la.1
  have hcb := HS.out.lb.1
  go_wp2_with fail
  refine (HL.out _ (HT.out.below HS.out.bel)).mono ?_
  rintro e' w1 ⟨rfl, hb1⟩
  replace HS := hide (HS.out.below hb1)
  clear hb1 hca hcb HL
  go_upto_region 2 with fail
  refine wp_gen (fun W => TwSt n d w W ∧ LiesF W w1.heap.size (dgl a)) ⟨HS.out.below (below_allocs _ _), liesF_new w1 (dgl a) _⟩ ?_
  clear HS
  generalize w1.heap.size = p7 at *
  rintro W2 h2
  have HS := hide h2
  have hcb := h2.1.lb.1
  clear h2
  go_wp2_with fail
  refine (HNO.out _).mono ?_
  rintro e' w2 ⟨rfl, hb2⟩
  replace HS := hide (show TwSt n d w w2 ∧ LiesF w2 p7 (dgl a) from ⟨HS.out.1.below hb2, HS.out.2.below hb2⟩)
  clear hb2 hcb HNO
  go_upto_region 3 with fail
  refine wp_gen (fun W => TwSt n d w W ∧ LiesF W p7 (dgl a) ∧ LiesF W w2.heap.size (dgl x)) ⟨HS.out.1.below (below_allocs _ _), HS.out.2.below (below_allocs _ _), liesF_new w2 (dgl x) _⟩ ?_
  clear HS
  generalize w2.heap.size = p10 at *
  rintro W3 h3
  have HS := hide h3
  have hcb := h3.1.lb.1
  clear h3
  go_wp2_with fail
  refine (HBD.out _).mono ?_
  rintro e' w3 ⟨v, rfl, hv, hb3⟩
  replace HS := hide (show TwSt n d w w3 ∧ LiesF w3 p7 (dgl a) ∧ LiesF w3 p10 (dgl x) from ⟨HS.out.1.below hb3, HS.out.2.1.below hb3, HS.out.2.2.below hb3⟩)
  have HV := hide hv
  clear hb3 hcb HBD hv
  have HLN := hide (refLen_any d 40 v w3 HV.out (by decide))
  rw [hk] at HLN
  go_wp2_with fail
  refine HLN.out.mono ?_
  rintro e' w4 ⟨rfl, hw⟩
  subst w4
  clear HLN
  have hx10 := HS.out.2.2.1
  clear HV
  rcases hkz with hk0 | ⟨hk0, hk3, hk4⟩
  · rw [hk0]
    have h0 : ¬ s < 0 := by have := HZ.out; omega
    have h1 : ¬ 65 < s := by have := HZ.out; omega
    have hca := HS.out.1.la.1
    have hcb := HS.out.1.lb.1
    go_wp2_with fail
    refine (HM.out _).mono ?_
    rintro e' w7 ⟨rfl, hb7⟩
    have ha7 := (HS.out.2.1.below hb7).1
    have HB := hide (below_trans HS.out.1.bel hb7)
    clear hb7 HS hca hcb HM
    go_wp2_with fail
    refine (HAW.out _ (HT.out.below HB.out)).mono ?_
    rintro e' w9 ⟨rfl, hb9⟩
    replace HB := hide (below_trans HB.out hb9)
    clear hb9
    go_wp2
    go_ret
    exact ⟨rfl, HB.out⟩
  · skip
    have h0 : ¬ s < 0 := by have := HZ.out; omega
    have h1 : ¬ 65 < s := by have := HZ.out; omega
    have hca := HS.out.1.la.1
    have hcb := HS.out.1.lb.1
    go_wp2_with fail
    refine (HM.out _).mono ?_
    rintro e' w7 ⟨rfl, hb7⟩
    have ha7 := (HS.out.2.1.below hb7).1
    have HB := hide (below_trans HS.out.1.bel hb7)
    clear hb7 HS hca hcb HM
    go_wp2_with fail
    refine (HAW.out _ (HT.out.below HB.out)).mono ?_
    rintro e' w9 ⟨rfl, hb9⟩
    replace HB := hide (below_trans HB.out hb9)
    clear hb9
    go_wp2
    go_ret
    exact ⟨rfl, HB.out⟩

set_option maxHeartbeats 8000000 in
theorem srtLeft_Y1 (n d k s128 a x : Nat) (s : Int) (hk : Go.bitLen d = k) (hk1 : 1 ≤ k) (hk2 : k ≤ 120) (hs128 : s128 = 128 - k) (hx : d * 2 ^ s128 = x) (hz : s < 0 ∨ 65 < s)
    (HL : Hid (∀ w, TabG w → Calls Tryd.prog 14 #[.agg #[.int .u64 (dgl (n) 0 : Nat), .int .u64 (dgl (n) 1 : Nat), .int .u64 (dgl (n) 2 : Nat), .int .u64 (dgl (n) 3 : Nat), .int .u64 (dgl (n) 4 : Nat), .int .u64 (dgl (n) 5 : Nat), .int .u64 (dgl (n) 6 : Nat), .int .u64 (dgl (n) 7 : Nat)], .agg #[.int .u64 (dgl (d) 0 : Nat), .int .u64 (dgl (d) 1 : Nat), .int .u64 (dgl (d) 2 : Nat), .int .u64 (dgl (d) 3 : Nat), .int .u64 (dgl (d) 4 : Nat), .int .u64 (dgl (d) 5 : Nat), .int .u64 (dgl (d) 6 : Nat), .int .u64 (dgl (d) 7 : Nat)], .int .i64 s] w fun e w' => e = .returned (.tuple #[.agg #[.int .u64 (dgl (a) 0 : Nat), .int .u64 (dgl (a) 1 : Nat), .int .u64 (dgl (a) 2 : Nat), .int .u64 (dgl (a) 3 : Nat), .int .u64 (dgl (a) 4 : Nat), .int .u64 (dgl (a) 5 : Nat), .int .u64 (dgl (a) 6 : Nat), .int .u64 (dgl (a) 7 : Nat)], .bool false, .int .i64 4]) ∧ Below w.heap.size w w'))
    (HNO : Hid (∀ w, Calls Tryd.prog 15 #[.agg #[.int .u64 (dgl (d) 0 : Nat), .int .u64 (dgl (d) 1 : Nat), .int .u64 (dgl (d) 2 : Nat), .int .u64 (dgl (d) 3 : Nat), .int .u64 (dgl (d) 4 : Nat), .int .u64 (dgl (d) 5 : Nat), .int .u64 (dgl (d) 6 : Nat), .int .u64 (dgl (d) 7 : Nat)]] w fun e w' => e = .returned (.tuple #[.agg #[.int .u64 (dgl (x) 0 : Nat), .int .u64 (dgl (x) 1 : Nat), .int .u64 (dgl (x) 2 : Nat), .int .u64 (dgl (x) 3 : Nat), .int .u64 (dgl (x) 4 : Nat), .int .u64 (dgl (x) 5 : Nat), .int .u64 (dgl (x) 6 : Nat), .int .u64 (dgl (x) 7 : Nat)], .int .i64 (s128 : Nat), .bool true]) ∧ Below w.heap.size w w'))
    (HBD : Hid (∀ w, Calls Tryd.prog 16 #[.agg #[.int .u64 (dgl (d) 0 : Nat), .int .u64 (dgl (d) 1 : Nat), .int .u64 (dgl (d) 2 : Nat), .int .u64 (dgl (d) 3 : Nat), .int .u64 (dgl (d) 4 : Nat), .int .u64 (dgl (d) 5 : Nat), .int .u64 (dgl (d) 6 : Nat), .int .u64 (dgl (d) 7 : Nat)]] w fun e w' => ∃ v, e = .returned v ∧ BigV w' v d 40 ∧ Below w.heap.size w w'))
    (HAW : Hid (∀ w, TabG w → Calls Tryd.prog 9 #[] w fun e w' => e = .returned (.bool true) ∧ Below w.heap.size w w'))
    (hqa : ∀ w, (Op.equalIn 10000 24 (.agg #[.int .u64 (dgl (a) 0 : Nat), .int .u64 (dgl (a) 1 : Nat), .int .u64 (dgl (a) 2 : Nat), .int .u64 (dgl (a) 3 : Nat), .int .u64 (dgl (a) 4 : Nat), .int .u64 (dgl (a) 5 : Nat), .int .u64 (dgl (a) 6 : Nat), .int .u64 (dgl (a) 7 : Nat)]) (.agg #[.int .u64 0, .int .u64 0, .int .u64 0, .int .u64 0, .int .u64 0, .int .u64 0, .int .u64 0, .int .u64 0])).run Tryd.prog w = .ok true w)
    (hqx : ∀ w, (Op.equalIn 10000 24 (.agg #[.int .u64 (dgl (x) 0 : Nat), .int .u64 (dgl (x) 1 : Nat), .int .u64 (dgl (x) 2 : Nat), .int .u64 (dgl (x) 3 : Nat), .int .u64 (dgl (x) 4 : Nat), .int .u64 (dgl (x) 5 : Nat), .int .u64 (dgl (x) 6 : Nat), .int .u64 (dgl (x) 7 : Nat)]) (.agg #[.int .u64 (dgl (x) 0 : Nat), .int .u64 (dgl (x) 1 : Nat), .int .u64 (dgl (x) 2 : Nat), .int .u64 (dgl (x) 3 : Nat), .int .u64 (dgl (x) 4 : Nat), .int .u64 (dgl (x) 5 : Nat), .int .u64 (dgl (x) 6 : Nat), .int .u64 (dgl (x) 7 : Nat)])).run Tryd.prog w = .ok true w) (w : World) (hg : TabG w) :
    Calls Tryd.prog 5 #[.agg #[.int .u64 (dgl (n) 0 : Nat), .int .u64 (dgl (n) 1 : Nat), .int .u64 (dgl (n) 2 : Nat), .int .u64 (dgl (n) 3 : Nat), .int .u64 (dgl (n) 4 : Nat), .int .u64 (dgl (n) 5 : Nat), .int .u64 (dgl (n) 6 : Nat), .int .u64 (dgl (n) 7 : Nat)], .agg #[.int .u64 (dgl (d) 0 : Nat), .int .u64 (dgl (d) 1 : Nat), .int .u64 (dgl (d) 2 : Nat), .int .u64 (dgl (d) 3 : Nat), .int .u64 (dgl (d) 4 : Nat), .int .u64 (dgl (d) 5 : Nat), .int .u64 (dgl (d) 6 : Nat), .int .u64 (dgl (d) 7 : Nat)], .int .i64 s] w fun e w' => e = .returned (.bool true) ∧ Below w.heap.size w w' := by
  have HZ := hide hz
  clear hz
  have hk0 : ¬ (k : Int) = 0 := by omega
  have hk3 : ((k : Int) == 0) = false := by rw [beq_eq_false_iff_ne]; omega
  have hk4 : ¬ 120 < (k : Int) := by omega
  have hsw : IntKind.i64.wrap (128 - (k : Int)) = (s128 : Int) := by rw [IntKind.wrap_i64]; omega
  have hs0 : s128 ≤ 128 := by omega
  clear hs128 hk1 hk2
  have HS := hide (twSt_start n d w 24 24)
  have HT := hide hg
  clear hg
  go_enter Tryd.func5, Tryd.ntmps5
  have hca := HS.out.la.1
  have hcb := HS.out.lb.1
  go_wp2_with fail
  refine (HL.out _ (HT.out.below HS.out.bel)).mono ?_
  rintro e' w1 ⟨rfl, hb1⟩
  replace HS := hide (HS.out.below hb1)
  clear hb1 hca hcb HL
  go_upto_region 2 with fail
  refine wp_gen (fun W => TwSt n d w W ∧ LiesF W w1.heap.size (dgl a)) ⟨HS.out.below (below_allocs _ _), liesF_new w1 (dgl a) _⟩ ?_
  clear HS
  generalize w1.heap.size = p7 at *
  rintro W2 h2
  have HS := hide h2
  have hcb := h2.1.lb.1
  clear h2
  go_wp2_with fail
  refine (HNO.out _).mono ?_
  rintro e' w2 ⟨rfl, hb2⟩
  replace HS := hide (show TwSt n d w w2 ∧ LiesF w2 p7 (dgl a) from ⟨HS.out.1.below hb2, HS.out.2.below hb2⟩)
  clear hb2 hcb HNO
  go_upto_region 3 with fail
  refine wp_gen (fun W => TwSt n d w W ∧ LiesF W p7 (dgl a) ∧ LiesF W w2.heap.size (dgl x)) ⟨HS.out.1.below (below_allocs _ _), HS.out.2.below (below_allocs _ _), liesF_new w2 (dgl x) _⟩ ?_
  clear HS
  generalize w2.heap.size = p10 at *
  rintro W3 h3
  have HS := hide h3
  have hcb := h3.1.lb.1
  clear h3
  go_wp2_with fail
  refine (HBD.out _).mono ?_
  rintro e' w3 ⟨v, rfl, hv, hb3⟩
  replace HS := hide (show TwSt n d w w3 ∧ LiesF w3 p7 (dgl a) ∧ LiesF w3 p10 (dgl x) from ⟨HS.out.1.below hb3, HS.out.2.1.below hb3, HS.out.2.2.below hb3⟩)
  have HV := hide hv
  clear hb3 hcb HBD hv
  have HLN := hide (refLen_any d 40 v w3 HV.out (by decide))
  rw [hk] at HLN
  go_wp2_with fail
  refine HLN.out.mono ?_
  rintro e' w4 ⟨rfl, hw⟩
  subst w4
  clear HLN
  have HSH := hide (refShl_any d 40 s128 v w3 HV.out (by decide) (by omega))
  rw [hx] at HSH
  clear HV
  go_wp2_with fail
  refine HSH.out.mono ?_
  rintro e' w4 ⟨v4, rfl, hv4, hb4⟩
  replace HS := hide (show TwSt n d w w4 ∧ LiesF w4 p7 (dgl a) ∧ LiesF w4 p10 (dgl x) from ⟨HS.out.1.below hb4, HS.out.2.1.below hb4, HS.out.2.2.below hb4⟩)
  have HWD := hide (refWide_any x _ v4 w4 hv4)
  clear hb4 hv4 HSH
  go_wp2_with fail
  refine HWD.out.mono ?_
  rintro e' w5 ⟨rfl, hb5⟩
  replace HS := hide (show TwSt n d w w5 ∧ LiesF w5 p7 (dgl a) ∧ LiesF w5 p10 (dgl x) from ⟨HS.out.1.below hb5, HS.out.2.1.below hb5, HS.out.2.2.below hb5⟩)
  clear hb5 HWD
  go_upto_region 9 with fail
  refine wp_gen (fun W => (TwSt n d w W ∧ LiesF W p7 (dgl a) ∧ LiesF W p10 (dgl x)) ∧ LiesF W w5.heap.size (dgl x)) ⟨⟨HS.out.1.below (below_allocs _ _), HS.out.2.1.below (below_allocs _ _), HS.out.2.2.below (below_allocs _ _)⟩, liesF_new w5 (dgl x) _⟩ ?_
  clear HS
  generalize w5.heap.size = p15 at *
  rintro W9 h9
  have HS := hide h9.1
  have hx10 := h9.1.2.2.1
  have hx15 := h9.2.1
  clear h9
  have ha7 := HS.out.2.1.1
  have HB := hide HS.out.1.bel
  rcases HZ.out with h | h
  · skip
    clear HS
    go_wp2_with fail
    refine (HAW.out _ (HT.out.below HB.out)).mono ?_
    rintro e' w9 ⟨rfl, hb9⟩
    replace HB := hide (below_trans HB.out hb9)
    clear hb9
    go_wp2
    go_ret
    exact ⟨rfl, HB.out⟩
  · have h0 : ¬ s < 0 := by omega
    clear HS
    go_wp2_with fail
    refine (HAW.out _ (HT.out.below HB.out)).mono ?_
    rintro e' w9 ⟨rfl, hb9⟩
    replace HB := hide (below_trans HB.out hb9)
    clear hb9
    go_wp2
    go_ret
    exact ⟨rfl, HB.out⟩

set_option maxHeartbeats 8000000 in
theorem srtLeft_Y2 (n d k s128 a x : Nat) (s m : Int) (hk : Go.bitLen d = k) (hk1 : 1 ≤ k) (hk2 : k ≤ 120) (hs128 : s128 = 128 - k) (hx : d * 2 ^ s128 = x) (hz : 0 ≤ s ∧ s ≤ 65) (hm : ¬ m = 0) (hm2 : (m == 0) = false)
    (HL : Hid (∀ w, TabG w → Calls Tryd.prog 14 #[.agg #[.int .u64 (dgl (n) 0 : Nat), .int .u64 (dgl (n) 1 : Nat), .int .u64 (dgl (n) 2 : Nat), .int .u64 (dgl (n) 3 : Nat), .int .u64 (dgl (n) 4 : Nat), .int .u64 (dgl (n) 5 : Nat), .int .u64 (dgl (n) 6 : Nat), .int .u64 (dgl (n) 7 : Nat)], .agg #[.int .u64 (dgl (d) 0 : Nat), .int .u64 (dgl (d) 1 : Nat), .int .u64 (dgl (d) 2 : Nat), .int .u64 (dgl (d) 3 : Nat), .int .u64 (dgl (d) 4 : Nat), .int .u64 (dgl (d) 5 : Nat), .int .u64 (dgl (d) 6 : Nat), .int .u64 (dgl (d) 7 : Nat)], .int .i64 s] w fun e w' => e = .returned (.tuple #[.agg #[.int .u64 (dgl (a) 0 : Nat), .int .u64 (dgl (a) 1 : Nat), .int .u64 (dgl (a) 2 : Nat), .int .u64 (dgl (a) 3 : Nat), .int .u64 (dgl (a) 4 : Nat), .int .u64 (dgl (a) 5 : Nat), .int .u64 (dgl (a) 6 : Nat), .int .u64 (dgl (a) 7 : Nat)], .bool false, .int .i64 m]) ∧ Below w.heap.size w w'))
    (HNO : Hid (∀ w, Calls Tryd.prog 15 #[.agg #[.int .u64 (dgl (d) 0 : Nat), .int .u64 (dgl (d) 1 : Nat), .int .u64 (dgl (d) 2 : Nat), .int .u64 (dgl (d) 3 : Nat), .int .u64 (dgl (d) 4 : Nat), .int .u64 (dgl (d) 5 : Nat), .int .u64 (dgl (d) 6 : Nat), .int .u64 (dgl (d) 7 : Nat)]] w fun e w' => e = .returned (.tuple #[.agg #[.int .u64 (dgl (x) 0 : Nat), .int .u64 (dgl (x) 1 : Nat), .int .u64 (dgl (x) 2 : Nat), .int .u64 (dgl (x) 3 : Nat), .int .u64 (dgl (x) 4 : Nat), .int .u64 (dgl (x) 5 : Nat), .int .u64 (dgl (x) 6 : Nat), .int .u64 (dgl (x) 7 : Nat)], .int .i64 (s128 : Nat), .bool true]) ∧ Below w.heap.size w w'))
    (HBD : Hid (∀ w, Calls Tryd.prog 16 #[.agg #[.int .u64 (dgl (d) 0 : Nat), .int .u64 (dgl (d) 1 : Nat), .int .u64 (dgl (d) 2 : Nat), .int .u64 (dgl (d) 3 : Nat), .int .u64 (dgl (d) 4 : Nat), .int .u64 (dgl (d) 5 : Nat), .int .u64 (dgl (d) 6 : Nat), .int .u64 (dgl (d) 7 : Nat)]] w fun e w' => ∃ v, e = .returned v ∧ BigV w' v d 40 ∧ Below w.heap.size w w'))
    (HAW : Hid (∀ w, TabG w → Calls Tryd.prog 9 #[] w fun e w' => e = .returned (.bool true) ∧ Below w.heap.size w w'))
    (hqa : ∀ w, (Op.equalIn 10000 24 (.agg #[.int .u64 (dgl (a) 0 : Nat), .int .u64 (dgl (a) 1 : Nat), .int .u64 (dgl (a) 2 : Nat), .int .u64 (dgl (a) 3 : Nat), .int .u64 (dgl (a) 4 : Nat), .int .u64 (dgl (a) 5 : Nat), .int .u64 (dgl (a) 6 : Nat), .int .u64 (dgl (a) 7 : Nat)]) (.agg #[.int .u64 0, .int .u64 0, .int .u64 0, .int .u64 0, .int .u64 0, .int .u64 0, .int .u64 0, .int .u64 0])).run Tryd.prog w = .ok true w)
    (hqx : ∀ w, (Op.equalIn 10000 24 (.agg #[.int .u64 (dgl (x) 0 : Nat), .int .u64 (dgl (x) 1 : Nat), .int .u64 (dgl (x) 2 : Nat), .int .u64 (dgl (x) 3 : Nat), .int .u64 (dgl (x) 4 : Nat), .int .u64 (dgl (x) 5 : Nat), .int .u64 (dgl (x) 6 : Nat), .int .u64 (dgl (x) 7 : Nat)]) (.agg #[.int .u64 (dgl (x) 0 : Nat), .int .u64 (dgl (x) 1 : Nat), .int .u64 (dgl (x) 2 : Nat), .int .u64 (dgl (x) 3 : Nat), .int .u64 (dgl (x) 4 : Nat), .int .u64 (dgl (x) 5 : Nat), .int .u64 (dgl (x) 6 : Nat), .int .u64 (dgl (x) 7 : Nat)])).run Tryd.prog w = .ok true w)
    (HM : Hid (∀ w, Calls Tryd.prog 11 #[.agg #[.int .u64 (dgl (n) 0 : Nat), .int .u64 (dgl (n) 1 : Nat), .int .u64 (dgl (n) 2 : Nat), .int .u64 (dgl (n) 3 : Nat), .int .u64 (dgl (n) 4 : Nat), .int .u64 (dgl (n) 5 : Nat), .int .u64 (dgl (n) 6 : Nat), .int .u64 (dgl (n) 7 : Nat)], .agg #[.int .u64 (dgl (d) 0 : Nat), .int .u64 (dgl (d) 1 : Nat), .int .u64 (dgl (d) 2 : Nat), .int .u64 (dgl (d) 3 : Nat), .int .u64 (dgl (d) 4 : Nat), .int .u64 (dgl (d) 5 : Nat), .int .u64 (dgl (d) 6 : Nat), .int .u64 (dgl (d) 7 : Nat)]] w fun e w' => e = .returned (.int .i64 m) ∧ Below w.heap.size w w')) (w : World) (hg : TabG w) :
    Calls Tryd.prog 5 #[.agg #[.int .u64 (dgl (n) 0 : Nat), .int .u64 (dgl (n) 1 : Nat), .int .u64 (dgl (n) 2 : Nat), .int .u64 (dgl (n) 3 : Nat), .int .u64 (dgl (n) 4 : Nat), .int .u64 (dgl (n) 5 : Nat), .int .u64 (dgl (n) 6 : Nat), .int .u64 (dgl (n) 7 : Nat)], .agg #[.int .u64 (dgl (d) 0 : Nat), .int .u64 (dgl (d) 1 : Nat), .int .u64 (dgl (d) 2 : Nat), .int .u64 (dgl (d) 3 : Nat), .int .u64 (dgl (d) 4 : Nat), .int .u64 (dgl (d) 5 : Nat), .int .u64 (dgl (d) 6 : Nat), .int .u64 (dgl (d) 7 : Nat)], .int .i64 s] w fun e w' => e = .returned (.bool true) ∧ Below w.heap.size w w' := by
  have HZ := hide hz
  clear hz
  have hk0 : ¬ (k : Int) = 0 := by omega
  have hk3 : ((k : Int) == 0) = false := by rw [beq_eq_false_iff_ne]; omega
  have hk4 : ¬ 120 < (k : Int) := by omega
  have hsw : IntKind.i64.wrap (128 - (k : Int)) = (s128 : Int) := by rw [IntKind.wrap_i64]; omega
  have hs0 : s128 ≤ 128 := by omega
  clear hs128 hk1 hk2
  have HS := hide (twSt_start n d w 24 24)
  have HT := hide hg
  clear hg
  go_enter Tryd.func5, Tryd.ntmps5
  have hca := HS.out.la.1
  have hcb := HS.out.lb.1
  go_wp2_with fail
  refine (HL.out _ (HT.out.below HS.out.bel)).mono ?_
  rintro e' w1 ⟨rfl, hb1⟩
  replace HS := hide (HS.out.below hb1)
  clear hb1 hca hcb HL
  go_upto_region 2 with fail
  refine wp_gen (fun W => TwSt n d w W ∧ LiesF W w1.heap.size (dgl a)) ⟨HS.out.below (below_allocs _ _), liesF_new w1 (dgl a) _⟩ ?_
  clear HS
  generalize w1.heap.size = p7 at *
  rintro W2 h2
  have HS := hide h2
  have hcb := h2.1.lb.1
  clear h2
  go_wp2_with fail
  refine (HNO.out _).mono ?_
  rintro e' w2 ⟨rfl, hb2⟩
  replace HS := hide (show TwSt n d w w2 ∧ LiesF w2 p7 (dgl a) from ⟨HS.out.1.below hb2, HS.out.2.below hb2⟩)
  clear hb2 hcb HNO
  go_upto_region 3 with fail
  refine wp_gen (fun W => TwSt n d w W ∧ LiesF W p7 (dgl a) ∧ LiesF W w2.heap.size (dgl x)) ⟨HS.out.1.below (below_allocs _ _), HS.out.2.below (below_allocs _ _), liesF_new w2 (dgl x) _⟩ ?_
  clear HS
  generalize w2.heap.size = p10 at *
  rintro W3 h3
  have HS := hide h3
  have hcb := h3.1.lb.1
  clear h3
  go_wp2_with fail
  refine (HBD.out _).mono ?_
  rintro e' w3 ⟨v, rfl, hv, hb3⟩
  replace HS := hide (show TwSt n d w w3 ∧ LiesF w3 p7 (dgl a) ∧ LiesF w3 p10 (dgl x) from ⟨HS.out.1.below hb3, HS.out.2.1.below hb3, HS.out.2.2.below hb3⟩)
  have HV := hide hv
  clear hb3 hcb HBD hv
  have HLN := hide (refLen_any d 40 v w3 HV.out (by decide))
  rw [hk] at HLN
  go_wp2_with fail
  refine HLN.out.mono ?_
  rintro e' w4 ⟨rfl, hw⟩
  subst w4
  clear HLN
  have HSH := hide (refShl_any d 40 s128 v w3 HV.out (by decide) (by omega))
  rw [hx] at HSH
  clear HV
  go_wp2_with fail
  refine HSH.out.mono ?_
  rintro e' w4 ⟨v4, rfl, hv4, hb4⟩
  replace HS := hide (show TwSt n d w w4 ∧ LiesF w4 p7 (dgl a) ∧ LiesF w4 p10 (dgl x) from ⟨HS.out.1.below hb4, HS.out.2.1.below hb4, HS.out.2.2.below hb4⟩)
  have HWD := hide (refWide_any x _ v4 w4 hv4)
  clear hb4 hv4 HSH
  go_wp2_with fail
  refine HWD.out.mono ?_
  rintro e' w5 ⟨rfl, hb5⟩
  replace HS := hide (show TwSt n d w w5 ∧ LiesF w5 p7 (dgl a) ∧ LiesF w5 p10 (dgl x) from ⟨HS.out.1.below hb5, HS.out.2.1.below hb5, HS.out.2.2.below hb5⟩)
  clear hb5 HWD
  go_upto_region 9 with fail
  refine wp_gen (fun W => (TwSt n d w W ∧ LiesF W p7 (dgl a) ∧ LiesF W p10 (dgl x)) ∧ LiesF W w5.heap.size (dgl x)) ⟨⟨HS.out.1.below (below_allocs _ _), HS.out.2.1.below (below_allocs _ _), HS.out.2.2.below (below_allocs _ _)⟩, liesF_new w5 (dgl x) _⟩ ?_
  clear HS
  generalize w5.heap.size = p15 at *
  rintro W9 h9
  have HS := hide h9.1
  have hx10 := h9.1.2.2.1
  have hx15 := h9.2.1
  clear h9
  have h0 : ¬ s < 0 := by have := HZ.out; omega
  have h1 : ¬ 65 < s := by have := HZ.out; omega
  have hca := HS.out.1.la.1
  have hcb := HS.out.1.lb.1
  go_wp2_with fail
  refine (HM.out _).mono ?_
  rintro e' w7 ⟨rfl, hb7⟩
  have ha7 := (HS.out.2.1.below hb7).1
  have HB := hide (below_trans HS.out.1.bel hb7)
  clear hb7 HS hca hcb HM
  go_wp2_with fail
  refine (HAW.out _ (HT.out.below HB.out)).mono ?_
  rintro e' w9 ⟨rfl, hb9⟩
  replace HB := hide (below_trans HB.out hb9)
  clear hb9
  go_wp2
  go_ret
  exact ⟨rfl, HB.out⟩

set_option maxHeartbeats 8000000 in
theorem srtLeft_Y3 (n d k s128 a x : Nat) (s : Int) (ng : Bool) (hk : Go.bitLen d = k) (hk1 : 1 ≤ k) (hk2 : k ≤ 120) (hs128 : s128 = 128 - k) (hx : d * 2 ^ s128 = x) (hz : 0 ≤ s ∧ s ≤ 65)
    (HL : Hid (∀ w, TabG w → Calls Tryd.prog 14 #[.agg #[.int .u64 (dgl (n) 0 : Nat), .int .u64 (dgl (n) 1 : Nat), .int .u64 (dgl (n) 2 : Nat), .int .u64 (dgl (n) 3 : Nat), .int .u64 (dgl (n) 4 : Nat), .int .u64 (dgl (n) 5 : Nat), .int .u64 (dgl (n) 6 : Nat), .int .u64 (dgl (n) 7 : Nat)], .agg #[.int .u64 (dgl (d) 0 : Nat), .int .u64 (dgl (d) 1 : Nat), .int .u64 (dgl (d) 2 : Nat), .int .u64 (dgl (d) 3 : Nat), .int .u64 (dgl (d) 4 : Nat), .int .u64 (dgl (d) 5 : Nat), .int .u64 (dgl (d) 6 : Nat), .int .u64 (dgl (d) 7 : Nat)], .int .i64 s] w fun e w' => e = .returned (.tuple #[.agg #[.int .u64 (dgl (a) 0 : Nat), .int .u64 (dgl (a) 1 : Nat), .int .u64 (dgl (a) 2 : Nat), .int .u64 (dgl (a) 3 : Nat), .int .u64 (dgl (a) 4 : Nat), .int .u64 (dgl (a) 5 : Nat), .int .u64 (dgl (a) 6 : Nat), .int .u64 (dgl (a) 7 : Nat)], .bool ng, .int .i64 0]) ∧ Below w.heap.size w w'))
    (HNO : Hid (∀ w, Calls Tryd.prog 15 #[.agg #[.int .u64 (dgl (d) 0 : Nat), .int .u64 (dgl (d) 1 : Nat), .int .u64 (dgl (d) 2 : Nat), .int .u64 (dgl (d) 3 : Nat), .int .u64 (dgl (d) 4 : Nat), .int .u64 (dgl (d) 5 : Nat), .int .u64 (dgl (d) 6 : Nat), .int .u64 (dgl (d) 7 : Nat)]] w fun e w' => e = .returned (.tuple #[.agg #[.int .u64 (dgl (x) 0 : Nat), .int .u64 (dgl (x) 1 : Nat), .int .u64 (dgl (x) 2 : Nat), .int .u64 (dgl (x) 3 : Nat), .int .u64 (dgl (x) 4 : Nat), .int .u64 (dgl (x) 5 : Nat), .int .u64 (dgl (x) 6 : Nat), .int .u64 (dgl (x) 7 : Nat)], .int .i64 (s128 : Nat), .bool true]) ∧ Below w.heap.size w w'))
    (HBD : Hid (∀ w, Calls Tryd.prog 16 #[.agg #[.int .u64 (dgl (d) 0 : Nat), .int .u64 (dgl (d) 1 : Nat), .int .u64 (dgl (d) 2 : Nat), .int .u64 (dgl (d) 3 : Nat), .int .u64 (dgl (d) 4 : Nat), .int .u64 (dgl (d) 5 : Nat), .int .u64 (dgl (d) 6 : Nat), .int .u64 (dgl (d) 7 : Nat)]] w fun e w' => ∃ v, e = .returned v ∧ BigV w' v d 40 ∧ Below w.heap.size w w'))
    (HAW : Hid (∀ w, TabG w → Calls Tryd.prog 9 #[] w fun e w' => e = .returned (.bool true) ∧ Below w.heap.size w w'))
    (hqx : ∀ w, (Op.equalIn 10000 24 (.agg #[.int .u64 (dgl (x) 0 : Nat), .int .u64 (dgl (x) 1 : Nat), .int .u64 (dgl (x) 2 : Nat), .int .u64 (dgl (x) 3 : Nat), .int .u64 (dgl (x) 4 : Nat), .int .u64 (dgl (x) 5 : Nat), .int .u64 (dgl (x) 6 : Nat), .int .u64 (dgl (x) 7 : Nat)]) (.agg #[.int .u64 (dgl (x) 0 : Nat), .int .u64 (dgl (x) 1 : Nat), .int .u64 (dgl (x) 2 : Nat), .int .u64 (dgl (x) 3 : Nat), .int .u64 (dgl (x) 4 : Nat), .int .u64 (dgl (x) 5 : Nat), .int .u64 (dgl (x) 6 : Nat), .int .u64 (dgl (x) 7 : Nat)])).run Tryd.prog w = .ok true w)
    (HM : Hid (∀ w, Calls Tryd.prog 11 #[.agg #[.int .u64 (dgl (n) 0 : Nat), .int .u64 (dgl (n) 1 : Nat), .int .u64 (dgl (n) 2 : Nat), .int .u64 (dgl (n) 3 : Nat), .int .u64 (dgl (n) 4 : Nat), .int .u64 (dgl (n) 5 : Nat), .int .u64 (dgl (n) 6 : Nat), .int .u64 (dgl (n) 7 : Nat)], .agg #[.int .u64 (dgl (d) 0 : Nat), .int .u64 (dgl (d) 1 : Nat), .int .u64 (dgl (d) 2 : Nat), .int .u64 (dgl (d) 3 : Nat), .int .u64 (dgl (d) 4 : Nat), .int .u64 (dgl (d) 5 : Nat), .int .u64 (dgl (d) 6 : Nat), .int .u64 (dgl (d) 7 : Nat)]] w fun e w' => e = .returned (.int .i64 0) ∧ Below w.heap.size w w'))
    (HRU : Hid (∀ w, Calls Tryd.prog 12 #[.agg #[.int .u64 (dgl (n) 0 : Nat), .int .u64 (dgl (n) 1 : Nat), .int .u64 (dgl (n) 2 : Nat), .int .u64 (dgl (n) 3 : Nat), .int .u64 (dgl (n) 4 : Nat), .int .u64 (dgl (n) 5 : Nat), .int .u64 (dgl (n) 6 : Nat), .int .u64 (dgl (n) 7 : Nat)], .agg #[.int .u64 (dgl (d) 0 : Nat), .int .u64 (dgl (d) 1 : Nat), .int .u64 (dgl (d) 2 : Nat), .int .u64 (dgl (d) 3 : Nat), .int .u64 (dgl (d) 4 : Nat), .int .u64 (dgl (d) 5 : Nat), .int .u64 (dgl (d) 6 : Nat), .int .u64 (dgl (d) 7 : Nat)], .int .i64 s] w fun e w' => ∃ v so sl sc, e = .returned (.tuple #[v, .agg #[.slice so sl sc, .bool ng]]) ∧ BigV w' (.slice so sl sc) a 200 ∧ Below w.heap.size w w'))
    (HBA : Hid (∀ w, Calls Tryd.prog 16 #[.agg #[.int .u64 (dgl (a) 0 : Nat), .int .u64 (dgl (a) 1 : Nat), .int .u64 (dgl (a) 2 : Nat), .int .u64 (dgl (a) 3 : Nat), .int .u64 (dgl (a) 4 : Nat), .int .u64 (dgl (a) 5 : Nat), .int .u64 (dgl (a) 6 : Nat), .int .u64 (dgl (a) 7 : Nat)]] w fun e w' => ∃ v, e = .returned v ∧ BigV w' v a 40 ∧ Below w.heap.size w w'))
    (HCM : Hid (∀ (so : Option Addr) (sl sc : Nat) u w, BigV w u a 40 → BigV w (.slice so sl sc) a 200 → Calls Tryd.prog 20 #[u, .slice so sl sc] w fun e w' => e = .returned (.int .i64 0) ∧ w' = w)) (w : World) (hg : TabG w) :
    Calls Tryd.prog 5 #[.agg #[.int .u64 (dgl (n) 0 : Nat), .int .u64 (dgl (n) 1 : Nat), .int .u64 (dgl (n) 2 : Nat), .int .u64 (dgl (n) 3 : Nat), .int .u64 (dgl (n) 4 : Nat), .int .u64 (dgl (n) 5 : Nat), .int .u64 (dgl (n) 6 : Nat), .int .u64 (dgl (n) 7 : Nat)], .agg #[.int .u64 (dgl (d) 0 : Nat), .int .u64 (dgl (d) 1 : Nat), .int .u64 (dgl (d) 2 : Nat), .int .u64 (dgl (d) 3 : Nat), .int .u64 (dgl (d) 4 : Nat), .int .u64 (dgl (d) 5 : Nat), .int .u64 (dgl (d) 6 : Nat), .int .u64 (dgl (d) 7 : Nat)], .int .i64 s] w fun e w' => e = .returned (.bool true) ∧ Below w.heap.size w w' := by
  have HZ := hide hz
  clear hz
  have hk0 : ¬ (k : Int) = 0 := by omega
  have hk3 : ((k : Int) == 0) = false := by rw [beq_eq_false_iff_ne]; omega
  have hk4 : ¬ 120 < (k : Int) := by omega
  have hsw : IntKind.i64.wrap (128 - (k : Int)) = (s128 : Int) := by rw [IntKind.wrap_i64]; omega
  have hs0 : s128 ≤ 128 := by omega
  clear hs128 hk1 hk2
  have HS := hide (twSt_start n d w 24 24)
  have HT := hide hg
  clear hg
  go_enter Tryd.func5, Tryd.ntmps5
  have hca := HS.out.la.1
  have hcb := HS.out.lb.1
  go_wp2_with fail
  refine (HL.out _ (HT.out.below HS.out.bel)).mono ?_
  rintro e' w1 ⟨rfl, hb1⟩
  replace HS := hide (HS.out.below hb1)
  clear hb1 hca hcb HL
  go_upto_region 2 with fail
  refine wp_gen (fun W => TwSt n d w W ∧ LiesF W w1.heap.size (dgl a)) ⟨HS.out.below (below_allocs _ _), liesF_new w1 (dgl a) _⟩ ?_
  clear HS
  generalize w1.heap.size = p7 at *
  rintro W2 h2
  have HS := hide h2
  have hcb := h2.1.lb.1
  clear h2
  go_wp2_with fail
  refine (HNO.out _).mono ?_
  rintro e' w2 ⟨rfl, hb2⟩
  replace HS := hide (show TwSt n d w w2 ∧ LiesF w2 p7 (dgl a) from ⟨HS.out.1.below hb2, HS.out.2.below hb2⟩)
  clear hb2 hcb HNO
  go_upto_region 3 with fail
  refine wp_gen (fun W => TwSt n d w W ∧ LiesF W p7 (dgl a) ∧ LiesF W w2.heap.size (dgl x)) ⟨HS.out.1.below (below_allocs _ _), HS.out.2.below (below_allocs _ _), liesF_new w2 (dgl x) _⟩ ?_
  clear HS
  generalize w2.heap.size = p10 at *
  rintro W3 h3
  have HS := hide h3
  have hcb := h3.1.lb.1
  clear h3
  go_wp2_with fail
  refine (HBD.out _).mono ?_
  rintro e' w3 ⟨v, rfl, hv, hb3⟩
  replace HS := hide (show TwSt n d w w3 ∧ LiesF w3 p7 (dgl a) ∧ LiesF w3 p10 (dgl x) from ⟨HS.out.1.below hb3, HS.out.2.1.below hb3, HS.out.2.2.below hb3⟩)
  have HV := hide hv
  clear hb3 hcb HBD hv
  have HLN := hide (refLen_any d 40 v w3 HV.out (by decide))
  rw [hk] at HLN
  go_wp2_with fail
  refine HLN.out.mono ?_
  rintro e' w4 ⟨rfl, hw⟩
  subst w4
  clear HLN
  have HSH := hide (refShl_any d 40 s128 v w3 HV.out (by decide) (by omega))
  rw [hx] at HSH
  clear HV
  go_wp2_with fail
  refine HSH.out.mono ?_
  rintro e' w4 ⟨v4, rfl, hv4, hb4⟩
  replace HS := hide (show TwSt n d w w4 ∧ LiesF w4 p7 (dgl a) ∧ LiesF w4 p10 (dgl x) from ⟨HS.out.1.below hb4, HS.out.2.1.below hb4, HS.out.2.2.below hb4⟩)
  have HWD := hide (refWide_any x _ v4 w4 hv4)
  clear hb4 hv4 HSH
  go_wp2_with fail
  refine HWD.out.mono ?_
  rintro e' w5 ⟨rfl, hb5⟩
  replace HS := hide (show TwSt n d w w5 ∧ LiesF w5 p7 (dgl a) ∧ LiesF w5 p10 (dgl x) from ⟨HS.out.1.below hb5, HS.out.2.1.below hb5, HS.out.2.2.below hb5⟩)
  clear hb5 HWD
  go_upto_region 9 with fail
  refine wp_gen (fun W => (TwSt n d w W ∧ LiesF W p7 (dgl a) ∧ LiesF W p10 (dgl x)) ∧ LiesF W w5.heap.size (dgl x)) ⟨⟨HS.out.1.below (below_allocs _ _), HS.out.2.1.below (below_allocs _ _), HS.out.2.2.below (below_allocs _ _)⟩, liesF_new w5 (dgl x) _⟩ ?_
  clear HS
  generalize w5.heap.size = p15 at *
  rintro W9 h9
  have HS := hide h9.1
  have hx10 := h9.1.2.2.1
  have hx15 := h9.2.1
  clear h9
  have h0 : ¬ s < 0 := by have := HZ.out; omega
  have h1 : ¬ 65 < s := by have := HZ.out; omega
  have hca := HS.out.1.la.1
  have hcb := HS.out.1.lb.1
  go_wp2_with fail
  refine (HM.out _).mono ?_
  rintro e' w7 ⟨rfl, hb7⟩
  replace HS := hide (show TwSt n d w w7 ∧ LiesF w7 p7 (dgl a) ∧ LiesF w7 p10 (dgl x) from ⟨HS.out.1.below hb7, HS.out.2.1.below hb7, HS.out.2.2.below hb7⟩)
  clear hb7 hca hcb HM
  have hca := HS.out.1.la.1
  have hcb := HS.out.1.lb.1
  go_wp2_with fail
  refine (HRU.out _).mono ?_
  rintro e' w8 ⟨vr, so, sl, sc, rfl, hvl, hb8⟩
  replace HS := hide (show TwSt n d w w8 ∧ LiesF w8 p7 (dgl a) ∧ LiesF w8 p10 (dgl x) from ⟨HS.out.1.below hb8, HS.out.2.1.below hb8, HS.out.2.2.below hb8⟩)
  have HV := hide hvl
  clear hb8 hca hcb HRU hvl
  go_upto_region 17 with fail
  have hbw := below_allocs w8 (.cells #[.slice so sl sc, .bool ng] 38)
  have hup : ∀ {p19 : Nat} {V V' : World}, Below V.heap.size V V' → (LiesF V p7 (dgl a) ∧ (V.cell? ⟨p19, 0, none⟩ = some (.slice so sl sc) ∧ V.cell? ⟨p19, 1, none⟩ = some (.bool ng) ∧ p19 < V.heap.size) ∧ BigV V (.slice so sl sc) a 200 ∧ TabG V ∧ Below w.heap.size w V) → (LiesF V' p7 (dgl a) ∧ (V'.cell? ⟨p19, 0, none⟩ = some (.slice so sl sc) ∧ V'.cell? ⟨p19, 1, none⟩ = some (.bool ng) ∧ p19 < V'.heap.size) ∧ BigV V' (.slice so sl sc) a 200 ∧ TabG V' ∧ Below w.heap.size w V') := fun hb h => ⟨h.1.below hb, ⟨(hb.cell (p := ⟨_, 0, none⟩) h.2.1.2.2).trans h.2.1.1, (hb.cell (p := ⟨_, 1, none⟩) h.2.1.2.2).trans h.2.1.2.1, Nat.lt_of_lt_of_le h.2.1.2.2 hb.size⟩, h.2.2.1.below hb, h.2.2.2.1.below hb, below_trans h.2.2.2.2 hb⟩
  refine wp_gen (fun W => LiesF W p7 (dgl a) ∧ (W.cell? ⟨w8.heap.size, 0, none⟩ = some (.slice so sl sc) ∧ W.cell? ⟨w8.heap.size, 1, none⟩ = some (.bool ng) ∧ w8.heap.size < W.heap.size) ∧ BigV W (.slice so sl sc) a 200 ∧ TabG W ∧ Below w.heap.size w W) ⟨HS.out.2.1.below hbw, ⟨by simp [go_sem], by simp [go_sem], by simp⟩, HV.out.below hbw, HT.out.below (below_trans HS.out.1.bel hbw), below_trans HS.out.1.bel hbw⟩ ?_
  clear HS HV hbw
  generalize w8.heap.size = p19 at *
  rintro W17 h17
  have HS := hide h17
  clear h17
  refine wp_region_grow 20 [(122, .val (.int .i64 0)), (123, .val (.bool true)), (124, .val (.bool true)), (125, .val (.agg #[.int .u64 (dgl (a) 0 : Nat), .int .u64 (dgl (a) 1 : Nat), .int .u64 (dgl (a) 2 : Nat), .int .u64 (dgl (a) 3 : Nat), .int .u64 (dgl (a) 4 : Nat), .int .u64 (dgl (a) 5 : Nat), .int .u64 (dgl (a) 6 : Nat), .int .u64 (dgl (a) 7 : Nat)])), (126, .big a 40), (127, .val (.pointer (some ⟨p19, 0, none⟩))), (128, .val (.slice so sl sc)), (129, .val (.int .i64 0)), (130, .val (.bool true)), (131, .val (.bool true)), (132, .val (.bool true)), (133, .val (.bool ng)), (134, .val (.pointer (some ⟨p19, 1, none⟩))), (135, .val (.bool ng)), (136, .val (.bool true)), (137, .val (.bool true)), (138, .val (.bool true)), (139, .val (.bool true)), (140, .val (.bool true)), (6, .val (.bool true))]
    (fun W => LiesF W p7 (dgl a) ∧ (W.cell? ⟨p19, 0, none⟩ = some (.slice so sl sc) ∧ W.cell? ⟨p19, 1, none⟩ = some (.bool ng) ∧ p19 < W.heap.size) ∧ BigV W (.slice so sl sc) a 200 ∧ TabG W ∧ Below w.heap.size w W) mixedOk (by kernel_rfl) (by kernel_rfl) (hup (Below.refl _ _).drew HS.out) (fun W W' h hb => hup hb h) ?_ ?_
  · refine gSt (gStep_run rfl (gRun_move 9 122 (.inl rfl) rfl (by decide +kernel) (fun v w h => h))) ?_
    refine gSt (gStep_run rfl ?_) ?_
    · intro ρ W hC hc hf hL
      have e122 : ρ (.tmp 122) = .int .i64 0 := hL 122 (by decide +kernel)
      simp [go_sem, hc, hf, e122]
      exact ⟨Below.refl _ _, rfl⟩
    refine gSt (gStep_run rfl (gRun_move 123 124 (.inl rfl) rfl (by decide +kernel) (fun v w h => h))) ?_
    refine gSt (gStep_on 2 124 true rfl rfl (by decide +kernel) (fun v w h => h) ?_) ?_
    · intro ρ W hC hc hf hL
      have e7 : ρ (.tmp 7) = .pointer (some ⟨p7, 0, none⟩) := hL 7 (by decide +kernel)
      have hl := hC.1.1
      simp [go_sem, hc, hf, e7, hl]
      exact ⟨Below.refl _ _, rfl⟩
    refine gSt (gStep_on 2 124 true rfl rfl (by decide +kernel) (fun v w h => h) ?_) ?_
    · intro ρ W hC hc hf hL
      have e125 : ρ (.tmp 125) = .agg #[.int .u64 (dgl (a) 0 : Nat), .int .u64 (dgl (a) 1 : Nat), .int .u64 (dgl (a) 2 : Nat), .int .u64 (dgl (a) 3 : Nat), .int .u64 (dgl (a) 4 : Nat), .int .u64 (dgl (a) 5 : Nat), .int .u64 (dgl (a) 6 : Nat), .int .u64 (dgl (a) 7 : Nat)] := hL 125 (by decide +kernel)
      simp [go_sem, hc, hf, e125]
      refine (HBA.out W).mono ?_
      rintro e w' ⟨v, rfl, hv, hb⟩
      exact ⟨_, rfl, hb, hv⟩
    refine gSt (gStep_on 2 124 true rfl rfl (by decide +kernel) (fun v w h => h) ?_) ?_
    · intro ρ W hC hc hf hL
      have e19 : ρ (.tmp 19) = .pointer (some ⟨p19, 0, none⟩) := hL 19 (by decide +kernel)
      simp [go_sem, hc, hf, e19]
      exact ⟨Below.refl _ _, rfl⟩
    refine gSt (gStep_on 2 124 true rfl rfl (by decide +kernel) (fun v w h => h) ?_) ?_
    · intro ρ W hC hc hf hL
      have e127 : ρ (.tmp 127) = .pointer (some ⟨p19, 0, none⟩) := hL 127 (by decide +kernel)
      have hl := hC.2.1.1
      simp [go_sem, hc, hf, e127, hl]
      exact ⟨Below.refl _ _, rfl⟩
    refine gSt (gStep_on 2 124 true rfl rfl (by decide +kernel) (fun v w h => h) ?_) ?_
    · intro ρ W hC hc hf hL
      have b126 : BigV W (ρ (.tmp 126)) (a) (40) := hL 126 (by decide +kernel)
      have e128 : ρ (.tmp 128) = .slice so sl sc := hL 128 (by decide +kernel)
      simp [go_sem, hc, hf, e128]
      refine (HCM.out _ _ _ _ W b126 hC.2.2.1).mono ?_
      rintro e w' ⟨rfl, hb⟩
      exact ⟨_, rfl, by first | exact hb | (subst hb; exact Below.refl _ _), rfl⟩
    refine gSt (gStep_on 2 124 true rfl rfl (by decide +kernel) (fun v w h => h) ?_) ?_
    · intro ρ W hC hc hf hL
      have e129 : ρ (.tmp 129) = .int .i64 0 := hL 129 (by decide +kernel)
      simp [go_sem, hc, hf, e129]
      exact ⟨Below.refl _ _, rfl⟩
    refine gSt (gStep_run rfl (gRun_pickT 124 130 131 _ rfl rfl (by decide +kernel) (by decide +kernel) (fun v w h => h) (fun v w h => h))) ?_
    refine gSt (gStep_run rfl (gRun_move 131 132 (.inl rfl) rfl (by decide +kernel) (fun v w h => h))) ?_
    refine gSt (gStep_on 10 132 true rfl rfl (by decide +kernel) (fun v w h => h) (gRun_move 8 133 (.inl rfl) rfl (by decide +kernel) (fun v w h => h))) ?_
    refine gSt (gStep_on 10 132 true rfl rfl (by decide +kernel) (fun v w h => h) ?_) ?_
    · intro ρ W hC hc hf hL
      have e19 : ρ (.tmp 19) = .pointer (some ⟨p19, 0, none⟩) := hL 19 (by decide +kernel)
      simp [go_sem, hc, hf, e19]
      exact ⟨Below.refl _ _, rfl⟩
    refine gSt (gStep_on 10 132 true rfl rfl (by decide +kernel) (fun v w h => h) ?_) ?_
    · intro ρ W hC hc hf hL
      have e134 : ρ (.tmp 134) = .pointer (some ⟨p19, 1, none⟩) := hL 134 (by decide +kernel)
      have hl := hC.2.1.2.1
      simp [go_sem, hc, hf, e134, hl]
      exact ⟨Below.refl _ _, rfl⟩
    refine gSt (gStep_on 10 132 true rfl rfl (by decide +kernel) (fun v w h => h) ?_) ?_
    · intro ρ W hC hc hf hL
      have e133 : ρ (.tmp 133) = .bool ng := hL 133 (by decide +kernel)
      have e135 : ρ (.tmp 135) = .bool ng := hL 135 (by decide +kernel)
      simp [go_sem, hc, hf, e133, e135]
      exact ⟨Below.refl _ _, rfl⟩
    refine gSt (gStep_run rfl (gRun_pickT 132 136 137 _ rfl rfl (by decide +kernel) (by decide +kernel) (fun v w h => h) (fun v w h => h))) ?_
    refine gSt (gStep_run rfl (gRun_move 137 138 (.inl rfl) rfl (by decide +kernel) (fun v w h => h))) ?_
    refine gSt (gStep_on 16 138 true rfl rfl (by decide +kernel) (fun v w h => h) ?_) ?_
    · intro ρ W hC hc hf hL
      simp [go_sem, hc, hf]
      refine (HAW.out W hC.2.2.2.1).mono ?_
      rintro e w' ⟨rfl, hb⟩
      exact ⟨_, rfl, by first | exact hb | (subst hb; exact Below.refl _ _), rfl⟩
    refine gSt (gStep_run rfl (gRun_pickT 138 139 140 _ rfl rfl (by decide +kernel) (by decide +kernel) (fun v w h => h) (fun v w h => h))) ?_
    refine gSt (gStep_run rfl (gRun_move 140 6 (.inr rfl) rfl (by decide +kernel) (fun v w h => h))) ?_
    exact gSt0
  · intro W hC
    refine gFi 122 rfl ?_
    rintro _ rfl
    refine gFi 123 rfl ?_
    rintro _ rfl
    refine gFi 124 rfl ?_
    rintro _ rfl
    refine gFi 125 rfl ?_
    rintro _ rfl
    refine gFi 126 rfl ?_
    rintro u126 b126
    refine gFi 127 rfl ?_
    rintro _ rfl
    refine gFi 128 rfl ?_
    rintro _ rfl
    refine gFi 129 rfl ?_
    rintro _ rfl
    refine gFi 130 rfl ?_
    rintro _ rfl
    refine gFi 131 rfl ?_
    rintro _ rfl
    refine gFi 132 rfl ?_
    rintro _ rfl
    refine gFi 133 rfl ?_
    rintro _ rfl
    refine gFi 134 rfl ?_
    rintro _ rfl
    refine gFi 135 rfl ?_
    rintro _ rfl
    refine gFi 136 rfl ?_
    rintro _ rfl
    refine gFi 137 rfl ?_
    rintro _ rfl
    refine gFi 138 rfl ?_
    rintro _ rfl
    refine gFi 139 rfl ?_
    rintro _ rfl
    refine gFi 140 rfl ?_
    rintro _ rfl
    refine gFi 6 rfl ?_
    rintro _ rfl
    refine gFi0 ?_
    simp only [List.drop_succ_cons, List.drop_zero, Act.put, List.setIfInBounds_toArray, List.set_cons_succ, List.set_cons_zero]
    have HB := hide hC.2.2.2.2
    clear hC HS
    go_wp2
    go_ret
    exact ⟨rfl, HB.out⟩
    

theorem srtLeft_any (n d : Nat) (s : Int) (hn : n < QQ) (hd : d < QQ) (w : World) (hg : TabG w) :
    Calls Tryd.prog 5 #[.agg #[.int .u64 (dgl (n) 0 : Nat), .int .u64 (dgl (n) 1 : Nat), .int .u64 (dgl (n) 2 : Nat), .int .u64 (dgl (n) 3 : Nat), .int .u64 (dgl (n) 4 : Nat), .int .u64 (dgl (n) 5 : Nat), .int .u64 (dgl (n) 6 : Nat), .int .u64 (dgl (n) 7 : Nat)], .agg #[.int .u64 (dgl (d) 0 : Nat), .int .u64 (dgl (d) 1 : Nat), .int .u64 (dgl (d) 2 : Nat), .int .u64 (dgl (d) 3 : Nat), .int .u64 (dgl (d) 4 : Nat), .int .u64 (dgl (d) 5 : Nat), .int .u64 (dgl (d) 6 : Nat), .int .u64 (dgl (d) 7 : Nat)], .int .i64 s] w fun e w' => e = .returned (.bool true) ∧ Below w.heap.size w w' := by
  have h512 := len512 hd
  have hqz : ∀ w, (Op.equalIn 10000 24 (.agg #[.int .u64 (dgl (0) 0 : Nat), .int .u64 (dgl (0) 1 : Nat), .int .u64 (dgl (0) 2 : Nat), .int .u64 (dgl (0) 3 : Nat), .int .u64 (dgl (0) 4 : Nat), .int .u64 (dgl (0) 5 : Nat), .int .u64 (dgl (0) 6 : Nat), .int .u64 (dgl (0) 7 : Nat)]) (.agg #[.int .u64 0, .int .u64 0, .int .u64 0, .int .u64 0, .int .u64 0, .int .u64 0, .int .u64 0, .int .u64 0])).run Tryd.prog w = .ok true w := fun w => by
    have h := wide_eqz (a := 0) qq_pos w
    rw [decide_eq_true rfl] at h
    exact h
  have HBD := hide (fun w => refBig_any d hd w)
  have HAW := hide (fun w hg => awake15_any w hg)
  have HM := hide (fun w => rmay_any n d hn hd w)
  by_cases hN : Go.bitLen d = 0 ∨ 120 < Go.bitLen d
  · have HNO : Hid (∀ w, Calls Tryd.prog 15 #[.agg #[.int .u64 (dgl (d) 0 : Nat), .int .u64 (dgl (d) 1 : Nat), .int .u64 (dgl (d) 2 : Nat), .int .u64 (dgl (d) 3 : Nat), .int .u64 (dgl (d) 4 : Nat), .int .u64 (dgl (d) 5 : Nat), .int .u64 (dgl (d) 6 : Nat), .int .u64 (dgl (d) 7 : Nat)]] w fun e w' => e = .returned (.tuple #[.agg #[.int .u64 (dgl (0) 0 : Nat), .int .u64 (dgl (0) 1 : Nat), .int .u64 (dgl (0) 2 : Nat), .int .u64 (dgl (0) 3 : Nat), .int .u64 (dgl (0) 4 : Nat), .int .u64 (dgl (0) 5 : Nat), .int .u64 (dgl (0) 6 : Nat), .int .u64 (dgl (0) 7 : Nat)], .int .i64 0, .bool false]) ∧ Below w.heap.size w w') := hide fun w => by
      have h := normA_no d hd hN w
      rw [dgl_zero]
      exact h
    have hm : mayN n d ≠ 0 := fun h0 => by
      have hz := mayN_zero h0
      have h1 := bitLen_le d 120 hz.2.1
      have h2 := (bitLen_top d (by omega)).2.2
      omega
    by_cases hs : s < 0 ∨ 65 < s
    · exact srtLeft_N1 n d _ 0 0 s rfl hN h512 hs (hide fun w hg => by have h := leftA_far n d s hs w; rw [dgl_zero]; exact h) HNO HBD HAW hqz hqz w hg
    · exact srtLeft_N2 n d _ 0 0 s ((mayN n d : Nat) : Int) rfl hN h512 (by omega) (by omega) (by rw [beq_eq_false_iff_ne]; omega) (hide fun w hg => by have h := leftA_err n d s _ (by omega) (by omega) (by rw [beq_eq_false_iff_ne]; omega) (hide fun w => may_any n d hn hd w) w; rw [dgl_zero]; exact h) HNO HBD HAW hqz hqz HM w hg
  · have hd0 : d ≠ 0 := fun h => by subst h; exact hN (.inl rfl)
    have hu := up15_lt d hd0 (show Go.bitLen d ≤ 128 by omega)
    have HNO := hide (fun w => normA_yes d hd (by omega) (by omega) w)
    have hqx : ∀ w, (Op.equalIn 10000 24 (.agg #[.int .u64 (dgl (up15 d) 0 : Nat), .int .u64 (dgl (up15 d) 1 : Nat), .int .u64 (dgl (up15 d) 2 : Nat), .int .u64 (dgl (up15 d) 3 : Nat), .int .u64 (dgl (up15 d) 4 : Nat), .int .u64 (dgl (up15 d) 5 : Nat), .int .u64 (dgl (up15 d) 6 : Nat), .int .u64 (dgl (up15 d) 7 : Nat)]) (.agg #[.int .u64 (dgl (up15 d) 0 : Nat), .int .u64 (dgl (up15 d) 1 : Nat), .int .u64 (dgl (up15 d) 2 : Nat), .int .u64 (dgl (up15 d) 3 : Nat), .int .u64 (dgl (up15 d) 4 : Nat), .int .u64 (dgl (up15 d) 5 : Nat), .int .u64 (dgl (up15 d) 6 : Nat), .int .u64 (dgl (up15 d) 7 : Nat)])).run Tryd.prog w = .ok true w := fun w => wide_sameF (dgl (up15 d)) w
    by_cases hs : s < 0 ∨ 65 < s
    · exact srtLeft_Y1 n d _ _ 0 (up15 d) s rfl (by omega) (by omega) rfl rfl hs (hide fun w hg => by have h := leftA_far n d s hs w; rw [dgl_zero]; exact h) HNO HBD HAW hqz hqx w hg
    · by_cases hm : mayN n d = 0
      · have hz := mayN_zero hm
        obtain ⟨t, rfl⟩ : ∃ t : Nat, s = (t : Int) := ⟨s.toNat, by omega⟩
        have ok := ok15 n d hd0 (by omega) hz.2.2
        have hw := ok.wide t (by omega)
        have hq2 : ((2 ^ 511 : Nat) : Int) < (QQ : Int) := by decide +kernel
        rw [hm] at HM
        exact srtLeft_Y3 n d _ _ (lf15 n d t).natAbs (up15 d) (t : Int) (decide (lf15 n d t < 0)) rfl (by omega) (by omega) rfl rfl (by omega) (hide fun w hg => leftA_ok n d t hn hd hm (by omega) w hg) HNO HBD HAW hqx HM (hide fun w => (run15_any n d t hn hd hd0 (by omega) hz.2.2 (by omega) w).mono fun e w' ⟨v, vl, h1, h2, h3, h4⟩ => by
          obtain ⟨so, sl, sc, rfl⟩ := bgs_slice h3
          exact ⟨v, so, sl, sc, h1, h3, h4⟩) (hide fun w => refBig_any _ (by omega) w) (hide fun so sl sc u w h1 h2 => by
          have h := cmp_any (lf15 n d t).natAbs (lf15 n d t).natAbs 40 200 u (.slice so sl sc) w h1 h2
          have hcc : cmpN (lf15 n d t).natAbs (lf15 n d t).natAbs = 0 := by unfold cmpN; simp
          rw [hcc] at h
          exact h) w hg
      · exact srtLeft_Y2 n d _ _ 0 (up15 d) s ((mayN n d : Nat) : Int) rfl (by omega) (by omega) rfl rfl (by omega) (by omega) (by rw [beq_eq_false_iff_ne]; omega) (hide fun w hg => by have h := leftA_err n d s _ (by omega) (by omega) (by rw [beq_eq_false_iff_ne]; omega) (hide fun w => may_any n d hn hd w) w; rw [dgl_zero]; exact h) HNO HBD HAW hqz hqx HM w hg
end Go.Proofs.YtbngaajhdaciaaaDoor

/- For all wides and ints the law radicandlaw15.SrtLeft returns true and leaves what came in as it was. Conditions: those of the tied card (the table of rows is laid as the program lays it). -/
namespace Go.Proofs.YtbngaajhdaciaaaDoor.srtLeft
open Go.ChangeShapes Go.WideShapes Go.ChangeAt Go.RowKit Go.Proofs.YtbngaajhdaciaaaDoor

theorem own : ownKnob Tryd.prog.godebug = none := by kernel_rfl
theorem laidOut : laidOutB Tryd.prog = true := by kernel_rfl

theorem door_met (os : Os) (args : Array Value) : laidMetH Tryd.prog [("radicand/table.rows", Rows.laid_radicand_table_rows)] ((World.doorLaid Tryd.prog 400 os).forCall (fun _ _ => 0) ⟨#[], args, []⟩).memory :=
  laidMetH_of_parts3 (fuel := 8) (laidMet_of_run' 8 (by kernel_rfl) (by kernel_rfl)) (by kernel_rfl) (by kernel_rfl)

set_option maxRecDepth 100000 in
theorem lifted (os : Os) (started : os.Started) (H : Type) (enc : TypeId × Value → H) :
    ReturnsInHanded {} Tryd.checked os 5 .any (fun w args => (Rows.srtLeftSpec.pre enc Tryd.prog Tryd.f5 [] false w args ∧ laidMetH Tryd.prog [("radicand/table.rows", Rows.laid_radicand_table_rows)] w) ∧ sizedMet enc Tryd.prog Tryd.f5 (OpenSpec.ofChange Rows.srtLeftSpec) false w args) (Rows.srtLeftSpec.post enc Tryd.prog Tryd.f5 false true false false) := by
  refine returnsInHanded_of_change_and (C := Tryd.checked) (X := fun w _ => laidMetH Tryd.prog [("radicand/table.rows", Rows.laid_radicand_table_rows)] w) (fun _ _ _ hh h => h.of_heap hh) own started (by kernel_rfl) Tryd.func5
    (ChangeSpec.witness_shaped (enc := enc) (C := Tryd.checked) (os := os) (X := fun w _ => laidMetH Tryd.prog [("radicand/table.rows", Rows.laid_radicand_table_rows)] w) false (World.doorLaid Tryd.prog 400 os) #[.agg #[.int .u64 0, .int .u64 0, .int .u64 0, .int .u64 0, .int .u64 0, .int .u64 0, .int .u64 0, .int .u64 0], .agg #[.int .u64 0, .int .u64 0, .int .u64 0, .int .u64 0, .int .u64 0, .int .u64 0, .int .u64 0, .int .u64 0], .int .i64 0] 40 rfl (World.shaped_of_RefB (by kernel_rfl) (by kernel_rfl)) (by kernel_rfl) (by kernel_rfl) (by kernel_rfl) (door_met os _)) ?_
  intro W base args ds gs before hval0 hW _ _ hL _
  have hval : ∀ (j : Nat) t v, Tryd.f5.params[j]? = some t → args[j]? = some v → Value.okWide Tryd.prog W .any base t v := hval0
  have hW' := hW
  obtain ⟨p, q, hA0, hV, rfl, hfz, hnd⟩ := hW
  have hA : DataW.TrodAll enc Tryd.prog W 0 (fun _ => true) true Tryd.f5.params.toList args.toList ds p := hA0
  rw [Tryd.params5] at hA hval
  obtain ⟨v0, vs0, d0, ds0, p0, q0, hargs, rfl, rfl, h0, r0⟩ := trodAll_cons hA
  obtain ⟨v1, vs1, d1, ds1, p1, q1, rfl, rfl, rfl, h1, r1⟩ := trodAll_cons r0
  obtain ⟨v2, vs2, d2, ds2, p2, q2, rfl, rfl, rfl, h2, r2⟩ := trodAll_cons r1
  obtain ⟨rfl, rfl, rfl⟩ := trodAll_nil r2
  obtain rfl : args = #[v0, v1, v2] := by cases args; simp_all
  obtain ⟨rfl, rfl⟩ := trodVars_none hV
  have k0 := h0
  have lt0 : ∀ x ∈ p0, x.block < W.heap.size := by obtain ⟨m, hm⟩ := k0; exact DataW.trod_lt m _ _ _ hm
  have k1 := h1
  have lt1 : ∀ x ∈ p1, x.block < W.heap.size := by obtain ⟨m, hm⟩ := k1; exact DataW.trod_lt m _ _ _ hm
  have k2 := h2
  have lt2 : ∀ x ∈ p2, x.block < W.heap.size := by obtain ⟨m, hm⟩ := k2; exact DataW.trod_lt m _ _ _ hm
  obtain ⟨x0, hx0, rfl⟩ := wide_of_trod (hval 0 24 v0 rfl rfl) h0
  obtain ⟨x1, hx1, rfl⟩ := wide_of_trod (hval 1 24 v1 rfl rfl) h1
  obtain ⟨a2, rfl, rfl, rfl, wf2⟩ := open_int Tryd.underlying3 (hval 2 3 v2 rfl rfl) h2
  clear hA0 hval0
  refine (srtLeft_any x0 x1 a2 hx0 hx1 W (of_laidT hL)).mono fun e W' ⟨he, bel⟩ => ?_
  subst he
  exact ⟨_, rfl, _, _, _, [], _, [], hW', trodAll_mk1 (shut_bool Tryd.underlying4 _), (trodAll_cons_mk (Below.trod laidOut (by kernel_rfl) (of_decide_eq_true (by kernel_rfl)) k0 bel lt0) (trodAll_cons_mk (Below.trod laidOut (by kernel_rfl) (of_decide_eq_true (by kernel_rfl)) k1 bel lt1) (trodAll_cons_mk (Below.trod laidOut (by kernel_rfl) (of_decide_eq_true (by kernel_rfl)) k2 bel lt2) trodAll_mk0))), rfl, bel.frame _, fun h => by cases h⟩

theorem over : Rows.srtLeftRow.holds Tryd.pinned (OpenSpec.ofChange Rows.srtLeftSpec) :=
  OpenClaim.holds_of_wide 5 Tryd.f5 rfl rfl rfl rfl rfl rfl rfl ⟨rfl, rfl, rfl, rfl, rfl⟩ rfl rfl rfl rfl rfl (by kernel_rfl) Tryd.func5 (by kernel_rfl)
    (of_decide_eq_true (by kernel_rfl)) (by unfold Func.isWrapper; first | (rw [if_pos (by decide +kernel)]; kernel_rfl) | (rw [if_neg (by decide +kernel)]; exact ⟨rfl, rfl⟩))
    (fun os started H enc _ => lifted os started H enc)

theorem proved : Rows.SrtLeftCardSaid :=
  Claim7.holds_tied_plain_at .later [] [.data] true (true, "3e99c42790b836898fde4b8c37d6e5e63d47bdf8389b5c4cfb3ee20f31068c85") false
    over (fun _ h => by cases h) (by kernel_rfl) (fun _ h => by cases h) srtLeft_row_tie rfl ⟨rfl, rfl⟩ (by kernel_rfl) rfl
    (fun f fn hf hfn => by
      obtain rfl : f = 5 := Option.some.inj ((show Tryd.prog.funcNamed "radicand/radicandlaw15.SrtLeft" = some 5 by kernel_rfl).symm.trans hf) |>.symm
      obtain rfl : fn = Tryd.f5 := (Option.some.inj (Tryd.func5.symm.trans hfn)).symm
      exact ⟨by kernel_rfl, fun j t ht => by
        rw [Tryd.params5] at ht
        rcases j with _ | j
        · obtain rfl : t = 24 := by simpa using ht.symm
          exact (show Tryd.prog.wantsStandIn 24 = false by kernel_rfl)
        rcases j with _ | j
        · obtain rfl : t = 24 := by simpa using ht.symm
          exact (show Tryd.prog.wantsStandIn 24 = false by kernel_rfl)
        rcases j with _ | j
        · obtain rfl : t = 3 := by simpa using ht.symm
          exact (show Tryd.prog.wantsStandIn 3 = false by kernel_rfl)
        simp at ht⟩)
    (by kernel_rfl)
#print axioms proved
end Go.Proofs.YtbngaajhdaciaaaDoor.srtLeft

