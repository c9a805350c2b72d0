/- For all wides and ints the law radicandlaw13.FlyNext returns true and leaves what came in as it was. No conditions. -/
import Derived.Test.YtgnaomgcfliamaaPartAN
import Derived.Test.YtgnaomgcfliamaaRows
import Derived.WalkKit
import Derived.ProofKit
import Derived.OpenShut
import Derived.ShutString
import Derived.ChangeOld
import Derived.Below
/- For all wides and ints the law radicandlaw13.FlyNext returns true. -/
set_option linter.unusedVariables false
set_option linter.unusedSimpArgs false
set_option maxRecDepth 8000
namespace Go.Proofs.Ytgnaomgcfliamaa
open Go.RowKit Plain

/-- What `==` says of two Wides, with any purse. -/
theorem wide_equalNz (n : Nat) (f g : Nat → Nat) (w : World) :
    (Op.equalIn (n + 2) 26 (.agg #[.int .u64 (f 0 : Nat), .int .u64 (f 1 : Nat), .int .u64 (f 2 : Nat), .int .u64 (f 3 : Nat), .int .u64 (f 4 : Nat), .int .u64 (f 5 : Nat), .int .u64 (f 6 : Nat), .int .u64 (f 7 : Nat)]) (.agg #[.int .u64 (g 0 : Nat), .int .u64 (g 1 : Nat), .int .u64 (g 2 : Nat), .int .u64 (g 3 : Nat), .int .u64 (g 4 : Nat), .int .u64 (g 5 : Nat), .int .u64 (g 6 : Nat), .int .u64 (g 7 : Nat)])).run Try.prog w
      = .ok (f 0 == g 0 && (f 1 == g 1 && (f 2 == g 2 && (f 3 == g 3 && (f 4 == g 4 && (f 5 == g 5 && (f 6 == g 6 && f 7 == g 7))))))) w := by
  have u3 := Try.underlying24
  have a3 := Try.isAgg24
  obtain ⟨inf, hi⟩ : ∃ i, Try.prog.info? 24 = some i := Option.isSome_iff_exists.1 (by kernel_rfl)
  rw [show n + 2 = (n + 1) + 1 from rfl, run_equalIn_array w (n + 1) _ _ Try.underlying26 hi]
  have hc : Try.prog.cellsOf 24 = 1 := by kernel_rfl
  rw [hc]
  simp only [List.range_succ, List.range_zero, List.nil_append, List.cons_append, Op.eqItems]
  go_simp
  simp only [Int.ofNat_inj]
  by_cases h0 : f 0 = g 0
  · by_cases h1 : f 1 = g 1
    · by_cases h2 : f 2 = g 2
      · by_cases h3 : f 3 = g 3
        · by_cases h4 : f 4 = g 4
          · by_cases h5 : f 5 = g 5
            · by_cases h6 : f 6 = g 6
              · by_cases h7 : f 7 = g 7 <;> simp [h0, h1, h2, h3, h4, h5, h6, h7]
              · simp [h0, h1, h2, h3, h4, h5, h6]
            · simp [h0, h1, h2, h3, h4, h5]
          · simp [h0, h1, h2, h3, h4]
        · simp [h0, h1, h2, h3]
      · simp [h0, h1, h2]
    · simp [h0, h1]
  · simp [h0]
theorem wide_eqNz (n : Nat) {a b : Nat} (ha : a < QQ) (hb : b < QQ) (w : World) : (Op.equalIn (n + 2) 26 (.agg #[.int .u64 (dgl (a) 0 : Nat), .int .u64 (dgl (a) 1 : Nat), .int .u64 (dgl (a) 2 : Nat), .int .u64 (dgl (a) 3 : Nat), .int .u64 (dgl (a) 4 : Nat), .int .u64 (dgl (a) 5 : Nat), .int .u64 (dgl (a) 6 : Nat), .int .u64 (dgl (a) 7 : Nat)]) (.agg #[.int .u64 (dgl (b) 0 : Nat), .int .u64 (dgl (b) 1 : Nat), .int .u64 (dgl (b) 2 : Nat), .int .u64 (dgl (b) 3 : Nat), .int .u64 (dgl (b) 4 : Nat), .int .u64 (dgl (b) 5 : Nat), .int .u64 (dgl (b) 6 : Nat), .int .u64 (dgl (b) 7 : Nat)])).run Try.prog w = .ok (decide (a = b)) w := by
  have h1 := wide_equalNz n (dgl a) (dgl b) w
  have h2 := wide_equal (dgl a) (dgl b) w
  have h3 := wide_eqb ha hb w
  rw [h2] at h3
  rw [h1]
  injection h3 with h4 _
  rw [h4]
set_option maxHeartbeats 4000000 in
theorem load_st {W : World} {p q l : Nat} (h : StB W p q l) : (loadVar 38 ⟨p, 0, none⟩).run Try.prog W = .ok (.agg #[.int .u64 (dgl (q) 0 : Nat), .int .u64 (dgl (q) 1 : Nat), .int .u64 (dgl (q) 2 : Nat), .int .u64 (dgl (q) 3 : Nat), .int .u64 (dgl (q) 4 : Nat), .int .u64 (dgl (q) 5 : Nat), .int .u64 (dgl (q) 6 : Nat), .int .u64 (dgl (q) 7 : Nat), .int .u64 (dgl (l) 0 : Nat), .int .u64 (dgl (l) 1 : Nat), .int .u64 (dgl (l) 2 : Nat), .int .u64 (dgl (l) 3 : Nat), .int .u64 (dgl (l) 4 : Nat), .int .u64 (dgl (l) 5 : Nat), .int .u64 (dgl (l) 6 : Nat), .int .u64 (dgl (l) 7 : Nat)]) W := by
  have hs := h.lo
  have hs0 := h.h0
  have hs1 := h.h1
  have hs2 := h.h2
  have hs3 := h.h3
  have hs4 := h.h4
  have hs5 := h.h5
  have hs6 := h.h6
  have hs7 := h.h7
  simp [go_sem, hs, hs0, hs1, hs2, hs3, hs4, hs5, hs6, hs7]
theorem upon_st {K : Value → World → Prop} {W : World} {p q l : Nat} (h : StB W p q l) (hk : K (.agg #[.int .u64 (dgl (q) 0 : Nat), .int .u64 (dgl (q) 1 : Nat), .int .u64 (dgl (q) 2 : Nat), .int .u64 (dgl (q) 3 : Nat), .int .u64 (dgl (q) 4 : Nat), .int .u64 (dgl (q) 5 : Nat), .int .u64 (dgl (q) 6 : Nat), .int .u64 (dgl (q) 7 : Nat), .int .u64 (dgl (l) 0 : Nat), .int .u64 (dgl (l) 1 : Nat), .int .u64 (dgl (l) 2 : Nat), .int .u64 (dgl (l) 3 : Nat), .int .u64 (dgl (l) 4 : Nat), .int .u64 (dgl (l) 5 : Nat), .int .u64 (dgl (l) 6 : Nat), .int .u64 (dgl (l) 7 : Nat)]) W) : gUpon Try.prog K (((Instr.loadAt 38 (.pointer (some ⟨p, 0, none⟩))) >>= fun v => pure (Next.value v)).run Try.prog W) := by
  simp [Instr.loadAt, Instr.sureAddr, load_st h, asAddr, gUpon]
  exact hk
/-- What FlyNext goes by: its number, 1, the number's state. -/
structure FnSt (q y p6 : Nat) (v5 : Value) (w W : World) : Prop where
  la : LiesF W w.heap.size (dgl q)
  b5 : BigV W v5 1 2
  s : StB W p6 q y
  bel : Below w.heap.size w W
theorem FnSt.below {q y p6 : Nat} {v5 : Value} {w W W' : World} (h : FnSt q y p6 v5 w W) (hb : Below W.heap.size W W') : FnSt q y p6 v5 w W' :=
  ⟨h.la.below hb, h.b5.below hb, h.s.below hb, below_trans h.bel hb⟩

set_option maxHeartbeats 4000000 in
theorem flyNext_no (q y : Nat) (d : Int)
    (HQ : Hid (∀ w, (Op.equalIn 10000 26 (.agg #[.int .u64 (dgl (q) 0 : Nat), .int .u64 (dgl (q) 1 : Nat), .int .u64 (dgl (q) 2 : Nat), .int .u64 (dgl (q) 3 : Nat), .int .u64 (dgl (q) 4 : Nat), .int .u64 (dgl (q) 5 : Nat), .int .u64 (dgl (q) 6 : Nat), .int .u64 (dgl (q) 7 : Nat)]) (.agg #[.int .u64 (dgl (q) 0 : Nat), .int .u64 (dgl (q) 1 : Nat), .int .u64 (dgl (q) 2 : Nat), .int .u64 (dgl (q) 3 : Nat), .int .u64 (dgl (q) 4 : Nat), .int .u64 (dgl (q) 5 : Nat), .int .u64 (dgl (q) 6 : Nat), .int .u64 (dgl (q) 7 : Nat)])).run Try.prog w = .ok true w))
    (HY : Hid (∀ w, (Op.equalIn 10000 26 (.agg #[.int .u64 (dgl (y) 0 : Nat), .int .u64 (dgl (y) 1 : Nat), .int .u64 (dgl (y) 2 : Nat), .int .u64 (dgl (y) 3 : Nat), .int .u64 (dgl (y) 4 : Nat), .int .u64 (dgl (y) 5 : Nat), .int .u64 (dgl (y) 6 : Nat), .int .u64 (dgl (y) 7 : Nat)]) (.agg #[.int .u64 (dgl (y) 0 : Nat), .int .u64 (dgl (y) 1 : Nat), .int .u64 (dgl (y) 2 : Nat), .int .u64 (dgl (y) 3 : Nat), .int .u64 (dgl (y) 4 : Nat), .int .u64 (dgl (y) 5 : Nat), .int .u64 (dgl (y) 6 : Nat), .int .u64 (dgl (y) 7 : Nat)])).run Try.prog w = .ok true w))
    (HNW : Hid (∀ w, Calls Try.prog 13 #[.agg #[.int .u64 (dgl (q) 0 : Nat), .int .u64 (dgl (q) 1 : Nat), .int .u64 (dgl (q) 2 : Nat), .int .u64 (dgl (q) 3 : Nat), .int .u64 (dgl (q) 4 : Nat), .int .u64 (dgl (q) 5 : Nat), .int .u64 (dgl (q) 6 : Nat), .int .u64 (dgl (q) 7 : Nat)]] w fun e w' => e = .returned (.agg #[.int .u64 (dgl (q) 0 : Nat), .int .u64 (dgl (q) 1 : Nat), .int .u64 (dgl (q) 2 : Nat), .int .u64 (dgl (q) 3 : Nat), .int .u64 (dgl (q) 4 : Nat), .int .u64 (dgl (q) 5 : Nat), .int .u64 (dgl (q) 6 : Nat), .int .u64 (dgl (q) 7 : Nat), .int .u64 (dgl (y) 0 : Nat), .int .u64 (dgl (y) 1 : Nat), .int .u64 (dgl (y) 2 : Nat), .int .u64 (dgl (y) 3 : Nat), .int .u64 (dgl (y) 4 : Nat), .int .u64 (dgl (y) 5 : Nat), .int .u64 (dgl (y) 6 : Nat), .int .u64 (dgl (y) 7 : Nat)]) ∧ Below w.heap.size w w'))
    (HBQ : Hid (∀ w, Calls Try.prog 14 #[.agg #[.int .u64 (dgl (q) 0 : Nat), .int .u64 (dgl (q) 1 : Nat), .int .u64 (dgl (q) 2 : Nat), .int .u64 (dgl (q) 3 : Nat), .int .u64 (dgl (q) 4 : Nat), .int .u64 (dgl (q) 5 : Nat), .int .u64 (dgl (q) 6 : Nat), .int .u64 (dgl (q) 7 : Nat)]] w fun e w' => ∃ v, e = .returned v ∧ BigV w' v q 40 ∧ Below w.heap.size w w'))
    (HW1 : Hid (∀ u v w, BigV w u q 40 → BigV w v 1 2 → Calls Try.prog 11 #[u, v] w fun e w' => e = .returned (.agg #[.int .u64 (dgl (y) 0 : Nat), .int .u64 (dgl (y) 1 : Nat), .int .u64 (dgl (y) 2 : Nat), .int .u64 (dgl (y) 3 : Nat), .int .u64 (dgl (y) 4 : Nat), .int .u64 (dgl (y) 5 : Nat), .int .u64 (dgl (y) 6 : Nat), .int .u64 (dgl (y) 7 : Nat)]) ∧ Below w.heap.size w w'))
    (HNX : Hid (∀ w, Calls Try.prog 15 #[.agg #[.int .u64 (dgl (q) 0 : Nat), .int .u64 (dgl (q) 1 : Nat), .int .u64 (dgl (q) 2 : Nat), .int .u64 (dgl (q) 3 : Nat), .int .u64 (dgl (q) 4 : Nat), .int .u64 (dgl (q) 5 : Nat), .int .u64 (dgl (q) 6 : Nat), .int .u64 (dgl (q) 7 : Nat), .int .u64 (dgl (y) 0 : Nat), .int .u64 (dgl (y) 1 : Nat), .int .u64 (dgl (y) 2 : Nat), .int .u64 (dgl (y) 3 : Nat), .int .u64 (dgl (y) 4 : Nat), .int .u64 (dgl (y) 5 : Nat), .int .u64 (dgl (y) 6 : Nat), .int .u64 (dgl (y) 7 : Nat)], .int .i64 d] w fun e w' => e = .returned (.tuple #[.agg #[.int .u64 (dgl (q) 0 : Nat), .int .u64 (dgl (q) 1 : Nat), .int .u64 (dgl (q) 2 : Nat), .int .u64 (dgl (q) 3 : Nat), .int .u64 (dgl (q) 4 : Nat), .int .u64 (dgl (q) 5 : Nat), .int .u64 (dgl (q) 6 : Nat), .int .u64 (dgl (q) 7 : Nat), .int .u64 (dgl (y) 0 : Nat), .int .u64 (dgl (y) 1 : Nat), .int .u64 (dgl (y) 2 : Nat), .int .u64 (dgl (y) 3 : Nat), .int .u64 (dgl (y) 4 : Nat), .int .u64 (dgl (y) 5 : Nat), .int .u64 (dgl (y) 6 : Nat), .int .u64 (dgl (y) 7 : Nat)], .bool false]) ∧ Below w.heap.size w w'))
    (HIS : Hid (∀ w, Calls Try.prog 9 #[.int .i64 d] w fun e w' => e = .returned (.bool false) ∧ w' = w))
    (HST : Hid (∀ w, (Op.equalIn 9999 26 (.agg #[.int .u64 (dgl (q) 0 : Nat), .int .u64 (dgl (q) 1 : Nat), .int .u64 (dgl (q) 2 : Nat), .int .u64 (dgl (q) 3 : Nat), .int .u64 (dgl (q) 4 : Nat), .int .u64 (dgl (q) 5 : Nat), .int .u64 (dgl (q) 6 : Nat), .int .u64 (dgl (q) 7 : Nat)]) (.agg #[.int .u64 (dgl (q) 0 : Nat), .int .u64 (dgl (q) 1 : Nat), .int .u64 (dgl (q) 2 : Nat), .int .u64 (dgl (q) 3 : Nat), .int .u64 (dgl (q) 4 : Nat), .int .u64 (dgl (q) 5 : Nat), .int .u64 (dgl (q) 6 : Nat), .int .u64 (dgl (q) 7 : Nat)])).run Try.prog w = .ok true w)) (HSY : Hid (∀ w, (Op.equalIn 9999 26 (.agg #[.int .u64 (dgl (y) 0 : Nat), .int .u64 (dgl (y) 1 : Nat), .int .u64 (dgl (y) 2 : Nat), .int .u64 (dgl (y) 3 : Nat), .int .u64 (dgl (y) 4 : Nat), .int .u64 (dgl (y) 5 : Nat), .int .u64 (dgl (y) 6 : Nat), .int .u64 (dgl (y) 7 : Nat)]) (.agg #[.int .u64 (dgl (y) 0 : Nat), .int .u64 (dgl (y) 1 : Nat), .int .u64 (dgl (y) 2 : Nat), .int .u64 (dgl (y) 3 : Nat), .int .u64 (dgl (y) 4 : Nat), .int .u64 (dgl (y) 5 : Nat), .int .u64 (dgl (y) 6 : Nat), .int .u64 (dgl (y) 7 : Nat)])).run Try.prog w = .ok true w)) (HAW : Hid (∀ w, Calls Try.prog 7 #[] w fun e w' => e = .returned (.bool true) ∧ Below w.heap.size w w')) (w : World) :
    Calls Try.prog 4 #[.agg #[.int .u64 (dgl (q) 0 : Nat), .int .u64 (dgl (q) 1 : Nat), .int .u64 (dgl (q) 2 : Nat), .int .u64 (dgl (q) 3 : Nat), .int .u64 (dgl (q) 4 : Nat), .int .u64 (dgl (q) 5 : Nat), .int .u64 (dgl (q) 6 : Nat), .int .u64 (dgl (q) 7 : Nat)], .int .i64 d] w fun e w' => e = .returned (.bool true) ∧ Below w.heap.size w w' := by
  have HS : Hid (LiesF (w.alloc (.cells #[.int .u64 (dgl (q) 0 : Nat), .int .u64 (dgl (q) 1 : Nat), .int .u64 (dgl (q) 2 : Nat), .int .u64 (dgl (q) 3 : Nat), .int .u64 (dgl (q) 4 : Nat), .int .u64 (dgl (q) 5 : Nat), .int .u64 (dgl (q) 6 : Nat), .int .u64 (dgl (q) 7 : Nat)] 26)) w.heap.size (dgl q) ∧ Below w.heap.size w (w.alloc (.cells #[.int .u64 (dgl (q) 0 : Nat), .int .u64 (dgl (q) 1 : Nat), .int .u64 (dgl (q) 2 : Nat), .int .u64 (dgl (q) 3 : Nat), .int .u64 (dgl (q) 4 : Nat), .int .u64 (dgl (q) 5 : Nat), .int .u64 (dgl (q) 6 : Nat), .int .u64 (dgl (q) 7 : Nat)] 26))) := ⟨liesF_new w (dgl q) _, below_allocs w _⟩
  have HS1 := hide (fun w => small_any 1 (by decide) w)
  go_enter Try.func4, Try.ntmps4
  go_wp2_with fail
  refine (HS1.out _).mono ?_
  rintro e w1 ⟨v5, rfl, hv5, hb1⟩
  obtain ⟨o5, l5, c5, rfl⟩ := bigz_slice hv5
  have HS2 : Hid (LiesF w1 w.heap.size (dgl q) ∧ BigV w1 (.slice o5 l5 c5) 1 2 ∧ Below w.heap.size w w1) := ⟨HS.out.1.below hb1, hv5, below_trans HS.out.2 hb1⟩
  clear HS hb1 HS1 hv5
  have hla := HS2.out.1.1
  go_wp2_with fail
  refine (HNW.out _).mono ?_
  rintro e w2 ⟨rfl, hb2⟩
  have HS3 : Hid (LiesF w2 w.heap.size (dgl q) ∧ BigV w2 (.slice o5 l5 c5) 1 2 ∧ Below w.heap.size w w2) := ⟨HS2.out.1.below hb2, HS2.out.2.1.below hb2, below_trans HS2.out.2.2 hb2⟩
  clear HS2 hb2 HNW hla
  go_upto_region 3 with fail
  have hbw := below_allocs w2 (.cells #[.int .u64 (dgl (q) 0 : Nat), .int .u64 (dgl (q) 1 : Nat), .int .u64 (dgl (q) 2 : Nat), .int .u64 (dgl (q) 3 : Nat), .int .u64 (dgl (q) 4 : Nat), .int .u64 (dgl (q) 5 : Nat), .int .u64 (dgl (q) 6 : Nat), .int .u64 (dgl (q) 7 : Nat), .int .u64 (dgl (y) 0 : Nat), .int .u64 (dgl (y) 1 : Nat), .int .u64 (dgl (y) 2 : Nat), .int .u64 (dgl (y) 3 : Nat), .int .u64 (dgl (y) 4 : Nat), .int .u64 (dgl (y) 5 : Nat), .int .u64 (dgl (y) 6 : Nat), .int .u64 (dgl (y) 7 : Nat)] 38)
  refine wp_gen (fun W => FnSt q y w2.heap.size (.slice o5 l5 c5) w W) ⟨HS3.out.1.below hbw, HS3.out.2.1.below hbw, stB_new w2 q y _, below_trans HS3.out.2.2 hbw⟩ ?_
  clear HS3 hbw
  generalize w2.heap.size = p6 at *
  rintro W3 h3
  have HF := hide h3
  clear h3
  refine wp_region_grow 13 [(14, .val (.pointer (some ⟨p6, 0, none⟩))), (15, .val (.agg #[.int .u64 (dgl (q) 0 : Nat), .int .u64 (dgl (q) 1 : Nat), .int .u64 (dgl (q) 2 : Nat), .int .u64 (dgl (q) 3 : Nat), .int .u64 (dgl (q) 4 : Nat), .int .u64 (dgl (q) 5 : Nat), .int .u64 (dgl (q) 6 : Nat), .int .u64 (dgl (q) 7 : Nat)])), (16, .val (.agg #[.int .u64 (dgl (q) 0 : Nat), .int .u64 (dgl (q) 1 : Nat), .int .u64 (dgl (q) 2 : Nat), .int .u64 (dgl (q) 3 : Nat), .int .u64 (dgl (q) 4 : Nat), .int .u64 (dgl (q) 5 : Nat), .int .u64 (dgl (q) 6 : Nat), .int .u64 (dgl (q) 7 : Nat)])), (17, .val (.bool false)), (18, .val (.bool false)), (19, .val (.pointer (some ⟨p6, 8, none⟩))), (20, .val (.agg #[.int .u64 (dgl (y) 0 : Nat), .int .u64 (dgl (y) 1 : Nat), .int .u64 (dgl (y) 2 : Nat), .int .u64 (dgl (y) 3 : Nat), .int .u64 (dgl (y) 4 : Nat), .int .u64 (dgl (y) 5 : Nat), .int .u64 (dgl (y) 6 : Nat), .int .u64 (dgl (y) 7 : Nat)])), (21, .val (.agg #[.int .u64 (dgl (q) 0 : Nat), .int .u64 (dgl (q) 1 : Nat), .int .u64 (dgl (q) 2 : Nat), .int .u64 (dgl (q) 3 : Nat), .int .u64 (dgl (q) 4 : Nat), .int .u64 (dgl (q) 5 : Nat), .int .u64 (dgl (q) 6 : Nat), .int .u64 (dgl (q) 7 : Nat)])), (22, .big q 40), (23, .val (.slice o5 l5 c5)), (24, .val (.agg #[.int .u64 (dgl (y) 0 : Nat), .int .u64 (dgl (y) 1 : Nat), .int .u64 (dgl (y) 2 : Nat), .int .u64 (dgl (y) 3 : Nat), .int .u64 (dgl (y) 4 : Nat), .int .u64 (dgl (y) 5 : Nat), .int .u64 (dgl (y) 6 : Nat), .int .u64 (dgl (y) 7 : Nat)])), (25, .val (.bool false)), (26, .val (.bool false))]
    (fun W => FnSt q y p6 (.slice o5 l5 c5) w W) mixedOk (by kernel_rfl) (by kernel_rfl) (HF.out.below (Below.refl _ _).drew) (fun W W' h hb => h.below hb) ?_ ?_
  · refine gSt (gStep_run rfl ?_) ?_
    · intro ρ W hC hc hf hL
      have e6 : ρ (.tmp 6) = .pointer (some ⟨p6, 0, none⟩) := hL 6 (by decide +kernel)
      simp [go_sem, hc, hf, e6]
      exact ⟨Below.refl _ _, rfl⟩
    refine gSt (gStep_run rfl ?_) ?_
    · intro ρ W hC hc hf hL
      have e14 : ρ (.tmp 14) = .pointer (some ⟨p6, 0, none⟩) := hL 14 (by decide +kernel)
      have hl := hC.s.lo
      simp [go_sem, hc, hf, e14, hl]
      exact ⟨Below.refl _ _, rfl⟩
    refine gSt (gStep_run rfl ?_) ?_
    · intro ρ W hC hc hf hL
      have e2 : ρ (.tmp 2) = .pointer (some ⟨w.heap.size, 0, none⟩) := hL 2 (by decide +kernel)
      have hl := hC.la.1
      simp [go_sem, hc, hf, e2, hl]
      exact ⟨Below.refl _ _, rfl⟩
    refine gSt (gStep_run rfl ?_) ?_
    · intro ρ W hC hc hf hL
      have e15 : ρ (.tmp 15) = .agg #[.int .u64 (dgl (q) 0 : Nat), .int .u64 (dgl (q) 1 : Nat), .int .u64 (dgl (q) 2 : Nat), .int .u64 (dgl (q) 3 : Nat), .int .u64 (dgl (q) 4 : Nat), .int .u64 (dgl (q) 5 : Nat), .int .u64 (dgl (q) 6 : Nat), .int .u64 (dgl (q) 7 : Nat)] := hL 15 (by decide +kernel)
      have e16 : ρ (.tmp 16) = .agg #[.int .u64 (dgl (q) 0 : Nat), .int .u64 (dgl (q) 1 : Nat), .int .u64 (dgl (q) 2 : Nat), .int .u64 (dgl (q) 3 : Nat), .int .u64 (dgl (q) 4 : Nat), .int .u64 (dgl (q) 5 : Nat), .int .u64 (dgl (q) 6 : Nat), .int .u64 (dgl (q) 7 : Nat)] := hL 16 (by decide +kernel)
      have hq := HQ.out W
      simp [go_sem, hc, hf, e15, e16, hq]
      exact ⟨Below.refl _ _, rfl⟩
    refine gSt (gStep_run rfl (gRun_move 17 18 (.inl rfl) rfl (by decide +kernel) (fun v w h => h))) ?_
    refine gSt (gStep_on 4 18 false rfl rfl (by decide +kernel) (fun v w h => h) ?_) ?_
    · intro ρ W hC hc hf hL
      have e6 : ρ (.tmp 6) = .pointer (some ⟨p6, 0, none⟩) := hL 6 (by decide +kernel)
      simp [go_sem, hc, hf, e6]
      exact ⟨Below.refl _ _, rfl⟩
    refine gSt (gStep_on 4 18 false rfl rfl (by decide +kernel) (fun v w h => h) ?_) ?_
    · intro ρ W hC hc hf hL
      have e19 : ρ (.tmp 19) = .pointer (some ⟨p6, 8, none⟩) := hL 19 (by decide +kernel)
      have hl0 := hC.s.h0
      have hl1 := hC.s.h1
      have hl2 := hC.s.h2
      have hl3 := hC.s.h3
      have hl4 := hC.s.h4
      have hl5 := hC.s.h5
      have hl6 := hC.s.h6
      have hl7 := hC.s.h7
      simp [go_sem, hc, hf, e19, hl0, hl1, hl2, hl3, hl4, hl5, hl6, hl7]
      exact ⟨Below.refl _ _, rfl⟩
    refine gSt (gStep_on 4 18 false rfl rfl (by decide +kernel) (fun v w h => h) ?_) ?_
    · intro ρ W hC hc hf hL
      have e2 : ρ (.tmp 2) = .pointer (some ⟨w.heap.size, 0, none⟩) := hL 2 (by decide +kernel)
      have hl := hC.la.1
      simp [go_sem, hc, hf, e2, hl]
      exact ⟨Below.refl _ _, rfl⟩
    refine gSt (gStep_on 4 18 false rfl rfl (by decide +kernel) (fun v w h => h) ?_) ?_
    · intro ρ W hC hc hf hL
      have e21 : ρ (.tmp 21) = .agg #[.int .u64 (dgl (q) 0 : Nat), .int .u64 (dgl (q) 1 : Nat), .int .u64 (dgl (q) 2 : Nat), .int .u64 (dgl (q) 3 : Nat), .int .u64 (dgl (q) 4 : Nat), .int .u64 (dgl (q) 5 : Nat), .int .u64 (dgl (q) 6 : Nat), .int .u64 (dgl (q) 7 : Nat)] := hL 21 (by decide +kernel)
      simp [go_sem, hc, hf, e21]
      refine (HBQ.out W).mono ?_
      rintro e w' ⟨v, rfl, hv, hb⟩
      exact ⟨_, rfl, hb, hv⟩
    refine gSt (gStep_on 4 18 false rfl rfl (by decide +kernel) (fun v w h => h) (gRun_move 5 23 (.inl rfl) rfl (by decide +kernel) (fun v w h => h))) ?_
    refine gSt (gStep_on 4 18 false rfl rfl (by decide +kernel) (fun v w h => h) ?_) ?_
    · intro ρ W hC hc hf hL
      have b22 : BigV W (ρ (.tmp 22)) (q) (40) := hL 22 (by decide +kernel)
      have e23 : ρ (.tmp 23) = .slice o5 l5 c5 := hL 23 (by decide +kernel)
      simp [go_sem, hc, hf, e23]
      refine (HW1.out _ _ W b22 hC.b5).mono ?_
      rintro e w' ⟨rfl, hb⟩
      exact ⟨_, rfl, by first | exact hb | (subst hb; exact Below.refl _ _), rfl⟩
    refine gSt (gStep_on 4 18 false rfl rfl (by decide +kernel) (fun v w h => h) ?_) ?_
    · intro ρ W hC hc hf hL
      have e20 : ρ (.tmp 20) = .agg #[.int .u64 (dgl (y) 0 : Nat), .int .u64 (dgl (y) 1 : Nat), .int .u64 (dgl (y) 2 : Nat), .int .u64 (dgl (y) 3 : Nat), .int .u64 (dgl (y) 4 : Nat), .int .u64 (dgl (y) 5 : Nat), .int .u64 (dgl (y) 6 : Nat), .int .u64 (dgl (y) 7 : Nat)] := hL 20 (by decide +kernel)
      have e24 : ρ (.tmp 24) = .agg #[.int .u64 (dgl (y) 0 : Nat), .int .u64 (dgl (y) 1 : Nat), .int .u64 (dgl (y) 2 : Nat), .int .u64 (dgl (y) 3 : Nat), .int .u64 (dgl (y) 4 : Nat), .int .u64 (dgl (y) 5 : Nat), .int .u64 (dgl (y) 6 : Nat), .int .u64 (dgl (y) 7 : Nat)] := hL 24 (by decide +kernel)
      have hq := HY.out W
      simp [go_sem, hc, hf, e20, e24, hq]
      exact ⟨Below.refl _ _, rfl⟩
    refine gSt (gStep_run rfl (gRun_pickCF 18 25 26 _ rfl rfl (by decide +kernel) (by decide +kernel) (fun v w h => h) (fun v w h => h))) ?_
    exact gSt0
  · intro W hC
    refine gFi 14 rfl ?_
    rintro _ rfl
    refine gFi 15 rfl ?_
    rintro _ rfl
    refine gFi 16 rfl ?_
    rintro _ rfl
    refine gFi 17 rfl ?_
    rintro _ rfl
    refine gFi 18 rfl ?_
    rintro _ rfl
    refine gFi 19 rfl ?_
    rintro _ rfl
    refine gFi 20 rfl ?_
    rintro _ rfl
    refine gFi 21 rfl ?_
    rintro _ rfl
    refine gFi 22 rfl ?_
    rintro u22 b22
    refine gFi 23 rfl ?_
    rintro _ rfl
    refine gFi 24 rfl ?_
    rintro _ rfl
    refine gFi 25 rfl ?_
    rintro _ rfl
    refine gFi 26 rfl ?_
    rintro _ rfl
    refine gFi0 ?_
    simp only [List.drop_succ_cons, List.drop_zero, Act.put, List.setIfInBounds_toArray, List.set_cons_succ, List.set_cons_zero]
    replace HF := hide hC
    clear hC b22
    have hs := HF.out.s.lo
    have hs0 := HF.out.s.h0
    have hs1 := HF.out.s.h1
    have hs2 := HF.out.s.h2
    have hs3 := HF.out.s.h3
    have hs4 := HF.out.s.h4
    have hs5 := HF.out.s.h5
    have hs6 := HF.out.s.h6
    have hs7 := HF.out.s.h7
    go_wp2_with fail
    refine (HNX.out _).mono ?_
    rintro e w4 ⟨rfl, hb4⟩
    replace HF := hide (HF.out.below hb4)
    clear hb4 HNX hs hs0 hs1 hs2 hs3 hs4 hs5 hs6 hs7
    go_upto_region 6 with fail
    have hbw := below_allocs w4 (.cells #[.int .u64 (dgl (q) 0 : Nat), .int .u64 (dgl (q) 1 : Nat), .int .u64 (dgl (q) 2 : Nat), .int .u64 (dgl (q) 3 : Nat), .int .u64 (dgl (q) 4 : Nat), .int .u64 (dgl (q) 5 : Nat), .int .u64 (dgl (q) 6 : Nat), .int .u64 (dgl (q) 7 : Nat), .int .u64 (dgl (y) 0 : Nat), .int .u64 (dgl (y) 1 : Nat), .int .u64 (dgl (y) 2 : Nat), .int .u64 (dgl (y) 3 : Nat), .int .u64 (dgl (y) 4 : Nat), .int .u64 (dgl (y) 5 : Nat), .int .u64 (dgl (y) 6 : Nat), .int .u64 (dgl (y) 7 : Nat)] 38)
    refine wp_gen (fun W => FnSt q y p6 (.slice o5 l5 c5) w W ∧ StB W w4.heap.size (q) (y)) ⟨HF.out.below hbw, stB_new w4 _ _ _⟩ ?_
    clear HF hbw
    generalize w4.heap.size = p7 at *
    rintro W6 h6
    have HF := hide h6
    clear h6
    go_wp2_with fail
    refine (HIS.out _).mono ?_
    rintro e w' ⟨rfl, hw⟩
    subst w'
    go_upto_region 7 with fail
    refine wp_region_seq 11 [(36, .val (.bool false)), (37, .val (.bool true)), (38, .val (.bool true)), (39, .val (.agg #[.int .u64 (dgl (q) 0 : Nat), .int .u64 (dgl (q) 1 : Nat), .int .u64 (dgl (q) 2 : Nat), .int .u64 (dgl (q) 3 : Nat), .int .u64 (dgl (q) 4 : Nat), .int .u64 (dgl (q) 5 : Nat), .int .u64 (dgl (q) 6 : Nat), .int .u64 (dgl (q) 7 : Nat), .int .u64 (dgl (y) 0 : Nat), .int .u64 (dgl (y) 1 : Nat), .int .u64 (dgl (y) 2 : Nat), .int .u64 (dgl (y) 3 : Nat), .int .u64 (dgl (y) 4 : Nat), .int .u64 (dgl (y) 5 : Nat), .int .u64 (dgl (y) 6 : Nat), .int .u64 (dgl (y) 7 : Nat)])), (40, .val (.agg #[.int .u64 (dgl (q) 0 : Nat), .int .u64 (dgl (q) 1 : Nat), .int .u64 (dgl (q) 2 : Nat), .int .u64 (dgl (q) 3 : Nat), .int .u64 (dgl (q) 4 : Nat), .int .u64 (dgl (q) 5 : Nat), .int .u64 (dgl (q) 6 : Nat), .int .u64 (dgl (q) 7 : Nat), .int .u64 (dgl (y) 0 : Nat), .int .u64 (dgl (y) 1 : Nat), .int .u64 (dgl (y) 2 : Nat), .int .u64 (dgl (y) 3 : Nat), .int .u64 (dgl (y) 4 : Nat), .int .u64 (dgl (y) 5 : Nat), .int .u64 (dgl (y) 6 : Nat), .int .u64 (dgl (y) 7 : Nat)])), (41, .val (.bool true)), (42, .val (.bool true)), (43, .val (.bool true)), (44, .val (.bool true)), (45, .val (.bool true)), (4, .val (.bool true))]
      (fun W => FnSt q y p6 (.slice o5 l5 c5) w W ∧ StB W p7 q y) rfl (by kernel_rfl) (by kernel_rfl) (HF.out) (fun W W' h hb => ⟨h.1.below hb, h.2.below hb⟩) ?_ ?_
    · refine gSt (gStep_run rfl (gRun_move 8 36 (.inl rfl) rfl (by decide +kernel) (fun v w h => h))) ?_
      refine gSt (gStep_run rfl ?_) ?_
      · intro ρ W hC hc hf hL
        have e36 : ρ (.tmp 36) = .bool false := hL 36 (by decide +kernel)
        simp [go_sem, hc, hf, e36]
        exact ⟨Below.refl _ _, rfl⟩
      refine gSt (gStep_run rfl (gRun_move 37 38 (.inl rfl) rfl (by decide +kernel) (fun v w h => h))) ?_
      refine gSt (gStep_on 2 38 true rfl rfl (by decide +kernel) (fun v w h => h) ?_) ?_
      · intro ρ W hC hc hf hL
        have e7 : ρ (.tmp 7) = .pointer (some ⟨p7, 0, none⟩) := hL 7 (by decide +kernel)
        show gUpon Try.prog _ ((Instr.loadAt 38 (ρ (.tmp 7)) >>= fun v => pure (Next.value v)).run Try.prog W)
        rw [e7]
        exact upon_st hC.2 ⟨Below.refl _ _, rfl⟩
      refine gSt (gStep_on 2 38 true rfl rfl (by decide +kernel) (fun v w h => h) ?_) ?_
      · intro ρ W hC hc hf hL
        have e6 : ρ (.tmp 6) = .pointer (some ⟨p6, 0, none⟩) := hL 6 (by decide +kernel)
        show gUpon Try.prog _ ((Instr.loadAt 38 (ρ (.tmp 6)) >>= fun v => pure (Next.value v)).run Try.prog W)
        rw [e6]
        exact upon_st hC.1.s ⟨Below.refl _ _, rfl⟩
      refine gSt (gStep_on 2 38 true rfl rfl (by decide +kernel) (fun v w h => h) ?_) ?_
      · intro ρ W hC hc hf hL
        have e39 : ρ (.tmp 39) = .agg #[.int .u64 (dgl (q) 0 : Nat), .int .u64 (dgl (q) 1 : Nat), .int .u64 (dgl (q) 2 : Nat), .int .u64 (dgl (q) 3 : Nat), .int .u64 (dgl (q) 4 : Nat), .int .u64 (dgl (q) 5 : Nat), .int .u64 (dgl (q) 6 : Nat), .int .u64 (dgl (q) 7 : Nat), .int .u64 (dgl (y) 0 : Nat), .int .u64 (dgl (y) 1 : Nat), .int .u64 (dgl (y) 2 : Nat), .int .u64 (dgl (y) 3 : Nat), .int .u64 (dgl (y) 4 : Nat), .int .u64 (dgl (y) 5 : Nat), .int .u64 (dgl (y) 6 : Nat), .int .u64 (dgl (y) 7 : Nat)] := hL 39 (by decide +kernel)
        have e40 : ρ (.tmp 40) = .agg #[.int .u64 (dgl (q) 0 : Nat), .int .u64 (dgl (q) 1 : Nat), .int .u64 (dgl (q) 2 : Nat), .int .u64 (dgl (q) 3 : Nat), .int .u64 (dgl (q) 4 : Nat), .int .u64 (dgl (q) 5 : Nat), .int .u64 (dgl (q) 6 : Nat), .int .u64 (dgl (q) 7 : Nat), .int .u64 (dgl (y) 0 : Nat), .int .u64 (dgl (y) 1 : Nat), .int .u64 (dgl (y) 2 : Nat), .int .u64 (dgl (y) 3 : Nat), .int .u64 (dgl (y) 4 : Nat), .int .u64 (dgl (y) 5 : Nat), .int .u64 (dgl (y) 6 : Nat), .int .u64 (dgl (y) 7 : Nat)] := hL 40 (by decide +kernel)
        have hq := HST.out W
        have hqy := HSY.out W
        simp [go_sem, hc, hf, e39, e40, hq, hqy]
        exact ⟨Below.refl _ _, rfl⟩
      refine gSt (gStep_run rfl (gRun_pickT 38 41 42 _ rfl rfl (by decide +kernel) (by decide +kernel) (fun v w h => h) (fun v w h => h))) ?_
      refine gSt (gStep_run rfl (gRun_move 42 43 (.inl rfl) rfl (by decide +kernel) (fun v w h => h))) ?_
      refine gSt (gStep_on 7 43 true rfl rfl (by decide +kernel) (fun v w h => h) ?_) ?_
      · intro ρ W hC hc hf hL
        simp [go_sem, hc, hf]
        refine (HAW.out W).mono ?_
        rintro e w' ⟨rfl, hb⟩
        exact ⟨_, rfl, by first | exact hb | (subst hb; exact Below.refl _ _), rfl⟩
      refine gSt (gStep_run rfl (gRun_pickT 43 44 45 _ rfl rfl (by decide +kernel) (by decide +kernel) (fun v w h => h) (fun v w h => h))) ?_
      refine gSt (gStep_run rfl (gRun_move 45 4 (.inr rfl) rfl (by decide +kernel) (fun v w h => h))) ?_
      exact gSt0
    · intro W hC
      refine gFi 36 rfl ?_
      rintro _ rfl
      refine gFi 37 rfl ?_
      rintro _ rfl
      refine gFi 38 rfl ?_
      rintro _ rfl
      refine gFi 39 rfl ?_
      rintro _ rfl
      refine gFi 40 rfl ?_
      rintro _ rfl
      refine gFi 41 rfl ?_
      rintro _ rfl
      refine gFi 42 rfl ?_
      rintro _ rfl
      refine gFi 43 rfl ?_
      rintro _ rfl
      refine gFi 44 rfl ?_
      rintro _ rfl
      refine gFi 45 rfl ?_
      rintro _ rfl
      refine gFi 4 rfl ?_
      rintro _ rfl
      refine gFi0 ?_
      simp only [List.drop_succ_cons, List.drop_zero, Act.put, List.setIfInBounds_toArray, List.set_cons_succ, List.set_cons_zero]
      have HBE := hide hC.1.bel
      clear hC HF
      go_wp2
      go_ret
      exact ⟨rfl, HBE.out⟩
      
    
end Go.Proofs.Ytgnaomgcfliamaa

/- FlyNext, a digit above 0. -/
set_option linter.unusedVariables false
set_option linter.unusedSimpArgs false
set_option maxRecDepth 8000
namespace Go.Proofs.Ytgnaomgcfliamaa
open Go.RowKit Plain

set_option maxHeartbeats 8000000 in
theorem flyNext_P (q y a b m : Nat) (hm : 0 < m) 
    (HQ : Hid (∀ w, (Op.equalIn 10000 26 (.agg #[.int .u64 (dgl (q) 0 : Nat), .int .u64 (dgl (q) 1 : Nat), .int .u64 (dgl (q) 2 : Nat), .int .u64 (dgl (q) 3 : Nat), .int .u64 (dgl (q) 4 : Nat), .int .u64 (dgl (q) 5 : Nat), .int .u64 (dgl (q) 6 : Nat), .int .u64 (dgl (q) 7 : Nat)]) (.agg #[.int .u64 (dgl (q) 0 : Nat), .int .u64 (dgl (q) 1 : Nat), .int .u64 (dgl (q) 2 : Nat), .int .u64 (dgl (q) 3 : Nat), .int .u64 (dgl (q) 4 : Nat), .int .u64 (dgl (q) 5 : Nat), .int .u64 (dgl (q) 6 : Nat), .int .u64 (dgl (q) 7 : Nat)])).run Try.prog w = .ok true w))
    (HY : Hid (∀ w, (Op.equalIn 10000 26 (.agg #[.int .u64 (dgl (y) 0 : Nat), .int .u64 (dgl (y) 1 : Nat), .int .u64 (dgl (y) 2 : Nat), .int .u64 (dgl (y) 3 : Nat), .int .u64 (dgl (y) 4 : Nat), .int .u64 (dgl (y) 5 : Nat), .int .u64 (dgl (y) 6 : Nat), .int .u64 (dgl (y) 7 : Nat)]) (.agg #[.int .u64 (dgl (y) 0 : Nat), .int .u64 (dgl (y) 1 : Nat), .int .u64 (dgl (y) 2 : Nat), .int .u64 (dgl (y) 3 : Nat), .int .u64 (dgl (y) 4 : Nat), .int .u64 (dgl (y) 5 : Nat), .int .u64 (dgl (y) 6 : Nat), .int .u64 (dgl (y) 7 : Nat)])).run Try.prog w = .ok true w))
    (HNW : Hid (∀ w, Calls Try.prog 13 #[.agg #[.int .u64 (dgl (q) 0 : Nat), .int .u64 (dgl (q) 1 : Nat), .int .u64 (dgl (q) 2 : Nat), .int .u64 (dgl (q) 3 : Nat), .int .u64 (dgl (q) 4 : Nat), .int .u64 (dgl (q) 5 : Nat), .int .u64 (dgl (q) 6 : Nat), .int .u64 (dgl (q) 7 : Nat)]] w fun e w' => e = .returned (.agg #[.int .u64 (dgl (q) 0 : Nat), .int .u64 (dgl (q) 1 : Nat), .int .u64 (dgl (q) 2 : Nat), .int .u64 (dgl (q) 3 : Nat), .int .u64 (dgl (q) 4 : Nat), .int .u64 (dgl (q) 5 : Nat), .int .u64 (dgl (q) 6 : Nat), .int .u64 (dgl (q) 7 : Nat), .int .u64 (dgl (y) 0 : Nat), .int .u64 (dgl (y) 1 : Nat), .int .u64 (dgl (y) 2 : Nat), .int .u64 (dgl (y) 3 : Nat), .int .u64 (dgl (y) 4 : Nat), .int .u64 (dgl (y) 5 : Nat), .int .u64 (dgl (y) 6 : Nat), .int .u64 (dgl (y) 7 : Nat)]) ∧ Below w.heap.size w w'))
    (HBQ : Hid (∀ w, Calls Try.prog 14 #[.agg #[.int .u64 (dgl (q) 0 : Nat), .int .u64 (dgl (q) 1 : Nat), .int .u64 (dgl (q) 2 : Nat), .int .u64 (dgl (q) 3 : Nat), .int .u64 (dgl (q) 4 : Nat), .int .u64 (dgl (q) 5 : Nat), .int .u64 (dgl (q) 6 : Nat), .int .u64 (dgl (q) 7 : Nat)]] w fun e w' => ∃ v, e = .returned v ∧ BigV w' v q 40 ∧ Below w.heap.size w w'))
    (HW1 : Hid (∀ u v w, BigV w u q 40 → BigV w v 1 2 → Calls Try.prog 11 #[u, v] w fun e w' => e = .returned (.agg #[.int .u64 (dgl (y) 0 : Nat), .int .u64 (dgl (y) 1 : Nat), .int .u64 (dgl (y) 2 : Nat), .int .u64 (dgl (y) 3 : Nat), .int .u64 (dgl (y) 4 : Nat), .int .u64 (dgl (y) 5 : Nat), .int .u64 (dgl (y) 6 : Nat), .int .u64 (dgl (y) 7 : Nat)]) ∧ Below w.heap.size w w'))
    (HNX : Hid (∀ w, Calls Try.prog 15 #[.agg #[.int .u64 (dgl (q) 0 : Nat), .int .u64 (dgl (q) 1 : Nat), .int .u64 (dgl (q) 2 : Nat), .int .u64 (dgl (q) 3 : Nat), .int .u64 (dgl (q) 4 : Nat), .int .u64 (dgl (q) 5 : Nat), .int .u64 (dgl (q) 6 : Nat), .int .u64 (dgl (q) 7 : Nat), .int .u64 (dgl (y) 0 : Nat), .int .u64 (dgl (y) 1 : Nat), .int .u64 (dgl (y) 2 : Nat), .int .u64 (dgl (y) 3 : Nat), .int .u64 (dgl (y) 4 : Nat), .int .u64 (dgl (y) 5 : Nat), .int .u64 (dgl (y) 6 : Nat), .int .u64 (dgl (y) 7 : Nat)], .int .i64 ((m : Nat) : Int)] w fun e w' => e = .returned (.tuple #[.agg #[.int .u64 (dgl (a) 0 : Nat), .int .u64 (dgl (a) 1 : Nat), .int .u64 (dgl (a) 2 : Nat), .int .u64 (dgl (a) 3 : Nat), .int .u64 (dgl (a) 4 : Nat), .int .u64 (dgl (a) 5 : Nat), .int .u64 (dgl (a) 6 : Nat), .int .u64 (dgl (a) 7 : Nat), .int .u64 (dgl (b) 0 : Nat), .int .u64 (dgl (b) 1 : Nat), .int .u64 (dgl (b) 2 : Nat), .int .u64 (dgl (b) 3 : Nat), .int .u64 (dgl (b) 4 : Nat), .int .u64 (dgl (b) 5 : Nat), .int .u64 (dgl (b) 6 : Nat), .int .u64 (dgl (b) 7 : Nat)], .bool true]) ∧ Below w.heap.size w w'))
    (HIS : Hid (∀ w, Calls Try.prog 9 #[.int .i64 ((m : Nat) : Int)] w fun e w' => e = .returned (.bool true) ∧ w' = w))
    (hm3 : m ≤ 3)
    (HQA : Hid (∀ w, (Op.equalIn 10000 26 (.agg #[.int .u64 (dgl (a) 0 : Nat), .int .u64 (dgl (a) 1 : Nat), .int .u64 (dgl (a) 2 : Nat), .int .u64 (dgl (a) 3 : Nat), .int .u64 (dgl (a) 4 : Nat), .int .u64 (dgl (a) 5 : Nat), .int .u64 (dgl (a) 6 : Nat), .int .u64 (dgl (a) 7 : Nat)]) (.agg #[.int .u64 (dgl (a) 0 : Nat), .int .u64 (dgl (a) 1 : Nat), .int .u64 (dgl (a) 2 : Nat), .int .u64 (dgl (a) 3 : Nat), .int .u64 (dgl (a) 4 : Nat), .int .u64 (dgl (a) 5 : Nat), .int .u64 (dgl (a) 6 : Nat), .int .u64 (dgl (a) 7 : Nat)])).run Try.prog w = .ok true w))
    (HQB : Hid (∀ w, (Op.equalIn 10000 26 (.agg #[.int .u64 (dgl (b) 0 : Nat), .int .u64 (dgl (b) 1 : Nat), .int .u64 (dgl (b) 2 : Nat), .int .u64 (dgl (b) 3 : Nat), .int .u64 (dgl (b) 4 : Nat), .int .u64 (dgl (b) 5 : Nat), .int .u64 (dgl (b) 6 : Nat), .int .u64 (dgl (b) 7 : Nat)]) (.agg #[.int .u64 (dgl (b) 0 : Nat), .int .u64 (dgl (b) 1 : Nat), .int .u64 (dgl (b) 2 : Nat), .int .u64 (dgl (b) 3 : Nat), .int .u64 (dgl (b) 4 : Nat), .int .u64 (dgl (b) 5 : Nat), .int .u64 (dgl (b) 6 : Nat), .int .u64 (dgl (b) 7 : Nat)])).run Try.prog w = .ok true w))
    (HSM : Hid (∀ w, Calls Try.prog 12 #[.int .u64 (m : Nat)] w fun e w' => ∃ v, e = .returned v ∧ BigV w' v m 2 ∧ Below w.heap.size w w'))
    (HWA : Hid (∀ u v w, BigV w u (q * 2 ^ 2 + m) 50 → BigV w v 0 50 → Calls Try.prog 11 #[u, v] w fun e w' => e = .returned (.agg #[.int .u64 (dgl (a) 0 : Nat), .int .u64 (dgl (a) 1 : Nat), .int .u64 (dgl (a) 2 : Nat), .int .u64 (dgl (a) 3 : Nat), .int .u64 (dgl (a) 4 : Nat), .int .u64 (dgl (a) 5 : Nat), .int .u64 (dgl (a) 6 : Nat), .int .u64 (dgl (a) 7 : Nat)]) ∧ Below w.heap.size w w'))
    (HWB : Hid (∀ u v w, BigV w u (q * 2 ^ 2 + m) 50 → BigV w v (0 + 1) 51 → Calls Try.prog 11 #[u, v] w fun e w' => e = .returned (.agg #[.int .u64 (dgl (b) 0 : Nat), .int .u64 (dgl (b) 1 : Nat), .int .u64 (dgl (b) 2 : Nat), .int .u64 (dgl (b) 3 : Nat), .int .u64 (dgl (b) 4 : Nat), .int .u64 (dgl (b) 5 : Nat), .int .u64 (dgl (b) 6 : Nat), .int .u64 (dgl (b) 7 : Nat)]) ∧ Below w.heap.size w w')) (HAW : Hid (∀ w, Calls Try.prog 7 #[] w fun e w' => e = .returned (.bool true) ∧ Below w.heap.size w w')) (w : World) :
    Calls Try.prog 4 #[.agg #[.int .u64 (dgl (q) 0 : Nat), .int .u64 (dgl (q) 1 : Nat), .int .u64 (dgl (q) 2 : Nat), .int .u64 (dgl (q) 3 : Nat), .int .u64 (dgl (q) 4 : Nat), .int .u64 (dgl (q) 5 : Nat), .int .u64 (dgl (q) 6 : Nat), .int .u64 (dgl (q) 7 : Nat)], .int .i64 ((m : Nat) : Int)] w fun e w' => e = .returned (.bool true) ∧ Below w.heap.size w w' := by
  have hgt : (0 : Int) < ((m : Nat) : Int) := by omega
  have hcv : IntKind.u64.wrap ((m : Nat) : Int) = ((m : Nat) : Int) := by rw [IntKind.wrap_u64]; omega
  have HS : Hid (LiesF (w.alloc (.cells #[.int .u64 (dgl (q) 0 : Nat), .int .u64 (dgl (q) 1 : Nat), .int .u64 (dgl (q) 2 : Nat), .int .u64 (dgl (q) 3 : Nat), .int .u64 (dgl (q) 4 : Nat), .int .u64 (dgl (q) 5 : Nat), .int .u64 (dgl (q) 6 : Nat), .int .u64 (dgl (q) 7 : Nat)] 26)) w.heap.size (dgl q) ∧ Below w.heap.size w (w.alloc (.cells #[.int .u64 (dgl (q) 0 : Nat), .int .u64 (dgl (q) 1 : Nat), .int .u64 (dgl (q) 2 : Nat), .int .u64 (dgl (q) 3 : Nat), .int .u64 (dgl (q) 4 : Nat), .int .u64 (dgl (q) 5 : Nat), .int .u64 (dgl (q) 6 : Nat), .int .u64 (dgl (q) 7 : Nat)] 26))) := ⟨liesF_new w (dgl q) _, below_allocs w _⟩
  have HS1 := hide (fun w => small_any 1 (by decide) w)
  go_enter Try.func4, Try.ntmps4
  go_wp2_with fail
  refine (HS1.out _).mono ?_
  rintro e w1 ⟨v5, rfl, hv5, hb1⟩
  obtain ⟨o5, l5, c5, rfl⟩ := bigz_slice hv5
  have HS2 : Hid (LiesF w1 w.heap.size (dgl q) ∧ BigV w1 (.slice o5 l5 c5) 1 2 ∧ Below w.heap.size w w1) := ⟨HS.out.1.below hb1, hv5, below_trans HS.out.2 hb1⟩
  clear HS hb1 HS1 hv5
  have hla := HS2.out.1.1
  go_wp2_with fail
  refine (HNW.out _).mono ?_
  rintro e w2 ⟨rfl, hb2⟩
  have HS3 : Hid (LiesF w2 w.heap.size (dgl q) ∧ BigV w2 (.slice o5 l5 c5) 1 2 ∧ Below w.heap.size w w2) := ⟨HS2.out.1.below hb2, HS2.out.2.1.below hb2, below_trans HS2.out.2.2 hb2⟩
  clear HS2 hb2 HNW hla
  go_upto_region 3 with fail
  have hbw := below_allocs w2 (.cells #[.int .u64 (dgl (q) 0 : Nat), .int .u64 (dgl (q) 1 : Nat), .int .u64 (dgl (q) 2 : Nat), .int .u64 (dgl (q) 3 : Nat), .int .u64 (dgl (q) 4 : Nat), .int .u64 (dgl (q) 5 : Nat), .int .u64 (dgl (q) 6 : Nat), .int .u64 (dgl (q) 7 : Nat), .int .u64 (dgl (y) 0 : Nat), .int .u64 (dgl (y) 1 : Nat), .int .u64 (dgl (y) 2 : Nat), .int .u64 (dgl (y) 3 : Nat), .int .u64 (dgl (y) 4 : Nat), .int .u64 (dgl (y) 5 : Nat), .int .u64 (dgl (y) 6 : Nat), .int .u64 (dgl (y) 7 : Nat)] 38)
  refine wp_gen (fun W => FnSt q y w2.heap.size (.slice o5 l5 c5) w W) ⟨HS3.out.1.below hbw, HS3.out.2.1.below hbw, stB_new w2 q y _, below_trans HS3.out.2.2 hbw⟩ ?_
  clear HS3 hbw
  generalize w2.heap.size = p6 at *
  rintro W3 h3
  have HF := hide h3
  clear h3
  refine wp_region_grow 13 [(14, .val (.pointer (some ⟨p6, 0, none⟩))), (15, .val (.agg #[.int .u64 (dgl (q) 0 : Nat), .int .u64 (dgl (q) 1 : Nat), .int .u64 (dgl (q) 2 : Nat), .int .u64 (dgl (q) 3 : Nat), .int .u64 (dgl (q) 4 : Nat), .int .u64 (dgl (q) 5 : Nat), .int .u64 (dgl (q) 6 : Nat), .int .u64 (dgl (q) 7 : Nat)])), (16, .val (.agg #[.int .u64 (dgl (q) 0 : Nat), .int .u64 (dgl (q) 1 : Nat), .int .u64 (dgl (q) 2 : Nat), .int .u64 (dgl (q) 3 : Nat), .int .u64 (dgl (q) 4 : Nat), .int .u64 (dgl (q) 5 : Nat), .int .u64 (dgl (q) 6 : Nat), .int .u64 (dgl (q) 7 : Nat)])), (17, .val (.bool false)), (18, .val (.bool false)), (19, .val (.pointer (some ⟨p6, 8, none⟩))), (20, .val (.agg #[.int .u64 (dgl (y) 0 : Nat), .int .u64 (dgl (y) 1 : Nat), .int .u64 (dgl (y) 2 : Nat), .int .u64 (dgl (y) 3 : Nat), .int .u64 (dgl (y) 4 : Nat), .int .u64 (dgl (y) 5 : Nat), .int .u64 (dgl (y) 6 : Nat), .int .u64 (dgl (y) 7 : Nat)])), (21, .val (.agg #[.int .u64 (dgl (q) 0 : Nat), .int .u64 (dgl (q) 1 : Nat), .int .u64 (dgl (q) 2 : Nat), .int .u64 (dgl (q) 3 : Nat), .int .u64 (dgl (q) 4 : Nat), .int .u64 (dgl (q) 5 : Nat), .int .u64 (dgl (q) 6 : Nat), .int .u64 (dgl (q) 7 : Nat)])), (22, .big q 40), (23, .val (.slice o5 l5 c5)), (24, .val (.agg #[.int .u64 (dgl (y) 0 : Nat), .int .u64 (dgl (y) 1 : Nat), .int .u64 (dgl (y) 2 : Nat), .int .u64 (dgl (y) 3 : Nat), .int .u64 (dgl (y) 4 : Nat), .int .u64 (dgl (y) 5 : Nat), .int .u64 (dgl (y) 6 : Nat), .int .u64 (dgl (y) 7 : Nat)])), (25, .val (.bool false)), (26, .val (.bool false))]
    (fun W => FnSt q y p6 (.slice o5 l5 c5) w W) mixedOk (by kernel_rfl) (by kernel_rfl) (HF.out.below (Below.refl _ _).drew) (fun W W' h hb => h.below hb) ?_ ?_
  · refine gSt (gStep_run rfl ?_) ?_
    · intro ρ W hC hc hf hL
      have e6 : ρ (.tmp 6) = .pointer (some ⟨p6, 0, none⟩) := hL 6 (by decide +kernel)
      simp [go_sem, hc, hf, e6]
      exact ⟨Below.refl _ _, rfl⟩
    refine gSt (gStep_run rfl ?_) ?_
    · intro ρ W hC hc hf hL
      have e14 : ρ (.tmp 14) = .pointer (some ⟨p6, 0, none⟩) := hL 14 (by decide +kernel)
      have hl := hC.s.lo
      simp [go_sem, hc, hf, e14, hl]
      exact ⟨Below.refl _ _, rfl⟩
    refine gSt (gStep_run rfl ?_) ?_
    · intro ρ W hC hc hf hL
      have e2 : ρ (.tmp 2) = .pointer (some ⟨w.heap.size, 0, none⟩) := hL 2 (by decide +kernel)
      have hl := hC.la.1
      simp [go_sem, hc, hf, e2, hl]
      exact ⟨Below.refl _ _, rfl⟩
    refine gSt (gStep_run rfl ?_) ?_
    · intro ρ W hC hc hf hL
      have e15 : ρ (.tmp 15) = .agg #[.int .u64 (dgl (q) 0 : Nat), .int .u64 (dgl (q) 1 : Nat), .int .u64 (dgl (q) 2 : Nat), .int .u64 (dgl (q) 3 : Nat), .int .u64 (dgl (q) 4 : Nat), .int .u64 (dgl (q) 5 : Nat), .int .u64 (dgl (q) 6 : Nat), .int .u64 (dgl (q) 7 : Nat)] := hL 15 (by decide +kernel)
      have e16 : ρ (.tmp 16) = .agg #[.int .u64 (dgl (q) 0 : Nat), .int .u64 (dgl (q) 1 : Nat), .int .u64 (dgl (q) 2 : Nat), .int .u64 (dgl (q) 3 : Nat), .int .u64 (dgl (q) 4 : Nat), .int .u64 (dgl (q) 5 : Nat), .int .u64 (dgl (q) 6 : Nat), .int .u64 (dgl (q) 7 : Nat)] := hL 16 (by decide +kernel)
      have hq := HQ.out W
      simp [go_sem, hc, hf, e15, e16, hq]
      exact ⟨Below.refl _ _, rfl⟩
    refine gSt (gStep_run rfl (gRun_move 17 18 (.inl rfl) rfl (by decide +kernel) (fun v w h => h))) ?_
    refine gSt (gStep_on 4 18 false rfl rfl (by decide +kernel) (fun v w h => h) ?_) ?_
    · intro ρ W hC hc hf hL
      have e6 : ρ (.tmp 6) = .pointer (some ⟨p6, 0, none⟩) := hL 6 (by decide +kernel)
      simp [go_sem, hc, hf, e6]
      exact ⟨Below.refl _ _, rfl⟩
    refine gSt (gStep_on 4 18 false rfl rfl (by decide +kernel) (fun v w h => h) ?_) ?_
    · intro ρ W hC hc hf hL
      have e19 : ρ (.tmp 19) = .pointer (some ⟨p6, 8, none⟩) := hL 19 (by decide +kernel)
      have hl0 := hC.s.h0
      have hl1 := hC.s.h1
      have hl2 := hC.s.h2
      have hl3 := hC.s.h3
      have hl4 := hC.s.h4
      have hl5 := hC.s.h5
      have hl6 := hC.s.h6
      have hl7 := hC.s.h7
      simp [go_sem, hc, hf, e19, hl0, hl1, hl2, hl3, hl4, hl5, hl6, hl7]
      exact ⟨Below.refl _ _, rfl⟩
    refine gSt (gStep_on 4 18 false rfl rfl (by decide +kernel) (fun v w h => h) ?_) ?_
    · intro ρ W hC hc hf hL
      have e2 : ρ (.tmp 2) = .pointer (some ⟨w.heap.size, 0, none⟩) := hL 2 (by decide +kernel)
      have hl := hC.la.1
      simp [go_sem, hc, hf, e2, hl]
      exact ⟨Below.refl _ _, rfl⟩
    refine gSt (gStep_on 4 18 false rfl rfl (by decide +kernel) (fun v w h => h) ?_) ?_
    · intro ρ W hC hc hf hL
      have e21 : ρ (.tmp 21) = .agg #[.int .u64 (dgl (q) 0 : Nat), .int .u64 (dgl (q) 1 : Nat), .int .u64 (dgl (q) 2 : Nat), .int .u64 (dgl (q) 3 : Nat), .int .u64 (dgl (q) 4 : Nat), .int .u64 (dgl (q) 5 : Nat), .int .u64 (dgl (q) 6 : Nat), .int .u64 (dgl (q) 7 : Nat)] := hL 21 (by decide +kernel)
      simp [go_sem, hc, hf, e21]
      refine (HBQ.out W).mono ?_
      rintro e w' ⟨v, rfl, hv, hb⟩
      exact ⟨_, rfl, hb, hv⟩
    refine gSt (gStep_on 4 18 false rfl rfl (by decide +kernel) (fun v w h => h) (gRun_move 5 23 (.inl rfl) rfl (by decide +kernel) (fun v w h => h))) ?_
    refine gSt (gStep_on 4 18 false rfl rfl (by decide +kernel) (fun v w h => h) ?_) ?_
    · intro ρ W hC hc hf hL
      have b22 : BigV W (ρ (.tmp 22)) (q) (40) := hL 22 (by decide +kernel)
      have e23 : ρ (.tmp 23) = .slice o5 l5 c5 := hL 23 (by decide +kernel)
      simp [go_sem, hc, hf, e23]
      refine (HW1.out _ _ W b22 hC.b5).mono ?_
      rintro e w' ⟨rfl, hb⟩
      exact ⟨_, rfl, by first | exact hb | (subst hb; exact Below.refl _ _), rfl⟩
    refine gSt (gStep_on 4 18 false rfl rfl (by decide +kernel) (fun v w h => h) ?_) ?_
    · intro ρ W hC hc hf hL
      have e20 : ρ (.tmp 20) = .agg #[.int .u64 (dgl (y) 0 : Nat), .int .u64 (dgl (y) 1 : Nat), .int .u64 (dgl (y) 2 : Nat), .int .u64 (dgl (y) 3 : Nat), .int .u64 (dgl (y) 4 : Nat), .int .u64 (dgl (y) 5 : Nat), .int .u64 (dgl (y) 6 : Nat), .int .u64 (dgl (y) 7 : Nat)] := hL 20 (by decide +kernel)
      have e24 : ρ (.tmp 24) = .agg #[.int .u64 (dgl (y) 0 : Nat), .int .u64 (dgl (y) 1 : Nat), .int .u64 (dgl (y) 2 : Nat), .int .u64 (dgl (y) 3 : Nat), .int .u64 (dgl (y) 4 : Nat), .int .u64 (dgl (y) 5 : Nat), .int .u64 (dgl (y) 6 : Nat), .int .u64 (dgl (y) 7 : Nat)] := hL 24 (by decide +kernel)
      have hq := HY.out W
      simp [go_sem, hc, hf, e20, e24, hq]
      exact ⟨Below.refl _ _, rfl⟩
    refine gSt (gStep_run rfl (gRun_pickCF 18 25 26 _ rfl rfl (by decide +kernel) (by decide +kernel) (fun v w h => h) (fun v w h => h))) ?_
    exact gSt0
  · intro W hC
    refine gFi 14 rfl ?_
    rintro _ rfl
    refine gFi 15 rfl ?_
    rintro _ rfl
    refine gFi 16 rfl ?_
    rintro _ rfl
    refine gFi 17 rfl ?_
    rintro _ rfl
    refine gFi 18 rfl ?_
    rintro _ rfl
    refine gFi 19 rfl ?_
    rintro _ rfl
    refine gFi 20 rfl ?_
    rintro _ rfl
    refine gFi 21 rfl ?_
    rintro _ rfl
    refine gFi 22 rfl ?_
    rintro u22 b22
    refine gFi 23 rfl ?_
    rintro _ rfl
    refine gFi 24 rfl ?_
    rintro _ rfl
    refine gFi 25 rfl ?_
    rintro _ rfl
    refine gFi 26 rfl ?_
    rintro _ rfl
    refine gFi0 ?_
    simp only [List.drop_succ_cons, List.drop_zero, Act.put, List.setIfInBounds_toArray, List.set_cons_succ, List.set_cons_zero]
    replace HF := hide hC
    clear hC b22
    have hs := HF.out.s.lo
    have hs0 := HF.out.s.h0
    have hs1 := HF.out.s.h1
    have hs2 := HF.out.s.h2
    have hs3 := HF.out.s.h3
    have hs4 := HF.out.s.h4
    have hs5 := HF.out.s.h5
    have hs6 := HF.out.s.h6
    have hs7 := HF.out.s.h7
    go_wp2_with fail
    refine (HNX.out _).mono ?_
    rintro e w4 ⟨rfl, hb4⟩
    replace HF := hide (HF.out.below hb4)
    clear hb4 HNX hs hs0 hs1 hs2 hs3 hs4 hs5 hs6 hs7
    go_upto_region 6 with fail
    have hbw := below_allocs w4 (.cells #[.int .u64 (dgl (a) 0 : Nat), .int .u64 (dgl (a) 1 : Nat), .int .u64 (dgl (a) 2 : Nat), .int .u64 (dgl (a) 3 : Nat), .int .u64 (dgl (a) 4 : Nat), .int .u64 (dgl (a) 5 : Nat), .int .u64 (dgl (a) 6 : Nat), .int .u64 (dgl (a) 7 : Nat), .int .u64 (dgl (b) 0 : Nat), .int .u64 (dgl (b) 1 : Nat), .int .u64 (dgl (b) 2 : Nat), .int .u64 (dgl (b) 3 : Nat), .int .u64 (dgl (b) 4 : Nat), .int .u64 (dgl (b) 5 : Nat), .int .u64 (dgl (b) 6 : Nat), .int .u64 (dgl (b) 7 : Nat)] 38)
    refine wp_gen (fun W => FnSt q y p6 (.slice o5 l5 c5) w W ∧ StB W w4.heap.size (a) (b)) ⟨HF.out.below hbw, stB_new w4 _ _ _⟩ ?_
    clear HF hbw
    generalize w4.heap.size = p7 at *
    rintro W6 h6
    have HF := hide h6
    clear h6
    go_wp2_with fail
    refine (HIS.out _).mono ?_
    rintro e w' ⟨rfl, hw⟩
    subst w'
    replace HF := hide (show LiesF W6 w.heap.size (dgl q) ∧ BigV W6 (.slice o5 l5 c5) 1 2 ∧ StB W6 p7 a b ∧ Below w.heap.size w W6 from ⟨HF.out.1.la, HF.out.1.b5, HF.out.2, HF.out.1.bel⟩)
    have hla := HF.out.1.1
    go_wp2_with fail
    refine (HBQ.out _).mono ?_
    rintro e w7 ⟨v7, rfl, hv7, hb7⟩
    replace HF := hide (show LiesF w7 w.heap.size (dgl q) ∧ BigV w7 (.slice o5 l5 c5) 1 2 ∧ StB w7 p7 a b ∧ Below w.heap.size w w7 from ⟨HF.out.1.below hb7, HF.out.2.1.below hb7, HF.out.2.2.1.below hb7, below_trans HF.out.2.2.2 hb7⟩)
    clear hla hb7
    have HSH := hide (refShl_any q 40 2 _ _ hv7 (by decide) (by decide))
    clear hv7
    go_wp2_with fail
    refine HSH.out.mono ?_
    rintro e w8 ⟨v8, rfl, hv8, hb8⟩
    obtain ⟨o8, l8, c8, rfl⟩ := bigz_slice hv8
    replace HF := hide (show LiesF w8 w.heap.size (dgl q) ∧ BigV w8 (.slice o5 l5 c5) 1 2 ∧ StB w8 p7 a b ∧ Below w.heap.size w w8 from ⟨HF.out.1.below hb8, HF.out.2.1.below hb8, HF.out.2.2.1.below hb8, below_trans HF.out.2.2.2 hb8⟩)
    have HX := hide hv8
    clear HSH hv8 hb8
    have HZ0 := hide (fun W => bigz_nil W (some ⟨w8.heap.size, 0, none⟩))
    have HEA := hide (fun W (hW : Below (w8.alloc (.cells #[] 60)).heap.size (w8.alloc (.cells #[] 60)) W) => (below_allocs w8 (.cells #[] 60)).trans (hW.mono (by simp)))
    go_wp2_with fail
    refine (HSM.out _).mono ?_
    rintro e w9 ⟨v9, rfl, hv9, hb9⟩
    obtain ⟨o9, l9, c9, rfl⟩ := bigz_slice hv9
    replace hb9 := HEA.out _ hb9
    replace HF := hide (show LiesF w9 w.heap.size (dgl q) ∧ BigV w9 (.slice o5 l5 c5) 1 2 ∧ StB w9 p7 a b ∧ Below w.heap.size w w9 from ⟨HF.out.1.below hb9, HF.out.2.1.below hb9, HF.out.2.2.1.below hb9, below_trans HF.out.2.2.2 hb9⟩)
    replace HX := hide (HX.out.below hb9)
    have HAD := hide (refAdd_any (q * 2 ^ 2) m (2 / 32 + 40 + 1) 2 _ _ _ HX.out hv9 (by decide) (by decide))
    clear hv9 hb9 HEA HX
    go_wp2_with fail
    refine HAD.out.mono ?_
    rintro e w10 ⟨v10, rfl, hv10, hb10⟩
    obtain ⟨o10, l10, c10, rfl⟩ := bigz_slice hv10
    replace HF := hide (show LiesF w10 w.heap.size (dgl q) ∧ BigV w10 (.slice o5 l5 c5) 1 2 ∧ StB w10 p7 a b ∧ Below w.heap.size w w10 from ⟨HF.out.1.below hb10, HF.out.2.1.below hb10, HF.out.2.2.1.below hb10, below_trans HF.out.2.2.2 hb10⟩)
    have HX := hide (hv10.mono (show _ ≤ 50 by decide))
    have HY0 := hide ((HZ0.out w10).mono (show _ ≤ 50 by decide))
    clear HAD hv10 hb10 HZ0
    generalize (some ⟨w8.heap.size, 0, none⟩ : Option Addr) = ay at *
    replace HF := hide (show (LiesF w10 w.heap.size (dgl q) ∧ BigV w10 (.slice o5 l5 c5) 1 2 ∧ StB w10 p7 a b ∧ Below w.heap.size w w10) ∧ BigV w10 (.slice o10 l10 c10) (q * 2 ^ 2 + m) 50 ∧ BigV w10 (.slice ay 0 0) 0 50 from ⟨HF.out, HX.out, HY0.out⟩)
    clear HX HY0
    go_upto_region 12 with fail
    refine wp_region_grow 23 [(61, .val (.bool true)), (62, .val (.bool true)), (63, .val (.pointer (some ⟨p7, 0, none⟩))), (64, .val (.agg #[.int .u64 (dgl (a) 0 : Nat), .int .u64 (dgl (a) 1 : Nat), .int .u64 (dgl (a) 2 : Nat), .int .u64 (dgl (a) 3 : Nat), .int .u64 (dgl (a) 4 : Nat), .int .u64 (dgl (a) 5 : Nat), .int .u64 (dgl (a) 6 : Nat), .int .u64 (dgl (a) 7 : Nat)])), (65, .val ((.slice o10 l10 c10))), (66, .val ((.slice ay 0 0))), (67, .val (.agg #[.int .u64 (dgl (a) 0 : Nat), .int .u64 (dgl (a) 1 : Nat), .int .u64 (dgl (a) 2 : Nat), .int .u64 (dgl (a) 3 : Nat), .int .u64 (dgl (a) 4 : Nat), .int .u64 (dgl (a) 5 : Nat), .int .u64 (dgl (a) 6 : Nat), .int .u64 (dgl (a) 7 : Nat)])), (68, .val (.bool true)), (69, .val (.bool true)), (70, .val (.bool true)), (71, .val (.pointer (some ⟨p7, 8, none⟩))), (72, .val (.agg #[.int .u64 (dgl (b) 0 : Nat), .int .u64 (dgl (b) 1 : Nat), .int .u64 (dgl (b) 2 : Nat), .int .u64 (dgl (b) 3 : Nat), .int .u64 (dgl (b) 4 : Nat), .int .u64 (dgl (b) 5 : Nat), .int .u64 (dgl (b) 6 : Nat), .int .u64 (dgl (b) 7 : Nat)])), (73, .val ((.slice o10 l10 c10))), (74, .val ((.slice ay 0 0))), (75, .val (.slice o5 l5 c5)), (76, .big (0 + 1) 51), (77, .val (.agg #[.int .u64 (dgl (b) 0 : Nat), .int .u64 (dgl (b) 1 : Nat), .int .u64 (dgl (b) 2 : Nat), .int .u64 (dgl (b) 3 : Nat), .int .u64 (dgl (b) 4 : Nat), .int .u64 (dgl (b) 5 : Nat), .int .u64 (dgl (b) 6 : Nat), .int .u64 (dgl (b) 7 : Nat)])), (78, .val (.bool true)), (79, .val (.bool true)), (80, .val (.bool true)), (81, .val (.bool true)), (82, .val (.bool true)), (4, .val (.bool true))]
      (fun W => (LiesF W w.heap.size (dgl q) ∧ BigV W (.slice o5 l5 c5) 1 2 ∧ StB W p7 a b ∧ Below w.heap.size w W) ∧ BigV W (.slice o10 l10 c10) (q * 2 ^ 2 + m) 50 ∧ BigV W (.slice ay 0 0) 0 50) mixedOk (by kernel_rfl) (by kernel_rfl) (⟨⟨HF.out.1.1.below (Below.refl _ _).drew, HF.out.1.2.1.below (Below.refl _ _).drew, HF.out.1.2.2.1.below (Below.refl _ _).drew, below_trans HF.out.1.2.2.2 (Below.refl _ _).drew⟩, HF.out.2.1.below (Below.refl _ _).drew, HF.out.2.2.below (Below.refl _ _).drew⟩) (fun W W' h hb => ⟨⟨h.1.1.below hb, h.1.2.1.below hb, h.1.2.2.1.below hb, below_trans h.1.2.2.2 hb⟩, h.2.1.below hb, h.2.2.below hb⟩) ?_ ?_
    · refine gSt (gStep_run rfl (gRun_move 8 61 (.inl rfl) rfl (by decide +kernel) (fun v w h => h))) ?_
      refine gSt (gStep_run rfl (gRun_move 61 62 (.inl rfl) rfl (by decide +kernel) (fun v w h => h))) ?_
      refine gSt (gStep_on 1 62 true rfl rfl (by decide +kernel) (fun v w h => h) ?_) ?_
      · intro ρ W hC hc hf hL
        have e7 : ρ (.tmp 7) = .pointer (some ⟨p7, 0, none⟩) := hL 7 (by decide +kernel)
        simp [go_sem, hc, hf, e7]
        exact ⟨Below.refl _ _, rfl⟩
      refine gSt (gStep_on 1 62 true rfl rfl (by decide +kernel) (fun v w h => h) ?_) ?_
      · intro ρ W hC hc hf hL
        have e63 : ρ (.tmp 63) = .pointer (some ⟨p7, 0, none⟩) := hL 63 (by decide +kernel)
        have hl := hC.1.2.2.1.lo
        simp [go_sem, hc, hf, e63, hl]
        exact ⟨Below.refl _ _, rfl⟩
      refine gSt (gStep_on 1 62 true rfl rfl (by decide +kernel) (fun v w h => h) (gRun_move 9 65 (.inl rfl) rfl (by decide +kernel) (fun v w h => h))) ?_
      refine gSt (gStep_on 1 62 true rfl rfl (by decide +kernel) (fun v w h => h) (gRun_move 10 66 (.inl rfl) rfl (by decide +kernel) (fun v w h => h))) ?_
      refine gSt (gStep_on 1 62 true rfl rfl (by decide +kernel) (fun v w h => h) ?_) ?_
      · intro ρ W hC hc hf hL
        have e65 : ρ (.tmp 65) = (.slice o10 l10 c10) := hL 65 (by decide +kernel)
        have e66 : ρ (.tmp 66) = (.slice ay 0 0) := hL 66 (by decide +kernel)
        simp [go_sem, hc, hf, e65, e66]
        refine (HWA.out _ _ W hC.2.1 hC.2.2).mono ?_
        rintro e w' ⟨rfl, hb⟩
        exact ⟨_, rfl, by first | exact hb | (subst hb; exact Below.refl _ _), rfl⟩
      refine gSt (gStep_on 1 62 true rfl rfl (by decide +kernel) (fun v w h => h) ?_) ?_
      · intro ρ W hC hc hf hL
        have e64 : ρ (.tmp 64) = .agg #[.int .u64 (dgl (a) 0 : Nat), .int .u64 (dgl (a) 1 : Nat), .int .u64 (dgl (a) 2 : Nat), .int .u64 (dgl (a) 3 : Nat), .int .u64 (dgl (a) 4 : Nat), .int .u64 (dgl (a) 5 : Nat), .int .u64 (dgl (a) 6 : Nat), .int .u64 (dgl (a) 7 : Nat)] := hL 64 (by decide +kernel)
        have e67 : ρ (.tmp 67) = .agg #[.int .u64 (dgl (a) 0 : Nat), .int .u64 (dgl (a) 1 : Nat), .int .u64 (dgl (a) 2 : Nat), .int .u64 (dgl (a) 3 : Nat), .int .u64 (dgl (a) 4 : Nat), .int .u64 (dgl (a) 5 : Nat), .int .u64 (dgl (a) 6 : Nat), .int .u64 (dgl (a) 7 : Nat)] := hL 67 (by decide +kernel)
        have hq := HQA.out W
        simp [go_sem, hc, hf, e64, e67, hq]
        exact ⟨Below.refl _ _, rfl⟩
      refine gSt (gStep_run rfl (gRun_pickT 62 68 69 _ rfl rfl (by decide +kernel) (by decide +kernel) (fun v w h => h) (fun v w h => h))) ?_
      refine gSt (gStep_run rfl (gRun_move 69 70 (.inl rfl) rfl (by decide +kernel) (fun v w h => h))) ?_
      refine gSt (gStep_on 9 70 true rfl rfl (by decide +kernel) (fun v w h => h) ?_) ?_
      · intro ρ W hC hc hf hL
        have e7 : ρ (.tmp 7) = .pointer (some ⟨p7, 0, none⟩) := hL 7 (by decide +kernel)
        simp [go_sem, hc, hf, e7]
        exact ⟨Below.refl _ _, rfl⟩
      refine gSt (gStep_on 9 70 true rfl rfl (by decide +kernel) (fun v w h => h) ?_) ?_
      · intro ρ W hC hc hf hL
        have e71 : ρ (.tmp 71) = .pointer (some ⟨p7, 8, none⟩) := hL 71 (by decide +kernel)
        have hl0 := hC.1.2.2.1.h0
        have hl1 := hC.1.2.2.1.h1
        have hl2 := hC.1.2.2.1.h2
        have hl3 := hC.1.2.2.1.h3
        have hl4 := hC.1.2.2.1.h4
        have hl5 := hC.1.2.2.1.h5
        have hl6 := hC.1.2.2.1.h6
        have hl7 := hC.1.2.2.1.h7
        simp [go_sem, hc, hf, e71, hl0, hl1, hl2, hl3, hl4, hl5, hl6, hl7]
        exact ⟨Below.refl _ _, rfl⟩
      refine gSt (gStep_on 9 70 true rfl rfl (by decide +kernel) (fun v w h => h) (gRun_move 9 73 (.inl rfl) rfl (by decide +kernel) (fun v w h => h))) ?_
      refine gSt (gStep_on 9 70 true rfl rfl (by decide +kernel) (fun v w h => h) (gRun_move 10 74 (.inl rfl) rfl (by decide +kernel) (fun v w h => h))) ?_
      refine gSt (gStep_on 9 70 true rfl rfl (by decide +kernel) (fun v w h => h) (gRun_move 5 75 (.inl rfl) rfl (by decide +kernel) (fun v w h => h))) ?_
      refine gSt (gStep_on 9 70 true rfl rfl (by decide +kernel) (fun v w h => h) ?_) ?_
      · intro ρ W hC hc hf hL
        have e74 : ρ (.tmp 74) = (.slice ay 0 0) := hL 74 (by decide +kernel)
        have e75 : ρ (.tmp 75) = .slice o5 l5 c5 := hL 75 (by decide +kernel)
        simp [go_sem, hc, hf, e74, e75]
        refine (refAdd_any (0) 1 50 2 _ _ _ hC.2.2 hC.1.2.1 (by decide) (by decide)).mono ?_
        rintro e w' ⟨v, rfl, hv, hb⟩
        exact ⟨_, rfl, hb, hv⟩
      refine gSt (gStep_on 9 70 true rfl rfl (by decide +kernel) (fun v w h => h) ?_) ?_
      · intro ρ W hC hc hf hL
        have e73 : ρ (.tmp 73) = (.slice o10 l10 c10) := hL 73 (by decide +kernel)
        have b76 : BigV W (ρ (.tmp 76)) ((0 + 1)) (51) := hL 76 (by decide +kernel)
        simp [go_sem, hc, hf, e73]
        refine (HWB.out _ _ W hC.2.1 b76).mono ?_
        rintro e w' ⟨rfl, hb⟩
        exact ⟨_, rfl, by first | exact hb | (subst hb; exact Below.refl _ _), rfl⟩
      refine gSt (gStep_on 9 70 true rfl rfl (by decide +kernel) (fun v w h => h) ?_) ?_
      · intro ρ W hC hc hf hL
        have e72 : ρ (.tmp 72) = .agg #[.int .u64 (dgl (b) 0 : Nat), .int .u64 (dgl (b) 1 : Nat), .int .u64 (dgl (b) 2 : Nat), .int .u64 (dgl (b) 3 : Nat), .int .u64 (dgl (b) 4 : Nat), .int .u64 (dgl (b) 5 : Nat), .int .u64 (dgl (b) 6 : Nat), .int .u64 (dgl (b) 7 : Nat)] := hL 72 (by decide +kernel)
        have e77 : ρ (.tmp 77) = .agg #[.int .u64 (dgl (b) 0 : Nat), .int .u64 (dgl (b) 1 : Nat), .int .u64 (dgl (b) 2 : Nat), .int .u64 (dgl (b) 3 : Nat), .int .u64 (dgl (b) 4 : Nat), .int .u64 (dgl (b) 5 : Nat), .int .u64 (dgl (b) 6 : Nat), .int .u64 (dgl (b) 7 : Nat)] := hL 77 (by decide +kernel)
        have hq := HQB.out W
        simp [go_sem, hc, hf, e72, e77, hq]
        exact ⟨Below.refl _ _, rfl⟩
      refine gSt (gStep_run rfl (gRun_pickT 70 78 79 _ rfl rfl (by decide +kernel) (by decide +kernel) (fun v w h => h) (fun v w h => h))) ?_
      refine gSt (gStep_run rfl (gRun_move 79 80 (.inl rfl) rfl (by decide +kernel) (fun v w h => h))) ?_
      refine gSt (gStep_on 19 80 true rfl rfl (by decide +kernel) (fun v w h => h) ?_) ?_
      · intro ρ W hC hc hf hL
        simp [go_sem, hc, hf]
        refine (HAW.out W).mono ?_
        rintro e w' ⟨rfl, hb⟩
        exact ⟨_, rfl, by first | exact hb | (subst hb; exact Below.refl _ _), rfl⟩
      refine gSt (gStep_run rfl (gRun_pickT 80 81 82 _ rfl rfl (by decide +kernel) (by decide +kernel) (fun v w h => h) (fun v w h => h))) ?_
      refine gSt (gStep_run rfl (gRun_move 82 4 (.inr rfl) rfl (by decide +kernel) (fun v w h => h))) ?_
      exact gSt0
    · intro W hC
      refine gFi 61 rfl ?_
      rintro _ rfl
      refine gFi 62 rfl ?_
      rintro _ rfl
      refine gFi 63 rfl ?_
      rintro _ rfl
      refine gFi 64 rfl ?_
      rintro _ rfl
      refine gFi 65 rfl ?_
      rintro _ rfl
      refine gFi 66 rfl ?_
      rintro _ rfl
      refine gFi 67 rfl ?_
      rintro _ rfl
      refine gFi 68 rfl ?_
      rintro _ rfl
      refine gFi 69 rfl ?_
      rintro _ rfl
      refine gFi 70 rfl ?_
      rintro _ rfl
      refine gFi 71 rfl ?_
      rintro _ rfl
      refine gFi 72 rfl ?_
      rintro _ rfl
      refine gFi 73 rfl ?_
      rintro _ rfl
      refine gFi 74 rfl ?_
      rintro _ rfl
      refine gFi 75 rfl ?_
      rintro _ rfl
      refine gFi 76 rfl ?_
      rintro u76 b76
      refine gFi 77 rfl ?_
      rintro _ rfl
      refine gFi 78 rfl ?_
      rintro _ rfl
      refine gFi 79 rfl ?_
      rintro _ rfl
      refine gFi 80 rfl ?_
      rintro _ rfl
      refine gFi 81 rfl ?_
      rintro _ rfl
      refine gFi 82 rfl ?_
      rintro _ rfl
      refine gFi 4 rfl ?_
      rintro _ rfl
      refine gFi0 ?_
      simp only [List.drop_succ_cons, List.drop_zero, Act.put, List.setIfInBounds_toArray, List.set_cons_succ, List.set_cons_zero]
      have HBE := hide hC.1.2.2.2
      clear hC b76 HF
      go_wp2
      go_ret
      exact ⟨rfl, HBE.out⟩
      
    
end Go.Proofs.Ytgnaomgcfliamaa

/- FlyNext, a digit that is not above 0. -/
set_option linter.unusedVariables false
set_option linter.unusedSimpArgs false
set_option maxRecDepth 8000
namespace Go.Proofs.Ytgnaomgcfliamaa
open Go.RowKit Plain

set_option maxHeartbeats 8000000 in
theorem flyNext_M (q y a b m : Nat) 
    (HQ : Hid (∀ w, (Op.equalIn 10000 26 (.agg #[.int .u64 (dgl (q) 0 : Nat), .int .u64 (dgl (q) 1 : Nat), .int .u64 (dgl (q) 2 : Nat), .int .u64 (dgl (q) 3 : Nat), .int .u64 (dgl (q) 4 : Nat), .int .u64 (dgl (q) 5 : Nat), .int .u64 (dgl (q) 6 : Nat), .int .u64 (dgl (q) 7 : Nat)]) (.agg #[.int .u64 (dgl (q) 0 : Nat), .int .u64 (dgl (q) 1 : Nat), .int .u64 (dgl (q) 2 : Nat), .int .u64 (dgl (q) 3 : Nat), .int .u64 (dgl (q) 4 : Nat), .int .u64 (dgl (q) 5 : Nat), .int .u64 (dgl (q) 6 : Nat), .int .u64 (dgl (q) 7 : Nat)])).run Try.prog w = .ok true w))
    (HY : Hid (∀ w, (Op.equalIn 10000 26 (.agg #[.int .u64 (dgl (y) 0 : Nat), .int .u64 (dgl (y) 1 : Nat), .int .u64 (dgl (y) 2 : Nat), .int .u64 (dgl (y) 3 : Nat), .int .u64 (dgl (y) 4 : Nat), .int .u64 (dgl (y) 5 : Nat), .int .u64 (dgl (y) 6 : Nat), .int .u64 (dgl (y) 7 : Nat)]) (.agg #[.int .u64 (dgl (y) 0 : Nat), .int .u64 (dgl (y) 1 : Nat), .int .u64 (dgl (y) 2 : Nat), .int .u64 (dgl (y) 3 : Nat), .int .u64 (dgl (y) 4 : Nat), .int .u64 (dgl (y) 5 : Nat), .int .u64 (dgl (y) 6 : Nat), .int .u64 (dgl (y) 7 : Nat)])).run Try.prog w = .ok true w))
    (HNW : Hid (∀ w, Calls Try.prog 13 #[.agg #[.int .u64 (dgl (q) 0 : Nat), .int .u64 (dgl (q) 1 : Nat), .int .u64 (dgl (q) 2 : Nat), .int .u64 (dgl (q) 3 : Nat), .int .u64 (dgl (q) 4 : Nat), .int .u64 (dgl (q) 5 : Nat), .int .u64 (dgl (q) 6 : Nat), .int .u64 (dgl (q) 7 : Nat)]] w fun e w' => e = .returned (.agg #[.int .u64 (dgl (q) 0 : Nat), .int .u64 (dgl (q) 1 : Nat), .int .u64 (dgl (q) 2 : Nat), .int .u64 (dgl (q) 3 : Nat), .int .u64 (dgl (q) 4 : Nat), .int .u64 (dgl (q) 5 : Nat), .int .u64 (dgl (q) 6 : Nat), .int .u64 (dgl (q) 7 : Nat), .int .u64 (dgl (y) 0 : Nat), .int .u64 (dgl (y) 1 : Nat), .int .u64 (dgl (y) 2 : Nat), .int .u64 (dgl (y) 3 : Nat), .int .u64 (dgl (y) 4 : Nat), .int .u64 (dgl (y) 5 : Nat), .int .u64 (dgl (y) 6 : Nat), .int .u64 (dgl (y) 7 : Nat)]) ∧ Below w.heap.size w w'))
    (HBQ : Hid (∀ w, Calls Try.prog 14 #[.agg #[.int .u64 (dgl (q) 0 : Nat), .int .u64 (dgl (q) 1 : Nat), .int .u64 (dgl (q) 2 : Nat), .int .u64 (dgl (q) 3 : Nat), .int .u64 (dgl (q) 4 : Nat), .int .u64 (dgl (q) 5 : Nat), .int .u64 (dgl (q) 6 : Nat), .int .u64 (dgl (q) 7 : Nat)]] w fun e w' => ∃ v, e = .returned v ∧ BigV w' v q 40 ∧ Below w.heap.size w w'))
    (HW1 : Hid (∀ u v w, BigV w u q 40 → BigV w v 1 2 → Calls Try.prog 11 #[u, v] w fun e w' => e = .returned (.agg #[.int .u64 (dgl (y) 0 : Nat), .int .u64 (dgl (y) 1 : Nat), .int .u64 (dgl (y) 2 : Nat), .int .u64 (dgl (y) 3 : Nat), .int .u64 (dgl (y) 4 : Nat), .int .u64 (dgl (y) 5 : Nat), .int .u64 (dgl (y) 6 : Nat), .int .u64 (dgl (y) 7 : Nat)]) ∧ Below w.heap.size w w'))
    (HNX : Hid (∀ w, Calls Try.prog 15 #[.agg #[.int .u64 (dgl (q) 0 : Nat), .int .u64 (dgl (q) 1 : Nat), .int .u64 (dgl (q) 2 : Nat), .int .u64 (dgl (q) 3 : Nat), .int .u64 (dgl (q) 4 : Nat), .int .u64 (dgl (q) 5 : Nat), .int .u64 (dgl (q) 6 : Nat), .int .u64 (dgl (q) 7 : Nat), .int .u64 (dgl (y) 0 : Nat), .int .u64 (dgl (y) 1 : Nat), .int .u64 (dgl (y) 2 : Nat), .int .u64 (dgl (y) 3 : Nat), .int .u64 (dgl (y) 4 : Nat), .int .u64 (dgl (y) 5 : Nat), .int .u64 (dgl (y) 6 : Nat), .int .u64 (dgl (y) 7 : Nat)], .int .i64 (-((m : Nat) : Int))] w fun e w' => e = .returned (.tuple #[.agg #[.int .u64 (dgl (a) 0 : Nat), .int .u64 (dgl (a) 1 : Nat), .int .u64 (dgl (a) 2 : Nat), .int .u64 (dgl (a) 3 : Nat), .int .u64 (dgl (a) 4 : Nat), .int .u64 (dgl (a) 5 : Nat), .int .u64 (dgl (a) 6 : Nat), .int .u64 (dgl (a) 7 : Nat), .int .u64 (dgl (b) 0 : Nat), .int .u64 (dgl (b) 1 : Nat), .int .u64 (dgl (b) 2 : Nat), .int .u64 (dgl (b) 3 : Nat), .int .u64 (dgl (b) 4 : Nat), .int .u64 (dgl (b) 5 : Nat), .int .u64 (dgl (b) 6 : Nat), .int .u64 (dgl (b) 7 : Nat)], .bool true]) ∧ Below w.heap.size w w'))
    (HIS : Hid (∀ w, Calls Try.prog 9 #[.int .i64 (-((m : Nat) : Int))] w fun e w' => e = .returned (.bool true) ∧ w' = w))
    (hm3 : m ≤ 3)
    (HQA : Hid (∀ w, (Op.equalIn 10000 26 (.agg #[.int .u64 (dgl (a) 0 : Nat), .int .u64 (dgl (a) 1 : Nat), .int .u64 (dgl (a) 2 : Nat), .int .u64 (dgl (a) 3 : Nat), .int .u64 (dgl (a) 4 : Nat), .int .u64 (dgl (a) 5 : Nat), .int .u64 (dgl (a) 6 : Nat), .int .u64 (dgl (a) 7 : Nat)]) (.agg #[.int .u64 (dgl (a) 0 : Nat), .int .u64 (dgl (a) 1 : Nat), .int .u64 (dgl (a) 2 : Nat), .int .u64 (dgl (a) 3 : Nat), .int .u64 (dgl (a) 4 : Nat), .int .u64 (dgl (a) 5 : Nat), .int .u64 (dgl (a) 6 : Nat), .int .u64 (dgl (a) 7 : Nat)])).run Try.prog w = .ok true w))
    (HQB : Hid (∀ w, (Op.equalIn 10000 26 (.agg #[.int .u64 (dgl (b) 0 : Nat), .int .u64 (dgl (b) 1 : Nat), .int .u64 (dgl (b) 2 : Nat), .int .u64 (dgl (b) 3 : Nat), .int .u64 (dgl (b) 4 : Nat), .int .u64 (dgl (b) 5 : Nat), .int .u64 (dgl (b) 6 : Nat), .int .u64 (dgl (b) 7 : Nat)]) (.agg #[.int .u64 (dgl (b) 0 : Nat), .int .u64 (dgl (b) 1 : Nat), .int .u64 (dgl (b) 2 : Nat), .int .u64 (dgl (b) 3 : Nat), .int .u64 (dgl (b) 4 : Nat), .int .u64 (dgl (b) 5 : Nat), .int .u64 (dgl (b) 6 : Nat), .int .u64 (dgl (b) 7 : Nat)])).run Try.prog w = .ok true w))
    (HSM : Hid (∀ w, Calls Try.prog 12 #[.int .u64 (m : Nat)] w fun e w' => ∃ v, e = .returned v ∧ BigV w' v m 2 ∧ Below w.heap.size w w'))
    (HWA : Hid (∀ u v w, BigV w u (q * 2 ^ 2) 50 → BigV w v m 50 → Calls Try.prog 11 #[u, v] w fun e w' => e = .returned (.agg #[.int .u64 (dgl (a) 0 : Nat), .int .u64 (dgl (a) 1 : Nat), .int .u64 (dgl (a) 2 : Nat), .int .u64 (dgl (a) 3 : Nat), .int .u64 (dgl (a) 4 : Nat), .int .u64 (dgl (a) 5 : Nat), .int .u64 (dgl (a) 6 : Nat), .int .u64 (dgl (a) 7 : Nat)]) ∧ Below w.heap.size w w'))
    (HWB : Hid (∀ u v w, BigV w u (q * 2 ^ 2) 50 → BigV w v (m + 1) 51 → Calls Try.prog 11 #[u, v] w fun e w' => e = .returned (.agg #[.int .u64 (dgl (b) 0 : Nat), .int .u64 (dgl (b) 1 : Nat), .int .u64 (dgl (b) 2 : Nat), .int .u64 (dgl (b) 3 : Nat), .int .u64 (dgl (b) 4 : Nat), .int .u64 (dgl (b) 5 : Nat), .int .u64 (dgl (b) 6 : Nat), .int .u64 (dgl (b) 7 : Nat)]) ∧ Below w.heap.size w w')) (HAW : Hid (∀ w, Calls Try.prog 7 #[] w fun e w' => e = .returned (.bool true) ∧ Below w.heap.size w w')) (w : World) :
    Calls Try.prog 4 #[.agg #[.int .u64 (dgl (q) 0 : Nat), .int .u64 (dgl (q) 1 : Nat), .int .u64 (dgl (q) 2 : Nat), .int .u64 (dgl (q) 3 : Nat), .int .u64 (dgl (q) 4 : Nat), .int .u64 (dgl (q) 5 : Nat), .int .u64 (dgl (q) 6 : Nat), .int .u64 (dgl (q) 7 : Nat)], .int .i64 (-((m : Nat) : Int))] w fun e w' => e = .returned (.bool true) ∧ Below w.heap.size w w' := by
  have hgt : ¬ (0 : Int) < -((m : Nat) : Int) := by omega
  have hcn : IntKind.i64.wrap ((m : Nat) : Int) = ((m : Nat) : Int) := by rw [IntKind.wrap_i64]; omega
  have hcv : IntKind.u64.wrap ((m : Nat) : Int) = ((m : Nat) : Int) := by rw [IntKind.wrap_u64]; omega
  have HS : Hid (LiesF (w.alloc (.cells #[.int .u64 (dgl (q) 0 : Nat), .int .u64 (dgl (q) 1 : Nat), .int .u64 (dgl (q) 2 : Nat), .int .u64 (dgl (q) 3 : Nat), .int .u64 (dgl (q) 4 : Nat), .int .u64 (dgl (q) 5 : Nat), .int .u64 (dgl (q) 6 : Nat), .int .u64 (dgl (q) 7 : Nat)] 26)) w.heap.size (dgl q) ∧ Below w.heap.size w (w.alloc (.cells #[.int .u64 (dgl (q) 0 : Nat), .int .u64 (dgl (q) 1 : Nat), .int .u64 (dgl (q) 2 : Nat), .int .u64 (dgl (q) 3 : Nat), .int .u64 (dgl (q) 4 : Nat), .int .u64 (dgl (q) 5 : Nat), .int .u64 (dgl (q) 6 : Nat), .int .u64 (dgl (q) 7 : Nat)] 26))) := ⟨liesF_new w (dgl q) _, below_allocs w _⟩
  have HS1 := hide (fun w => small_any 1 (by decide) w)
  go_enter Try.func4, Try.ntmps4
  go_wp2_with fail
  refine (HS1.out _).mono ?_
  rintro e w1 ⟨v5, rfl, hv5, hb1⟩
  obtain ⟨o5, l5, c5, rfl⟩ := bigz_slice hv5
  have HS2 : Hid (LiesF w1 w.heap.size (dgl q) ∧ BigV w1 (.slice o5 l5 c5) 1 2 ∧ Below w.heap.size w w1) := ⟨HS.out.1.below hb1, hv5, below_trans HS.out.2 hb1⟩
  clear HS hb1 HS1 hv5
  have hla := HS2.out.1.1
  go_wp2_with fail
  refine (HNW.out _).mono ?_
  rintro e w2 ⟨rfl, hb2⟩
  have HS3 : Hid (LiesF w2 w.heap.size (dgl q) ∧ BigV w2 (.slice o5 l5 c5) 1 2 ∧ Below w.heap.size w w2) := ⟨HS2.out.1.below hb2, HS2.out.2.1.below hb2, below_trans HS2.out.2.2 hb2⟩
  clear HS2 hb2 HNW hla
  go_upto_region 3 with fail
  have hbw := below_allocs w2 (.cells #[.int .u64 (dgl (q) 0 : Nat), .int .u64 (dgl (q) 1 : Nat), .int .u64 (dgl (q) 2 : Nat), .int .u64 (dgl (q) 3 : Nat), .int .u64 (dgl (q) 4 : Nat), .int .u64 (dgl (q) 5 : Nat), .int .u64 (dgl (q) 6 : Nat), .int .u64 (dgl (q) 7 : Nat), .int .u64 (dgl (y) 0 : Nat), .int .u64 (dgl (y) 1 : Nat), .int .u64 (dgl (y) 2 : Nat), .int .u64 (dgl (y) 3 : Nat), .int .u64 (dgl (y) 4 : Nat), .int .u64 (dgl (y) 5 : Nat), .int .u64 (dgl (y) 6 : Nat), .int .u64 (dgl (y) 7 : Nat)] 38)
  refine wp_gen (fun W => FnSt q y w2.heap.size (.slice o5 l5 c5) w W) ⟨HS3.out.1.below hbw, HS3.out.2.1.below hbw, stB_new w2 q y _, below_trans HS3.out.2.2 hbw⟩ ?_
  clear HS3 hbw
  generalize w2.heap.size = p6 at *
  rintro W3 h3
  have HF := hide h3
  clear h3
  refine wp_region_grow 13 [(14, .val (.pointer (some ⟨p6, 0, none⟩))), (15, .val (.agg #[.int .u64 (dgl (q) 0 : Nat), .int .u64 (dgl (q) 1 : Nat), .int .u64 (dgl (q) 2 : Nat), .int .u64 (dgl (q) 3 : Nat), .int .u64 (dgl (q) 4 : Nat), .int .u64 (dgl (q) 5 : Nat), .int .u64 (dgl (q) 6 : Nat), .int .u64 (dgl (q) 7 : Nat)])), (16, .val (.agg #[.int .u64 (dgl (q) 0 : Nat), .int .u64 (dgl (q) 1 : Nat), .int .u64 (dgl (q) 2 : Nat), .int .u64 (dgl (q) 3 : Nat), .int .u64 (dgl (q) 4 : Nat), .int .u64 (dgl (q) 5 : Nat), .int .u64 (dgl (q) 6 : Nat), .int .u64 (dgl (q) 7 : Nat)])), (17, .val (.bool false)), (18, .val (.bool false)), (19, .val (.pointer (some ⟨p6, 8, none⟩))), (20, .val (.agg #[.int .u64 (dgl (y) 0 : Nat), .int .u64 (dgl (y) 1 : Nat), .int .u64 (dgl (y) 2 : Nat), .int .u64 (dgl (y) 3 : Nat), .int .u64 (dgl (y) 4 : Nat), .int .u64 (dgl (y) 5 : Nat), .int .u64 (dgl (y) 6 : Nat), .int .u64 (dgl (y) 7 : Nat)])), (21, .val (.agg #[.int .u64 (dgl (q) 0 : Nat), .int .u64 (dgl (q) 1 : Nat), .int .u64 (dgl (q) 2 : Nat), .int .u64 (dgl (q) 3 : Nat), .int .u64 (dgl (q) 4 : Nat), .int .u64 (dgl (q) 5 : Nat), .int .u64 (dgl (q) 6 : Nat), .int .u64 (dgl (q) 7 : Nat)])), (22, .big q 40), (23, .val (.slice o5 l5 c5)), (24, .val (.agg #[.int .u64 (dgl (y) 0 : Nat), .int .u64 (dgl (y) 1 : Nat), .int .u64 (dgl (y) 2 : Nat), .int .u64 (dgl (y) 3 : Nat), .int .u64 (dgl (y) 4 : Nat), .int .u64 (dgl (y) 5 : Nat), .int .u64 (dgl (y) 6 : Nat), .int .u64 (dgl (y) 7 : Nat)])), (25, .val (.bool false)), (26, .val (.bool false))]
    (fun W => FnSt q y p6 (.slice o5 l5 c5) w W) mixedOk (by kernel_rfl) (by kernel_rfl) (HF.out.below (Below.refl _ _).drew) (fun W W' h hb => h.below hb) ?_ ?_
  · refine gSt (gStep_run rfl ?_) ?_
    · intro ρ W hC hc hf hL
      have e6 : ρ (.tmp 6) = .pointer (some ⟨p6, 0, none⟩) := hL 6 (by decide +kernel)
      simp [go_sem, hc, hf, e6]
      exact ⟨Below.refl _ _, rfl⟩
    refine gSt (gStep_run rfl ?_) ?_
    · intro ρ W hC hc hf hL
      have e14 : ρ (.tmp 14) = .pointer (some ⟨p6, 0, none⟩) := hL 14 (by decide +kernel)
      have hl := hC.s.lo
      simp [go_sem, hc, hf, e14, hl]
      exact ⟨Below.refl _ _, rfl⟩
    refine gSt (gStep_run rfl ?_) ?_
    · intro ρ W hC hc hf hL
      have e2 : ρ (.tmp 2) = .pointer (some ⟨w.heap.size, 0, none⟩) := hL 2 (by decide +kernel)
      have hl := hC.la.1
      simp [go_sem, hc, hf, e2, hl]
      exact ⟨Below.refl _ _, rfl⟩
    refine gSt (gStep_run rfl ?_) ?_
    · intro ρ W hC hc hf hL
      have e15 : ρ (.tmp 15) = .agg #[.int .u64 (dgl (q) 0 : Nat), .int .u64 (dgl (q) 1 : Nat), .int .u64 (dgl (q) 2 : Nat), .int .u64 (dgl (q) 3 : Nat), .int .u64 (dgl (q) 4 : Nat), .int .u64 (dgl (q) 5 : Nat), .int .u64 (dgl (q) 6 : Nat), .int .u64 (dgl (q) 7 : Nat)] := hL 15 (by decide +kernel)
      have e16 : ρ (.tmp 16) = .agg #[.int .u64 (dgl (q) 0 : Nat), .int .u64 (dgl (q) 1 : Nat), .int .u64 (dgl (q) 2 : Nat), .int .u64 (dgl (q) 3 : Nat), .int .u64 (dgl (q) 4 : Nat), .int .u64 (dgl (q) 5 : Nat), .int .u64 (dgl (q) 6 : Nat), .int .u64 (dgl (q) 7 : Nat)] := hL 16 (by decide +kernel)
      have hq := HQ.out W
      simp [go_sem, hc, hf, e15, e16, hq]
      exact ⟨Below.refl _ _, rfl⟩
    refine gSt (gStep_run rfl (gRun_move 17 18 (.inl rfl) rfl (by decide +kernel) (fun v w h => h))) ?_
    refine gSt (gStep_on 4 18 false rfl rfl (by decide +kernel) (fun v w h => h) ?_) ?_
    · intro ρ W hC hc hf hL
      have e6 : ρ (.tmp 6) = .pointer (some ⟨p6, 0, none⟩) := hL 6 (by decide +kernel)
      simp [go_sem, hc, hf, e6]
      exact ⟨Below.refl _ _, rfl⟩
    refine gSt (gStep_on 4 18 false rfl rfl (by decide +kernel) (fun v w h => h) ?_) ?_
    · intro ρ W hC hc hf hL
      have e19 : ρ (.tmp 19) = .pointer (some ⟨p6, 8, none⟩) := hL 19 (by decide +kernel)
      have hl0 := hC.s.h0
      have hl1 := hC.s.h1
      have hl2 := hC.s.h2
      have hl3 := hC.s.h3
      have hl4 := hC.s.h4
      have hl5 := hC.s.h5
      have hl6 := hC.s.h6
      have hl7 := hC.s.h7
      simp [go_sem, hc, hf, e19, hl0, hl1, hl2, hl3, hl4, hl5, hl6, hl7]
      exact ⟨Below.refl _ _, rfl⟩
    refine gSt (gStep_on 4 18 false rfl rfl (by decide +kernel) (fun v w h => h) ?_) ?_
    · intro ρ W hC hc hf hL
      have e2 : ρ (.tmp 2) = .pointer (some ⟨w.heap.size, 0, none⟩) := hL 2 (by decide +kernel)
      have hl := hC.la.1
      simp [go_sem, hc, hf, e2, hl]
      exact ⟨Below.refl _ _, rfl⟩
    refine gSt (gStep_on 4 18 false rfl rfl (by decide +kernel) (fun v w h => h) ?_) ?_
    · intro ρ W hC hc hf hL
      have e21 : ρ (.tmp 21) = .agg #[.int .u64 (dgl (q) 0 : Nat), .int .u64 (dgl (q) 1 : Nat), .int .u64 (dgl (q) 2 : Nat), .int .u64 (dgl (q) 3 : Nat), .int .u64 (dgl (q) 4 : Nat), .int .u64 (dgl (q) 5 : Nat), .int .u64 (dgl (q) 6 : Nat), .int .u64 (dgl (q) 7 : Nat)] := hL 21 (by decide +kernel)
      simp [go_sem, hc, hf, e21]
      refine (HBQ.out W).mono ?_
      rintro e w' ⟨v, rfl, hv, hb⟩
      exact ⟨_, rfl, hb, hv⟩
    refine gSt (gStep_on 4 18 false rfl rfl (by decide +kernel) (fun v w h => h) (gRun_move 5 23 (.inl rfl) rfl (by decide +kernel) (fun v w h => h))) ?_
    refine gSt (gStep_on 4 18 false rfl rfl (by decide +kernel) (fun v w h => h) ?_) ?_
    · intro ρ W hC hc hf hL
      have b22 : BigV W (ρ (.tmp 22)) (q) (40) := hL 22 (by decide +kernel)
      have e23 : ρ (.tmp 23) = .slice o5 l5 c5 := hL 23 (by decide +kernel)
      simp [go_sem, hc, hf, e23]
      refine (HW1.out _ _ W b22 hC.b5).mono ?_
      rintro e w' ⟨rfl, hb⟩
      exact ⟨_, rfl, by first | exact hb | (subst hb; exact Below.refl _ _), rfl⟩
    refine gSt (gStep_on 4 18 false rfl rfl (by decide +kernel) (fun v w h => h) ?_) ?_
    · intro ρ W hC hc hf hL
      have e20 : ρ (.tmp 20) = .agg #[.int .u64 (dgl (y) 0 : Nat), .int .u64 (dgl (y) 1 : Nat), .int .u64 (dgl (y) 2 : Nat), .int .u64 (dgl (y) 3 : Nat), .int .u64 (dgl (y) 4 : Nat), .int .u64 (dgl (y) 5 : Nat), .int .u64 (dgl (y) 6 : Nat), .int .u64 (dgl (y) 7 : Nat)] := hL 20 (by decide +kernel)
      have e24 : ρ (.tmp 24) = .agg #[.int .u64 (dgl (y) 0 : Nat), .int .u64 (dgl (y) 1 : Nat), .int .u64 (dgl (y) 2 : Nat), .int .u64 (dgl (y) 3 : Nat), .int .u64 (dgl (y) 4 : Nat), .int .u64 (dgl (y) 5 : Nat), .int .u64 (dgl (y) 6 : Nat), .int .u64 (dgl (y) 7 : Nat)] := hL 24 (by decide +kernel)
      have hq := HY.out W
      simp [go_sem, hc, hf, e20, e24, hq]
      exact ⟨Below.refl _ _, rfl⟩
    refine gSt (gStep_run rfl (gRun_pickCF 18 25 26 _ rfl rfl (by decide +kernel) (by decide +kernel) (fun v w h => h) (fun v w h => h))) ?_
    exact gSt0
  · intro W hC
    refine gFi 14 rfl ?_
    rintro _ rfl
    refine gFi 15 rfl ?_
    rintro _ rfl
    refine gFi 16 rfl ?_
    rintro _ rfl
    refine gFi 17 rfl ?_
    rintro _ rfl
    refine gFi 18 rfl ?_
    rintro _ rfl
    refine gFi 19 rfl ?_
    rintro _ rfl
    refine gFi 20 rfl ?_
    rintro _ rfl
    refine gFi 21 rfl ?_
    rintro _ rfl
    refine gFi 22 rfl ?_
    rintro u22 b22
    refine gFi 23 rfl ?_
    rintro _ rfl
    refine gFi 24 rfl ?_
    rintro _ rfl
    refine gFi 25 rfl ?_
    rintro _ rfl
    refine gFi 26 rfl ?_
    rintro _ rfl
    refine gFi0 ?_
    simp only [List.drop_succ_cons, List.drop_zero, Act.put, List.setIfInBounds_toArray, List.set_cons_succ, List.set_cons_zero]
    replace HF := hide hC
    clear hC b22
    have hs := HF.out.s.lo
    have hs0 := HF.out.s.h0
    have hs1 := HF.out.s.h1
    have hs2 := HF.out.s.h2
    have hs3 := HF.out.s.h3
    have hs4 := HF.out.s.h4
    have hs5 := HF.out.s.h5
    have hs6 := HF.out.s.h6
    have hs7 := HF.out.s.h7
    go_wp2_with fail
    refine (HNX.out _).mono ?_
    rintro e w4 ⟨rfl, hb4⟩
    replace HF := hide (HF.out.below hb4)
    clear hb4 HNX hs hs0 hs1 hs2 hs3 hs4 hs5 hs6 hs7
    go_upto_region 6 with fail
    have hbw := below_allocs w4 (.cells #[.int .u64 (dgl (a) 0 : Nat), .int .u64 (dgl (a) 1 : Nat), .int .u64 (dgl (a) 2 : Nat), .int .u64 (dgl (a) 3 : Nat), .int .u64 (dgl (a) 4 : Nat), .int .u64 (dgl (a) 5 : Nat), .int .u64 (dgl (a) 6 : Nat), .int .u64 (dgl (a) 7 : Nat), .int .u64 (dgl (b) 0 : Nat), .int .u64 (dgl (b) 1 : Nat), .int .u64 (dgl (b) 2 : Nat), .int .u64 (dgl (b) 3 : Nat), .int .u64 (dgl (b) 4 : Nat), .int .u64 (dgl (b) 5 : Nat), .int .u64 (dgl (b) 6 : Nat), .int .u64 (dgl (b) 7 : Nat)] 38)
    refine wp_gen (fun W => FnSt q y p6 (.slice o5 l5 c5) w W ∧ StB W w4.heap.size (a) (b)) ⟨HF.out.below hbw, stB_new w4 _ _ _⟩ ?_
    clear HF hbw
    generalize w4.heap.size = p7 at *
    rintro W6 h6
    have HF := hide h6
    clear h6
    go_wp2_with fail
    refine (HIS.out _).mono ?_
    rintro e w' ⟨rfl, hw⟩
    subst w'
    replace HF := hide (show LiesF W6 w.heap.size (dgl q) ∧ BigV W6 (.slice o5 l5 c5) 1 2 ∧ StB W6 p7 a b ∧ Below w.heap.size w W6 from ⟨HF.out.1.la, HF.out.1.b5, HF.out.2, HF.out.1.bel⟩)
    have hla := HF.out.1.1
    go_wp2_with fail
    refine (HBQ.out _).mono ?_
    rintro e w7 ⟨v7, rfl, hv7, hb7⟩
    replace HF := hide (show LiesF w7 w.heap.size (dgl q) ∧ BigV w7 (.slice o5 l5 c5) 1 2 ∧ StB w7 p7 a b ∧ Below w.heap.size w w7 from ⟨HF.out.1.below hb7, HF.out.2.1.below hb7, HF.out.2.2.1.below hb7, below_trans HF.out.2.2.2 hb7⟩)
    clear hla hb7
    have HSH := hide (refShl_any q 40 2 _ _ hv7 (by decide) (by decide))
    clear hv7
    go_wp2_with fail
    refine HSH.out.mono ?_
    rintro e w8 ⟨v8, rfl, hv8, hb8⟩
    obtain ⟨o8, l8, c8, rfl⟩ := bigz_slice hv8
    replace HF := hide (show LiesF w8 w.heap.size (dgl q) ∧ BigV w8 (.slice o5 l5 c5) 1 2 ∧ StB w8 p7 a b ∧ Below w.heap.size w w8 from ⟨HF.out.1.below hb8, HF.out.2.1.below hb8, HF.out.2.2.1.below hb8, below_trans HF.out.2.2.2 hb8⟩)
    have HX := hide hv8
    clear HSH hv8 hb8
    have hbw := below_allocs w8 (.cells #[] 60)
    have HEA := hide (fun W (hW : Below (w8.alloc (.cells #[] 60)).heap.size (w8.alloc (.cells #[] 60)) W) => (below_allocs w8 (.cells #[] 60)).trans (hW.mono (by simp)))
    clear hbw
    go_wp2_with fail
    refine (HSM.out _).mono ?_
    rintro e w9 ⟨v9, rfl, hv9, hb9⟩
    obtain ⟨o9, l9, c9, rfl⟩ := bigz_slice hv9
    replace hb9 := HEA.out _ hb9
    replace HF := hide (show LiesF w9 w.heap.size (dgl q) ∧ BigV w9 (.slice o5 l5 c5) 1 2 ∧ StB w9 p7 a b ∧ Below w.heap.size w w9 from ⟨HF.out.1.below hb9, HF.out.2.1.below hb9, HF.out.2.2.1.below hb9, below_trans HF.out.2.2.2 hb9⟩)
    replace HX := hide ((HX.out.below hb9).mono (show _ ≤ 50 by decide))
    have HY0 := hide (hv9.mono (show _ ≤ 50 by decide))
    clear hv9 hb9 HEA
    replace HF := hide (show (LiesF w9 w.heap.size (dgl q) ∧ BigV w9 (.slice o5 l5 c5) 1 2 ∧ StB w9 p7 a b ∧ Below w.heap.size w w9) ∧ BigV w9 (.slice o8 l8 c8) (q * 2 ^ 2) 50 ∧ BigV w9 (.slice o9 l9 c9) m 50 from ⟨HF.out, HX.out, HY0.out⟩)
    clear HX HY0
    go_upto_region 12 with fail
    refine wp_region_grow 23 [(61, .val (.bool true)), (62, .val (.bool true)), (63, .val (.pointer (some ⟨p7, 0, none⟩))), (64, .val (.agg #[.int .u64 (dgl (a) 0 : Nat), .int .u64 (dgl (a) 1 : Nat), .int .u64 (dgl (a) 2 : Nat), .int .u64 (dgl (a) 3 : Nat), .int .u64 (dgl (a) 4 : Nat), .int .u64 (dgl (a) 5 : Nat), .int .u64 (dgl (a) 6 : Nat), .int .u64 (dgl (a) 7 : Nat)])), (65, .val ((.slice o8 l8 c8))), (66, .val ((.slice o9 l9 c9))), (67, .val (.agg #[.int .u64 (dgl (a) 0 : Nat), .int .u64 (dgl (a) 1 : Nat), .int .u64 (dgl (a) 2 : Nat), .int .u64 (dgl (a) 3 : Nat), .int .u64 (dgl (a) 4 : Nat), .int .u64 (dgl (a) 5 : Nat), .int .u64 (dgl (a) 6 : Nat), .int .u64 (dgl (a) 7 : Nat)])), (68, .val (.bool true)), (69, .val (.bool true)), (70, .val (.bool true)), (71, .val (.pointer (some ⟨p7, 8, none⟩))), (72, .val (.agg #[.int .u64 (dgl (b) 0 : Nat), .int .u64 (dgl (b) 1 : Nat), .int .u64 (dgl (b) 2 : Nat), .int .u64 (dgl (b) 3 : Nat), .int .u64 (dgl (b) 4 : Nat), .int .u64 (dgl (b) 5 : Nat), .int .u64 (dgl (b) 6 : Nat), .int .u64 (dgl (b) 7 : Nat)])), (73, .val ((.slice o8 l8 c8))), (74, .val ((.slice o9 l9 c9))), (75, .val (.slice o5 l5 c5)), (76, .big (m + 1) 51), (77, .val (.agg #[.int .u64 (dgl (b) 0 : Nat), .int .u64 (dgl (b) 1 : Nat), .int .u64 (dgl (b) 2 : Nat), .int .u64 (dgl (b) 3 : Nat), .int .u64 (dgl (b) 4 : Nat), .int .u64 (dgl (b) 5 : Nat), .int .u64 (dgl (b) 6 : Nat), .int .u64 (dgl (b) 7 : Nat)])), (78, .val (.bool true)), (79, .val (.bool true)), (80, .val (.bool true)), (81, .val (.bool true)), (82, .val (.bool true)), (4, .val (.bool true))]
      (fun W => (LiesF W w.heap.size (dgl q) ∧ BigV W (.slice o5 l5 c5) 1 2 ∧ StB W p7 a b ∧ Below w.heap.size w W) ∧ BigV W (.slice o8 l8 c8) (q * 2 ^ 2) 50 ∧ BigV W (.slice o9 l9 c9) m 50) mixedOk (by kernel_rfl) (by kernel_rfl) (⟨⟨HF.out.1.1.below (Below.refl _ _).drew, HF.out.1.2.1.below (Below.refl _ _).drew, HF.out.1.2.2.1.below (Below.refl _ _).drew, below_trans HF.out.1.2.2.2 (Below.refl _ _).drew⟩, HF.out.2.1.below (Below.refl _ _).drew, HF.out.2.2.below (Below.refl _ _).drew⟩) (fun W W' h hb => ⟨⟨h.1.1.below hb, h.1.2.1.below hb, h.1.2.2.1.below hb, below_trans h.1.2.2.2 hb⟩, h.2.1.below hb, h.2.2.below hb⟩) ?_ ?_
    · refine gSt (gStep_run rfl (gRun_move 8 61 (.inl rfl) rfl (by decide +kernel) (fun v w h => h))) ?_
      refine gSt (gStep_run rfl (gRun_move 61 62 (.inl rfl) rfl (by decide +kernel) (fun v w h => h))) ?_
      refine gSt (gStep_on 1 62 true rfl rfl (by decide +kernel) (fun v w h => h) ?_) ?_
      · intro ρ W hC hc hf hL
        have e7 : ρ (.tmp 7) = .pointer (some ⟨p7, 0, none⟩) := hL 7 (by decide +kernel)
        simp [go_sem, hc, hf, e7]
        exact ⟨Below.refl _ _, rfl⟩
      refine gSt (gStep_on 1 62 true rfl rfl (by decide +kernel) (fun v w h => h) ?_) ?_
      · intro ρ W hC hc hf hL
        have e63 : ρ (.tmp 63) = .pointer (some ⟨p7, 0, none⟩) := hL 63 (by decide +kernel)
        have hl := hC.1.2.2.1.lo
        simp [go_sem, hc, hf, e63, hl]
        exact ⟨Below.refl _ _, rfl⟩
      refine gSt (gStep_on 1 62 true rfl rfl (by decide +kernel) (fun v w h => h) (gRun_move 9 65 (.inl rfl) rfl (by decide +kernel) (fun v w h => h))) ?_
      refine gSt (gStep_on 1 62 true rfl rfl (by decide +kernel) (fun v w h => h) (gRun_move 10 66 (.inl rfl) rfl (by decide +kernel) (fun v w h => h))) ?_
      refine gSt (gStep_on 1 62 true rfl rfl (by decide +kernel) (fun v w h => h) ?_) ?_
      · intro ρ W hC hc hf hL
        have e65 : ρ (.tmp 65) = (.slice o8 l8 c8) := hL 65 (by decide +kernel)
        have e66 : ρ (.tmp 66) = (.slice o9 l9 c9) := hL 66 (by decide +kernel)
        simp [go_sem, hc, hf, e65, e66]
        refine (HWA.out _ _ W hC.2.1 hC.2.2).mono ?_
        rintro e w' ⟨rfl, hb⟩
        exact ⟨_, rfl, by first | exact hb | (subst hb; exact Below.refl _ _), rfl⟩
      refine gSt (gStep_on 1 62 true rfl rfl (by decide +kernel) (fun v w h => h) ?_) ?_
      · intro ρ W hC hc hf hL
        have e64 : ρ (.tmp 64) = .agg #[.int .u64 (dgl (a) 0 : Nat), .int .u64 (dgl (a) 1 : Nat), .int .u64 (dgl (a) 2 : Nat), .int .u64 (dgl (a) 3 : Nat), .int .u64 (dgl (a) 4 : Nat), .int .u64 (dgl (a) 5 : Nat), .int .u64 (dgl (a) 6 : Nat), .int .u64 (dgl (a) 7 : Nat)] := hL 64 (by decide +kernel)
        have e67 : ρ (.tmp 67) = .agg #[.int .u64 (dgl (a) 0 : Nat), .int .u64 (dgl (a) 1 : Nat), .int .u64 (dgl (a) 2 : Nat), .int .u64 (dgl (a) 3 : Nat), .int .u64 (dgl (a) 4 : Nat), .int .u64 (dgl (a) 5 : Nat), .int .u64 (dgl (a) 6 : Nat), .int .u64 (dgl (a) 7 : Nat)] := hL 67 (by decide +kernel)
        have hq := HQA.out W
        simp [go_sem, hc, hf, e64, e67, hq]
        exact ⟨Below.refl _ _, rfl⟩
      refine gSt (gStep_run rfl (gRun_pickT 62 68 69 _ rfl rfl (by decide +kernel) (by decide +kernel) (fun v w h => h) (fun v w h => h))) ?_
      refine gSt (gStep_run rfl (gRun_move 69 70 (.inl rfl) rfl (by decide +kernel) (fun v w h => h))) ?_
      refine gSt (gStep_on 9 70 true rfl rfl (by decide +kernel) (fun v w h => h) ?_) ?_
      · intro ρ W hC hc hf hL
        have e7 : ρ (.tmp 7) = .pointer (some ⟨p7, 0, none⟩) := hL 7 (by decide +kernel)
        simp [go_sem, hc, hf, e7]
        exact ⟨Below.refl _ _, rfl⟩
      refine gSt (gStep_on 9 70 true rfl rfl (by decide +kernel) (fun v w h => h) ?_) ?_
      · intro ρ W hC hc hf hL
        have e71 : ρ (.tmp 71) = .pointer (some ⟨p7, 8, none⟩) := hL 71 (by decide +kernel)
        have hl0 := hC.1.2.2.1.h0
        have hl1 := hC.1.2.2.1.h1
        have hl2 := hC.1.2.2.1.h2
        have hl3 := hC.1.2.2.1.h3
        have hl4 := hC.1.2.2.1.h4
        have hl5 := hC.1.2.2.1.h5
        have hl6 := hC.1.2.2.1.h6
        have hl7 := hC.1.2.2.1.h7
        simp [go_sem, hc, hf, e71, hl0, hl1, hl2, hl3, hl4, hl5, hl6, hl7]
        exact ⟨Below.refl _ _, rfl⟩
      refine gSt (gStep_on 9 70 true rfl rfl (by decide +kernel) (fun v w h => h) (gRun_move 9 73 (.inl rfl) rfl (by decide +kernel) (fun v w h => h))) ?_
      refine gSt (gStep_on 9 70 true rfl rfl (by decide +kernel) (fun v w h => h) (gRun_move 10 74 (.inl rfl) rfl (by decide +kernel) (fun v w h => h))) ?_
      refine gSt (gStep_on 9 70 true rfl rfl (by decide +kernel) (fun v w h => h) (gRun_move 5 75 (.inl rfl) rfl (by decide +kernel) (fun v w h => h))) ?_
      refine gSt (gStep_on 9 70 true rfl rfl (by decide +kernel) (fun v w h => h) ?_) ?_
      · intro ρ W hC hc hf hL
        have e74 : ρ (.tmp 74) = (.slice o9 l9 c9) := hL 74 (by decide +kernel)
        have e75 : ρ (.tmp 75) = .slice o5 l5 c5 := hL 75 (by decide +kernel)
        simp [go_sem, hc, hf, e74, e75]
        refine (refAdd_any (m) 1 50 2 _ _ _ hC.2.2 hC.1.2.1 (by decide) (by decide)).mono ?_
        rintro e w' ⟨v, rfl, hv, hb⟩
        exact ⟨_, rfl, hb, hv⟩
      refine gSt (gStep_on 9 70 true rfl rfl (by decide +kernel) (fun v w h => h) ?_) ?_
      · intro ρ W hC hc hf hL
        have e73 : ρ (.tmp 73) = (.slice o8 l8 c8) := hL 73 (by decide +kernel)
        have b76 : BigV W (ρ (.tmp 76)) ((m + 1)) (51) := hL 76 (by decide +kernel)
        simp [go_sem, hc, hf, e73]
        refine (HWB.out _ _ W hC.2.1 b76).mono ?_
        rintro e w' ⟨rfl, hb⟩
        exact ⟨_, rfl, by first | exact hb | (subst hb; exact Below.refl _ _), rfl⟩
      refine gSt (gStep_on 9 70 true rfl rfl (by decide +kernel) (fun v w h => h) ?_) ?_
      · intro ρ W hC hc hf hL
        have e72 : ρ (.tmp 72) = .agg #[.int .u64 (dgl (b) 0 : Nat), .int .u64 (dgl (b) 1 : Nat), .int .u64 (dgl (b) 2 : Nat), .int .u64 (dgl (b) 3 : Nat), .int .u64 (dgl (b) 4 : Nat), .int .u64 (dgl (b) 5 : Nat), .int .u64 (dgl (b) 6 : Nat), .int .u64 (dgl (b) 7 : Nat)] := hL 72 (by decide +kernel)
        have e77 : ρ (.tmp 77) = .agg #[.int .u64 (dgl (b) 0 : Nat), .int .u64 (dgl (b) 1 : Nat), .int .u64 (dgl (b) 2 : Nat), .int .u64 (dgl (b) 3 : Nat), .int .u64 (dgl (b) 4 : Nat), .int .u64 (dgl (b) 5 : Nat), .int .u64 (dgl (b) 6 : Nat), .int .u64 (dgl (b) 7 : Nat)] := hL 77 (by decide +kernel)
        have hq := HQB.out W
        simp [go_sem, hc, hf, e72, e77, hq]
        exact ⟨Below.refl _ _, rfl⟩
      refine gSt (gStep_run rfl (gRun_pickT 70 78 79 _ rfl rfl (by decide +kernel) (by decide +kernel) (fun v w h => h) (fun v w h => h))) ?_
      refine gSt (gStep_run rfl (gRun_move 79 80 (.inl rfl) rfl (by decide +kernel) (fun v w h => h))) ?_
      refine gSt (gStep_on 19 80 true rfl rfl (by decide +kernel) (fun v w h => h) ?_) ?_
      · intro ρ W hC hc hf hL
        simp [go_sem, hc, hf]
        refine (HAW.out W).mono ?_
        rintro e w' ⟨rfl, hb⟩
        exact ⟨_, rfl, by first | exact hb | (subst hb; exact Below.refl _ _), rfl⟩
      refine gSt (gStep_run rfl (gRun_pickT 80 81 82 _ rfl rfl (by decide +kernel) (by decide +kernel) (fun v w h => h) (fun v w h => h))) ?_
      refine gSt (gStep_run rfl (gRun_move 82 4 (.inr rfl) rfl (by decide +kernel) (fun v w h => h))) ?_
      exact gSt0
    · intro W hC
      refine gFi 61 rfl ?_
      rintro _ rfl
      refine gFi 62 rfl ?_
      rintro _ rfl
      refine gFi 63 rfl ?_
      rintro _ rfl
      refine gFi 64 rfl ?_
      rintro _ rfl
      refine gFi 65 rfl ?_
      rintro _ rfl
      refine gFi 66 rfl ?_
      rintro _ rfl
      refine gFi 67 rfl ?_
      rintro _ rfl
      refine gFi 68 rfl ?_
      rintro _ rfl
      refine gFi 69 rfl ?_
      rintro _ rfl
      refine gFi 70 rfl ?_
      rintro _ rfl
      refine gFi 71 rfl ?_
      rintro _ rfl
      refine gFi 72 rfl ?_
      rintro _ rfl
      refine gFi 73 rfl ?_
      rintro _ rfl
      refine gFi 74 rfl ?_
      rintro _ rfl
      refine gFi 75 rfl ?_
      rintro _ rfl
      refine gFi 76 rfl ?_
      rintro u76 b76
      refine gFi 77 rfl ?_
      rintro _ rfl
      refine gFi 78 rfl ?_
      rintro _ rfl
      refine gFi 79 rfl ?_
      rintro _ rfl
      refine gFi 80 rfl ?_
      rintro _ rfl
      refine gFi 81 rfl ?_
      rintro _ rfl
      refine gFi 82 rfl ?_
      rintro _ rfl
      refine gFi 4 rfl ?_
      rintro _ rfl
      refine gFi0 ?_
      simp only [List.drop_succ_cons, List.drop_zero, Act.put, List.setIfInBounds_toArray, List.set_cons_succ, List.set_cons_zero]
      have HBE := hide hC.1.2.2.2
      clear hC b76 HF
      go_wp2
      go_ret
      exact ⟨rfl, HBE.out⟩
      
    
end Go.Proofs.Ytgnaomgcfliamaa

/- For all wides and ints the law radicandlaw13.FlyNext returns true. -/
set_option linter.unusedVariables false
set_option linter.unusedSimpArgs false
set_option maxRecDepth 8000
namespace Go.Proofs.Ytgnaomgcfliamaa
open Go.RowKit Plain

theorem flyNext_any (q : Nat) (d : Int) (hq : q < QQ) (w : World) :
    Calls Try.prog 4 #[.agg #[.int .u64 (dgl (q) 0 : Nat), .int .u64 (dgl (q) 1 : Nat), .int .u64 (dgl (q) 2 : Nat), .int .u64 (dgl (q) 3 : Nat), .int .u64 (dgl (q) 4 : Nat), .int .u64 (dgl (q) 5 : Nat), .int .u64 (dgl (q) 6 : Nat), .int .u64 (dgl (q) 7 : Nat)], .int .i64 d] w fun e w' => e = .returned (.bool true) ∧ Below w.heap.size w w' := by
  have eqq : ∀ a, a < QQ → ∀ w, (Op.equalIn 10000 26 (.agg #[.int .u64 (dgl (a) 0 : Nat), .int .u64 (dgl (a) 1 : Nat), .int .u64 (dgl (a) 2 : Nat), .int .u64 (dgl (a) 3 : Nat), .int .u64 (dgl (a) 4 : Nat), .int .u64 (dgl (a) 5 : Nat), .int .u64 (dgl (a) 6 : Nat), .int .u64 (dgl (a) 7 : Nat)]) (.agg #[.int .u64 (dgl (a) 0 : Nat), .int .u64 (dgl (a) 1 : Nat), .int .u64 (dgl (a) 2 : Nat), .int .u64 (dgl (a) 3 : Nat), .int .u64 (dgl (a) 4 : Nat), .int .u64 (dgl (a) 5 : Nat), .int .u64 (dgl (a) 6 : Nat), .int .u64 (dgl (a) 7 : Nat)])).run Try.prog w = .ok true w := fun a ha w => by
    have h := wide_eqb ha ha w
    rw [decide_eq_true rfl] at h
    exact h
  have hy := qz_lt ((q : Int) - 1)
  have hz : qz (q : Int) = q := qz_nat hq
  have hw1 : ∀ u v w, BigV w u q 40 → BigV w v 1 2 → Calls Try.prog 11 #[u, v] w fun e w' => e = .returned (.agg #[.int .u64 (dgl (qz ((q : Int) - 1)) 0 : Nat), .int .u64 (dgl (qz ((q : Int) - 1)) 1 : Nat), .int .u64 (dgl (qz ((q : Int) - 1)) 2 : Nat), .int .u64 (dgl (qz ((q : Int) - 1)) 3 : Nat), .int .u64 (dgl (qz ((q : Int) - 1)) 4 : Nat), .int .u64 (dgl (qz ((q : Int) - 1)) 5 : Nat), .int .u64 (dgl (qz ((q : Int) - 1)) 6 : Nat), .int .u64 (dgl (qz ((q : Int) - 1)) 7 : Nat)]) ∧ Below w.heap.size w w' := fun u v w h1 h2 => wide13_any q 1 40 2 u v w h1 h2
  rcases hd : isD d with _ | _
  · have hn := fun w => next_no (q : Int) d hd w
    rw [hz] at hn
    refine flyNext_no q (qz ((q : Int) - 1)) d (eqq q hq) (eqq _ hy) (fun w => new_any q hq w) (fun w => refBig_any q hq w) hw1 hn (fun w => by have h := refIs_any d w; rw [hd] at h; exact h) (fun w => ?_) (fun w => ?_) (fun w => awake13_any w) w
    · have h := wide_eqNz 9997 hq hq w
      rw [decide_eq_true rfl] at h
      exact h
    · have h := wide_eqNz 9997 hy hy w
      rw [decide_eq_true rfl] at h
      exact h
  · have hb := isD_iff.1 hd
    have hn := fun w => next_yes (q : Int) d hd w
    rw [hz] at hn
    have his : ∀ w, Calls Try.prog 9 #[.int .i64 d] w fun e w' => e = .returned (.bool true) ∧ w' = w := fun w => by have h := refIs_any d w; rw [hd] at h; exact h
    have hX : ∀ (X Y : Nat) (z : Int), (X : Int) - (Y : Int) = z → ∀ (K L : Nat) u v w, BigV w u X K → BigV w v Y L → Calls Try.prog 11 #[u, v] w fun e w' => e = .returned (.agg #[.int .u64 (dgl (qz z) 0 : Nat), .int .u64 (dgl (qz z) 1 : Nat), .int .u64 (dgl (qz z) 2 : Nat), .int .u64 (dgl (qz z) 3 : Nat), .int .u64 (dgl (qz z) 4 : Nat), .int .u64 (dgl (qz z) 5 : Nat), .int .u64 (dgl (qz z) 6 : Nat), .int .u64 (dgl (qz z) 7 : Nat)]) ∧ Below w.heap.size w w' := fun X Y z hz K L u v w h1 h2 => by
      rw [← hz]
      exact wide13_any X Y K L u v w h1 h2
    rcases Int.lt_or_le 0 d with h0 | h0
    · obtain ⟨m, rfl⟩ : ∃ m : Nat, d = (m : Int) := ⟨d.toNat, by omega⟩
      refine flyNext_P q (qz ((q : Int) - 1)) (qz (4 * (q : Int) + (m : Int))) (qz (4 * (q : Int) + (m : Int) - 1)) m (by omega) (eqq q hq) (eqq _ hy) (fun w => new_any q hq w) (fun w => refBig_any q hq w) hw1 hn his (by omega) (eqq _ (qz_lt _)) (eqq _ (qz_lt _)) (fun w => small_any m (by omega) w) (hX _ _ _ ?_ 50 50) (hX _ _ _ ?_ 50 51) (fun w => awake13_any w) w
      · push_cast; omega
      · push_cast; omega
    · obtain ⟨m, rfl⟩ : ∃ m : Nat, d = -(m : Int) := ⟨(-d).toNat, by omega⟩
      refine flyNext_M q (qz ((q : Int) - 1)) (qz (4 * (q : Int) + -(m : Int))) (qz (4 * (q : Int) + -(m : Int) - 1)) m (eqq q hq) (eqq _ hy) (fun w => new_any q hq w) (fun w => refBig_any q hq w) hw1 hn his (by omega) (eqq _ (qz_lt _)) (eqq _ (qz_lt _)) (fun w => small_any m (by omega) w) (hX _ _ _ ?_ 50 50) (hX _ _ _ ?_ 50 51) (fun w => awake13_any w) w
      · push_cast; omega
      · push_cast; omega
end Go.Proofs.Ytgnaomgcfliamaa

/- For all wides and ints the law radicandlaw13.FlyNext returns true and leaves what came in as it was. No conditions. -/
namespace Go.Proofs.Ytgnaomgcfliamaa.flyNext
open Go.ChangeShapes Go.WideShapes Go.ChangeAt Go.RowKit Go.Proofs.Ytgnaomgcfliamaa

theorem own : ownKnob Try.prog.godebug = none := by kernel_rfl
theorem laidOut : laidOutB Try.prog = true := by kernel_rfl

set_option maxRecDepth 100000 in
theorem lifted (os : Os) (started : os.Started) (H : Type) (enc : TypeId × Value → H) :
    ReturnsInHanded {} Try.checked os 4 .any (Rows.flyNextSpec.pre6 enc Try.prog Try.f4 Rows.flyNextRow.domain false) (Rows.flyNextSpec.post enc Try.prog Try.f4 false true false false) := by
  refine returnsInHanded_of_change (C := Try.checked) own started (by kernel_rfl) Try.func4
    (ChangeSpec.witness6 (enc := enc) (C := Try.checked) false ⟨#[], #[.agg #[.int .u64 0, .int .u64 0, .int .u64 0, .int .u64 0, .int .u64 0, .int .u64 0, .int .u64 0, .int .u64 0], .int .i64 0], []⟩ 40 (by kernel_rfl) (by kernel_rfl) (by kernel_rfl) (by kernel_rfl)) ?_
  intro W base args ds gs before hval0 hW hcnd _
  have hval : ∀ (j : Nat) t v, Try.f4.params[j]? = some t → args[j]? = some v → Value.okWide Try.prog W .any base t v := hval0
  have hW' := hW
  obtain ⟨p, q, hA0, hV, rfl, hfz, hnd⟩ := hW
  have hA : DataW.TrodAll enc Try.prog W 0 (fun _ => true) true Try.f4.params.toList args.toList ds p := hA0
  rw [Try.params4] at hA hval
  obtain ⟨v0, vs0, d0, ds0, p0, q0, hargs, rfl, rfl, h0, r0⟩ := trodAll_cons hA
  obtain ⟨v1, vs1, d1, ds1, p1, q1, rfl, rfl, rfl, h1, r1⟩ := trodAll_cons r0
  obtain ⟨rfl, rfl, rfl⟩ := trodAll_nil r1
  obtain rfl : args = #[v0, v1] := by cases args; simp_all
  obtain ⟨rfl, rfl⟩ := trodVars_none hV
  have k0 := h0
  have lt0 : ∀ x ∈ p0, x.block < W.heap.size := by obtain ⟨m, hm⟩ := k0; exact DataW.trod_lt m _ _ _ hm
  have k1 := h1
  have lt1 : ∀ x ∈ p1, x.block < W.heap.size := by obtain ⟨m, hm⟩ := k1; exact DataW.trod_lt m _ _ _ hm
  obtain ⟨x0, hx0, rfl⟩ := wide_of_trod (hval 0 26 v0 rfl rfl) h0
  obtain ⟨a1, rfl, rfl, rfl, wf1⟩ := open_int Try.underlying3 (hval 1 3 v1 rfl rfl) h1
  clear hA0 hval0
  refine (flyNext_any x0 a1 hx0 W).mono fun e W' ⟨he, bel⟩ => ?_
  subst he
  exact ⟨_, rfl, _, _, _, [], _, [], hW', trodAll_mk1 (shut_bool Try.underlying4 _), (trodAll_cons_mk (Below.trod laidOut (by kernel_rfl) (of_decide_eq_true (by kernel_rfl)) k0 bel lt0) (trodAll_cons_mk (Below.trod laidOut (by kernel_rfl) (of_decide_eq_true (by kernel_rfl)) k1 bel lt1) trodAll_mk0)), rfl, bel.frame _, fun h => by cases h⟩

theorem over : Rows.flyNextRow.holds Try.pinned (OpenSpec.ofChange Rows.flyNextSpec) :=
  OpenClaim.holds_of_wide 4 Try.f4 rfl rfl rfl rfl rfl rfl rfl ⟨rfl, rfl, rfl, rfl, rfl⟩ rfl rfl rfl rfl rfl (by kernel_rfl) Try.func4 (by kernel_rfl)
    (of_decide_eq_true (by kernel_rfl)) (by unfold Func.isWrapper; first | (rw [if_pos (by decide +kernel)]; kernel_rfl) | (rw [if_neg (by decide +kernel)]; exact ⟨rfl, rfl⟩))
    (fun os started H enc _ => lifted os started H enc)

theorem proved : Rows.FlyNextSaid := over
#print axioms proved
end Go.Proofs.Ytgnaomgcfliamaa.flyNext

