/- Contracts and laws: WideI, WideJ, WideK, WideL. -/
import Derived.Test.YteocibahclpegaaPartAI
import Derived.ChangeKeysEq
import Derived.Test.YteocibahclpegaaPartAG
import Derived.Deep.DeepCutAuto
/- radicandlaw02.awake. -/
set_option linter.unusedVariables false
set_option linter.unusedSimpArgs false
set_option maxRecDepth 8000
namespace Go.Proofs.Yteocibahclpegaa
open Go.RowKit Plain

/-- What `==` says of two Wides. -/
theorem wide_equal (f g : Nat → Nat) (w : World) :
    (Op.equalIn 10000 32 (.agg #[.int .u64 (f 0 : Nat), .int .u64 (f 1 : Nat), .int .u64 (f 2 : Nat), .int .u64 (f 3 : Nat), .int .u64 (f 4 : Nat), .int .u64 (f 5 : Nat), .int .u64 (f 6 : Nat), .int .u64 (f 7 : Nat)]) (.agg #[.int .u64 (g 0 : Nat), .int .u64 (g 1 : Nat), .int .u64 (g 2 : Nat), .int .u64 (g 3 : Nat), .int .u64 (g 4 : Nat), .int .u64 (g 5 : Nat), .int .u64 (g 6 : Nat), .int .u64 (g 7 : Nat)])).run Try.prog w
      = .ok (f 0 == g 0 && (f 1 == g 1 && (f 2 == g 2 && (f 3 == g 3 && (f 4 == g 4 && (f 5 == g 5 && (f 6 == g 6 && f 7 == g 7))))))) w := by
  have u3 := Try.underlying24
  have a3 := Try.isAgg24
  obtain ⟨inf, hi⟩ : ∃ i, Try.prog.info? 24 = some i := Option.isSome_iff_exists.1 (by kernel_rfl)
  rw [show (10000 : Nat) = 9999 + 1 from rfl, run_equalIn_array w 9999 _ _ Try.underlying32 hi]
  have hc : Try.prog.cellsOf 24 = 1 := by kernel_rfl
  rw [hc]
  simp only [List.range_succ, List.range_zero, List.nil_append, List.cons_append, Op.eqItems]
  go_simp
  simp only [Int.ofNat_inj]
  by_cases h0 : f 0 = g 0
  · by_cases h1 : f 1 = g 1
    · by_cases h2 : f 2 = g 2
      · by_cases h3 : f 3 = g 3
        · by_cases h4 : f 4 = g 4
          · by_cases h5 : f 5 = g 5
            · by_cases h6 : f 6 = g 6
              · by_cases h7 : f 7 = g 7 <;> simp [h0, h1, h2, h3, h4, h5, h6, h7]
              · simp [h0, h1, h2, h3, h4, h5, h6]
            · simp [h0, h1, h2, h3, h4, h5]
          · simp [h0, h1, h2, h3, h4]
        · simp [h0, h1, h2, h3]
      · simp [h0, h1, h2]
    · simp [h0, h1]
  · simp [h0]

@[go_sem] theorem wide_same (x : Nat) (w : World) :
    (Op.equalIn 10000 32 (.agg #[.int .u64 (dgl (x) 0 : Nat), .int .u64 (dgl (x) 1 : Nat), .int .u64 (dgl (x) 2 : Nat), .int .u64 (dgl (x) 3 : Nat), .int .u64 (dgl (x) 4 : Nat), .int .u64 (dgl (x) 5 : Nat), .int .u64 (dgl (x) 6 : Nat), .int .u64 (dgl (x) 7 : Nat)]) (.agg #[.int .u64 (dgl (x) 0 : Nat), .int .u64 (dgl (x) 1 : Nat), .int .u64 (dgl (x) 2 : Nat), .int .u64 (dgl (x) 3 : Nat), .int .u64 (dgl (x) 4 : Nat), .int .u64 (dgl (x) 5 : Nat), .int .u64 (dgl (x) 6 : Nat), .int .u64 (dgl (x) 7 : Nat)])).run Try.prog w = .ok true w := by
  have := wide_equal (dgl x) (dgl x) w
  simpa using this

end Go.Proofs.Yteocibahclpegaa

/- Contracts: radicandref02.Wide. -/
set_option linter.unusedVariables false
set_option linter.unusedSimpArgs false
set_option maxRecDepth 8000
namespace Go.Proofs.Yteocibahclpegaa
open Go.RowKit Plain

end Go.Proofs.Yteocibahclpegaa

/- Contracts: radicandref02.Big; wide.Cmp. -/
set_option linter.unusedVariables false
set_option linter.unusedSimpArgs false
set_option maxRecDepth 8000
namespace Go.Proofs.Yteocibahclpegaa
open Go.RowKit Plain

theorem big_step (a k : Nat) : a % 18446744073709551616 ^ k + dgl a k * 2 ^ (64 * k) = a % 18446744073709551616 ^ (k + 1) := by
  unfold dgl
  rw [← LLpow, Nat.pow_succ, Nat.mod_mul (x := a), Nat.mul_comm (a / _ % _)]

theorem refShl_int (n K s : Nat) (x : Int) (va : Value) (w : World) (ha : BigV w va n K) (hK : K ≤ 1000000) (hs : s ≤ 100000) (hx : x = (s : Int)) :
    Calls Try.prog 21 #[va, .int .i64 x] w fun e w' => ∃ v, e = .returned v ∧ BigV w' v (n * 2 ^ s) (s / 32 + K + 1) ∧ Below w.heap.size w w' := by
  subst hx; exact refShl_any n K s va w ha hK hs

theorem mk0_big (w : World) (p : Addr) : BigV w (.slice (some p) 0 0) 0 0 := ⟨[], ⟨some p, 0, rfl, Nat.le_refl _, by simp [maxLen], .inl rfl⟩, dig_nil, .inl rfl, by simp⟩

set_option maxHeartbeats 2000000 in
theorem refBig_any (a : Nat) (ha : a < QQ) (w : World) :
    Calls Try.prog 19 #[.agg #[.int .u64 (dgl (a) 0 : Nat), .int .u64 (dgl (a) 1 : Nat), .int .u64 (dgl (a) 2 : Nat), .int .u64 (dgl (a) 3 : Nat), .int .u64 (dgl (a) 4 : Nat), .int .u64 (dgl (a) 5 : Nat), .int .u64 (dgl (a) 6 : Nat), .int .u64 (dgl (a) 7 : Nat)]] w fun e w' => ∃ v, e = .returned v ∧ BigV w' v a 40 ∧ Below w.heap.size w w' := by
  have HA := hide ha
  clear ha
  go_enter Try.func19, Try.ntmps19
  go_wp2
  go_loopw [3, 4] (fun v i wr => ∃ k : Nat, k ≤ 8 ∧ i = .int .i64 k ∧ BigV wr v (a % 18446744073709551616 ^ k) (2 * k + 20) ∧ Hid (Lies wr w.heap.size a) ∧ Below w.heap.size w wr ∧ w.heap.size < wr.heap.size)
      (fun _ i _ => 8 - (intOf i).toNat)
  case atStart =>
    refine ⟨0, by omega, rfl, ?_, (lies_alloc w a 32).alloc (by simp) _, Below.alloc (Below.alloc (Below.refl _ _) (Nat.le_refl _) _) (by simp) _, by simp; omega⟩
    rw [Nat.pow_zero, Nat.mod_one]
    exact (mk0_big _ _).mono (by omega)
  case round =>
    obtain ⟨k, hk, rfl, hbig, hl, hbel, hsz⟩ := hrel
    by_cases hlt : k < 8
    · have hj : (k : Int) < 8 := by omega
      have hc := hl.out k hlt
      have hm : IntKind.i64.wrap (64 * (k : Int)) = 64 * (k : Int) := by rw [IntKind.wrap_i64]; omega
      have HS := hide (big_step a k)
      have HX := hide (show 64 * (k : Int) = ((64 * k : Nat) : Int) by omega)
      have hdl := dgl_lt a k
      have HB := hide hbig
      have HBEL := hide hbel
      have HSZ := hide hsz
      clear hbig hbel
      go_wp2_with (first
        | (go_at_call 18; refine (small_any (dgl a k) hdl _).mono ?_; rintro e w1 ⟨v1, rfl, hb1, hw1⟩)
        | (go_at_call 21; refine (refShl_int _ 2 (64 * k) _ _ _ hb1 (by omega) (by omega) (by omega)).mono ?_; rintro e w2 ⟨v2, rfl, hb2, hw2⟩; clear hb1)
        | (go_at_call 37; refine (refAdd_any _ _ _ _ _ _ _ (HB.out.below (below_trans hw1 hw2)) hb2 (by omega) (by omega)).mono ?_; rintro e w3 ⟨v3, rfl, hb3, hw3⟩; clear hb2))
      go_roundw
      case rel =>
        rw [HS.out] at hb3
        have hB := below_trans hw1 (below_trans hw2 hw3)
        exact ⟨k + 1, by omega, by go_num, hb3.mono (by omega), hl.out.below hB HSZ.out, HBEL.out.trans (hB.mono HBEL.out.size), Nat.lt_of_lt_of_le HSZ.out hB.size⟩
      case measure => simp [intOf]; omega
    · have hk : k = 8 := by omega
      subst hk
      have HB := hide hbig
      have HBEL := hide hbel
      clear hbig hbel
      go_wp2
      go_ret
      have hb := HB.out
      rw [show a % 18446744073709551616 ^ 8 = a from Nat.mod_eq_of_lt HA.out] at hb
      exact ⟨_, rfl, hb.mono (by omega), HBEL.out⟩

theorem wide_inj {a b : Nat} (ha : a < QQ) (hb : b < QQ) (h : ∀ i, i < 8 → dgl a i = dgl b i) : a = b := by
  have e : dl 18446744073709551616 a 8 = dl 18446744073709551616 b 8 := by
    unfold dl
    apply List.map_congr_left
    intro i hi
    exact h i (List.mem_range.1 hi)
  rw [← dig_val (by decide) _ _ (dig_block ha), ← dig_val (by decide) _ _ (dig_block hb), e]

theorem wide_diff {a b : Nat} (ha : a < QQ) (hb : b < QQ) (h : a ≠ b) (w : World) :
    (Op.equalIn 10000 32 (.agg #[.int .u64 (dgl (a) 0 : Nat), .int .u64 (dgl (a) 1 : Nat), .int .u64 (dgl (a) 2 : Nat), .int .u64 (dgl (a) 3 : Nat), .int .u64 (dgl (a) 4 : Nat), .int .u64 (dgl (a) 5 : Nat), .int .u64 (dgl (a) 6 : Nat), .int .u64 (dgl (a) 7 : Nat)]) (.agg #[.int .u64 (dgl (b) 0 : Nat), .int .u64 (dgl (b) 1 : Nat), .int .u64 (dgl (b) 2 : Nat), .int .u64 (dgl (b) 3 : Nat), .int .u64 (dgl (b) 4 : Nat), .int .u64 (dgl (b) 5 : Nat), .int .u64 (dgl (b) 6 : Nat), .int .u64 (dgl (b) 7 : Nat)])).run Try.prog w = .ok false w := by
  have hw := wide_equal (dgl a) (dgl b) w
  rw [hw]
  congr 1
  rw [Bool.eq_false_iff]
  intro hc
  simp only [Bool.and_eq_true, beq_iff_eq] at hc
  obtain ⟨h0, h1, h2, h3, h4, h5, h6, h7⟩ := hc
  refine h (wide_inj ha hb fun i hi => ?_)
  match i, hi with
  | 0, _ => exact h0
  | 1, _ => exact h1
  | 2, _ => exact h2
  | 3, _ => exact h3
  | 4, _ => exact h4
  | 5, _ => exact h5
  | 6, _ => exact h6
  | 7, _ => exact h7

end Go.Proofs.Yteocibahclpegaa

/- The walk over radicandlaw02.WideAdds. -/
set_option linter.unusedVariables false
set_option linter.unusedSimpArgs false
set_option maxRecDepth 8000
namespace Go.Proofs.Yteocibahclpegaa
open Go.RowKit Plain

/-- Eight limbs lie in a block of the world. -/
def LiesF (w : World) (b : Nat) (f : Nat → Nat) : Prop := (∀ i, i < 8 → w.cell? ⟨b, i, none⟩ = some (.int .u64 (f i : Nat))) ∧ b < w.heap.size
theorem LiesF.below {w w' : World} {b : Nat} {f : Nat → Nat} (h : LiesF w b f) (hb : Below w.heap.size w w') : LiesF w' b f :=
  ⟨fun i hi => (hb.cell (p := ⟨b, i, none⟩) h.2).trans (h.1 i hi), Nat.lt_of_lt_of_le h.2 hb.size⟩
theorem below_allocs (w : World) (o : Obj) : Below w.heap.size w (w.alloc o) := (Below.refl _ _).alloc (Nat.le_refl _) o
theorem LiesF.alloc {w : World} {b : Nat} {f : Nat → Nat} (h : LiesF w b f) (o : Obj) : LiesF (w.alloc o) b f := h.below (below_allocs w o)
theorem LiesF.drew {w : World} {b : Nat} {f : Nat → Nat} (h : LiesF w b f) : LiesF w.drew b f := h
theorem liesF_new (w : World) (f : Nat → Nat) (e : TypeId) : LiesF (w.alloc (.cells #[.int .u64 (f 0 : Nat), .int .u64 (f 1 : Nat), .int .u64 (f 2 : Nat), .int .u64 (f 3 : Nat), .int .u64 (f 4 : Nat), .int .u64 (f 5 : Nat), .int .u64 (f 6 : Nat), .int .u64 (f 7 : Nat)] e)) w.heap.size f := by
  refine ⟨fun i hi => ?_, by simp⟩
  match i, hi with
  | 0, _ => simp [go_sem]
  | 1, _ => simp [go_sem]
  | 2, _ => simp [go_sem]
  | 3, _ => simp [go_sem]
  | 4, _ => simp [go_sem]
  | 5, _ => simp [go_sem]
  | 6, _ => simp [go_sem]
  | 7, _ => simp [go_sem]

end Go.Proofs.Yteocibahclpegaa

