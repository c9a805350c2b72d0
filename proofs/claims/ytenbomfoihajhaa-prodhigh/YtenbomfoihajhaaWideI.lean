/- radicandlaw02.awake. -/
import Derived.Test.YtenbomfoihajhaaWideH
import Derived.ChangeKeysEq
set_option linter.unusedVariables false
set_option linter.unusedSimpArgs false
set_option maxRecDepth 8000
namespace Go.Proofs.Ytenbomfoihajhaa
open Go.RowKit Plain

/-- What `==` says of two Wides. -/
theorem wide_equal (f g : Nat → Nat) (w : World) :
    (Op.equalIn 10000 24 (.agg #[.int .u64 (f 0 : Nat), .int .u64 (f 1 : Nat), .int .u64 (f 2 : Nat), .int .u64 (f 3 : Nat), .int .u64 (f 4 : Nat), .int .u64 (f 5 : Nat), .int .u64 (f 6 : Nat), .int .u64 (f 7 : Nat)]) (.agg #[.int .u64 (g 0 : Nat), .int .u64 (g 1 : Nat), .int .u64 (g 2 : Nat), .int .u64 (g 3 : Nat), .int .u64 (g 4 : Nat), .int .u64 (g 5 : Nat), .int .u64 (g 6 : Nat), .int .u64 (g 7 : Nat)])).run Try.prog w
      = .ok (f 0 == g 0 && (f 1 == g 1 && (f 2 == g 2 && (f 3 == g 3 && (f 4 == g 4 && (f 5 == g 5 && (f 6 == g 6 && f 7 == g 7))))))) w := by
  have u3 := Try.underlying22
  have a3 := Try.isAgg22
  obtain ⟨inf, hi⟩ : ∃ i, Try.prog.info? 22 = some i := Option.isSome_iff_exists.1 (by kernel_rfl)
  rw [show (10000 : Nat) = 9999 + 1 from rfl, run_equalIn_array w 9999 _ _ Try.underlying24 hi]
  have hc : Try.prog.cellsOf 22 = 1 := by kernel_rfl
  rw [hc]
  simp only [List.range_succ, List.range_zero, List.nil_append, List.cons_append, Op.eqItems]
  go_simp
  simp only [Int.ofNat_inj]
  by_cases h0 : f 0 = g 0
  · by_cases h1 : f 1 = g 1
    · by_cases h2 : f 2 = g 2
      · by_cases h3 : f 3 = g 3
        · by_cases h4 : f 4 = g 4
          · by_cases h5 : f 5 = g 5
            · by_cases h6 : f 6 = g 6
              · by_cases h7 : f 7 = g 7 <;> simp [h0, h1, h2, h3, h4, h5, h6, h7]
              · simp [h0, h1, h2, h3, h4, h5, h6]
            · simp [h0, h1, h2, h3, h4, h5]
          · simp [h0, h1, h2, h3, h4]
        · simp [h0, h1, h2, h3]
      · simp [h0, h1, h2]
    · simp [h0, h1]
  · simp [h0]

@[go_sem] theorem wide_same (x : Nat) (w : World) :
    (Op.equalIn 10000 24 (.agg #[.int .u64 (dgl (x) 0 : Nat), .int .u64 (dgl (x) 1 : Nat), .int .u64 (dgl (x) 2 : Nat), .int .u64 (dgl (x) 3 : Nat), .int .u64 (dgl (x) 4 : Nat), .int .u64 (dgl (x) 5 : Nat), .int .u64 (dgl (x) 6 : Nat), .int .u64 (dgl (x) 7 : Nat)]) (.agg #[.int .u64 (dgl (x) 0 : Nat), .int .u64 (dgl (x) 1 : Nat), .int .u64 (dgl (x) 2 : Nat), .int .u64 (dgl (x) 3 : Nat), .int .u64 (dgl (x) 4 : Nat), .int .u64 (dgl (x) 5 : Nat), .int .u64 (dgl (x) 6 : Nat), .int .u64 (dgl (x) 7 : Nat)])).run Try.prog w = .ok true w := by
  have := wide_equal (dgl x) (dgl x) w
  simpa using this

set_option maxHeartbeats 4000000 in
theorem awake2_any (w : World) :
    Calls Try.prog 24 #[] w fun e w' => e = .returned (.bool true) ∧ Below w.heap.size w w' := by
  go_enter Try.func24, Try.ntmps24
  go_wp2_with fail
  refine (wideOf_one _ _ rfl).mono ?_
  rintro e w1 ⟨rfl, hb1⟩
  go_wp2_with fail
  refine (wideSub0 _).mono ?_
  rintro e w2 ⟨rfl, hb2⟩
  have hB := below_trans hb1 hb2
  clear hb1 hb2
  have HB := hide hB
  clear hB
  generalize hN : subQ 0 1 = N at *
  have HN := hide hN
  have hmask := fun w => wideMask512 w
  have hsar := fun w => sar_awake w
  have hlen := fun w => len_awake w
  rw [hN] at hmask hsar hlen
  clear hN
  have HM := hide hmask
  have HS := hide hsar
  have HL := hide hlen
  clear hmask hsar hlen
  go_wp2
  go_region_with (first
    | (go_at_call 37; refine (HM.out _).mono ?_; rintro e w3 ⟨rfl, hb3⟩; replace hb3 := below_of_drew hb3; have hv3 : ∀ i, i < 8 → w3.cell? ⟨w2.heap.size, i, none⟩ = some (.int .u64 (dgl N i : Nat)) := (lies_alloc w2 N 24).below hb3 (by simp))
    | (go_at_call 22; refine (HS.out _).mono ?_; rintro e w4 ⟨rfl, hb4⟩; have hv4 : ∀ i, i < 8 → w4.cell? ⟨w2.heap.size, i, none⟩ = some (.int .u64 (dgl N i : Nat)) := Lies.below hv3 hb4 (by have := hb3.size; simp at this; omega))
    | (go_at_call 30; refine (HL.out _).mono ?_; rintro e w5 ⟨rfl, hb5⟩))
  all_goals
    go_wp2
    go_ret
    exact ⟨rfl, below_trans HB.out (below_trans (below_alloc_then hb3) (below_trans hb4 hb5))⟩

end Go.Proofs.Ytenbomfoihajhaa
