/- Contracts: wide.Add, wide.Sub. -/
import Derived.Test.YtenbomfoihajhaaWideB
import Derived.Test.YtenbomfoihajhaaRefF
set_option linter.unusedVariables false
set_option linter.unusedSimpArgs false
set_option maxRecDepth 8000
namespace Go.Proofs.Ytenbomfoihajhaa
open Go.RowKit Plain

def QQ : Nat := 18446744073709551616 ^ 8

theorem carry8 (a b : Nat) (ha : a < QQ) (hb : b < QQ) : (((carry 18446744073709551616 a b 8 : Nat) : Int) != 0) = decide (QQ ≤ a + b) := by
  unfold carry
  have ha' : a < 18446744073709551616 ^ 8 := ha
  have hb' : b < 18446744073709551616 ^ 8 := hb
  rw [Nat.mod_eq_of_lt ha', Nat.mod_eq_of_lt hb']
  have hq : 0 < 18446744073709551616 ^ 8 := Nat.pow_pos (by decide)
  unfold QQ
  generalize 18446744073709551616 ^ 8 = Q at *
  by_cases h : Q ≤ a + b
  · have := Nat.div_pos h hq
    rw [decide_eq_true h, bne_iff_ne]; omega
  · have h2 : (a + b) / Q = 0 := Nat.div_eq_of_lt (by omega)
    rw [decide_eq_false h, h2]; rfl
theorem borrow8 (a b : Nat) (ha : a < QQ) (hb : b < QQ) : (((bor 18446744073709551616 a b 8 : Nat) : Int) != 0) = decide (a < b) := by
  unfold bor
  have ha' : a < 18446744073709551616 ^ 8 := ha
  have hb' : b < 18446744073709551616 ^ 8 := hb
  rw [Nat.mod_eq_of_lt ha', Nat.mod_eq_of_lt hb']
  by_cases h : a < b
  · simp [h]
  · simp [h]

theorem w8_congr {x y : Nat → Nat} (h : ∀ i, i < 8 → x i = y i) : (#[.int .u64 (x 0 : Nat), .int .u64 (x 1 : Nat), .int .u64 (x 2 : Nat), .int .u64 (x 3 : Nat), .int .u64 (x 4 : Nat), .int .u64 (x 5 : Nat), .int .u64 (x 6 : Nat), .int .u64 (x 7 : Nat)] : Array Value) = #[.int .u64 (y 0 : Nat), .int .u64 (y 1 : Nat), .int .u64 (y 2 : Nat), .int .u64 (y 3 : Nat), .int .u64 (y 4 : Nat), .int .u64 (y 5 : Nat), .int .u64 (y 6 : Nat), .int .u64 (y 7 : Nat)] := by
  rw [h 0 (by decide), h 1 (by decide), h 2 (by decide), h 3 (by decide), h 4 (by decide), h 5 (by decide), h 6 (by decide), h 7 (by decide)]

set_option maxHeartbeats 400000 in
theorem wideAdd_any (a b : Nat) (ha : a < QQ) (hb : b < QQ) (w : World) :
    Calls Try.prog 40 #[.agg #[.int .u64 (dgl (a) 0 : Nat), .int .u64 (dgl (a) 1 : Nat), .int .u64 (dgl (a) 2 : Nat), .int .u64 (dgl (a) 3 : Nat), .int .u64 (dgl (a) 4 : Nat), .int .u64 (dgl (a) 5 : Nat), .int .u64 (dgl (a) 6 : Nat), .int .u64 (dgl (a) 7 : Nat)], .agg #[.int .u64 (dgl (b) 0 : Nat), .int .u64 (dgl (b) 1 : Nat), .int .u64 (dgl (b) 2 : Nat), .int .u64 (dgl (b) 3 : Nat), .int .u64 (dgl (b) 4 : Nat), .int .u64 (dgl (b) 5 : Nat), .int .u64 (dgl (b) 6 : Nat), .int .u64 (dgl (b) 7 : Nat)]] w fun e w' => e = .returned (.tuple #[.agg #[.int .u64 (dgl (a + b) 0 : Nat), .int .u64 (dgl (a + b) 1 : Nat), .int .u64 (dgl (a + b) 2 : Nat), .int .u64 (dgl (a + b) 3 : Nat), .int .u64 (dgl (a + b) 4 : Nat), .int .u64 (dgl (a + b) 5 : Nat), .int .u64 (dgl (a + b) 6 : Nat), .int .u64 (dgl (a + b) 7 : Nat)], .bool (decide (QQ ≤ a + b))]) ∧ Below w.heap.size w w' := by
  have hc := fun w => chain_any 76 a b (fun i => dgl (a + b) i) (fun i => carry 18446744073709551616 a b i) w (enters_of Try.func76 (by kernel_rfl) rfl) (by
    intro i hi w
    refine (limbAdd_any _ _ _ w (by omega) (by omega)).mono ?_
    rintro e w' ⟨rfl, rfl⟩
    exact ⟨by rw [sum_lo, sum_hi], rfl⟩) (carry_zero _ _ _)
  rw [← carry8 a b ha hb]
  have HC := hide hc
  clear hc ha hb
  go_enter Try.func40, Try.ntmps40
  go_wp2_with fail
  refine (HC.out _).mono ?_
  rintro e w1 ⟨rfl, hb1⟩
  obtain ⟨hr, hrf, hl⟩ := res_box hb1
  simp only [World.size_alloc] at hr hrf hl
  have HB := hide (below_alloc_then (below_alloc_then (below_alloc_then hb1)))
  clear hb1
  go_wp2
  exact bodyPost_ret (v := .tuple #[.agg #[.int .u64 (dgl (a + b) 0 : Nat), .int .u64 (dgl (a + b) 1 : Nat), .int .u64 (dgl (a + b) 2 : Nat), .int .u64 (dgl (a + b) 3 : Nat), .int .u64 (dgl (a + b) 4 : Nat), .int .u64 (dgl (a + b) 5 : Nat), .int .u64 (dgl (a + b) 6 : Nat), .int .u64 (dgl (a + b) 7 : Nat)], .bool (((carry 18446744073709551616 a b 8 : Nat) : Int) != 0)]) (by simp [results, Try.results40, go_sem, hr]) rfl ⟨rfl, below_set8 HB.out _ (by omega) _ _ _ _ _ _ _ _⟩

/-- a without b, modulo 2^512. -/
def subQ (a b : Nat) : Nat := subW 18446744073709551616 8 a b
theorem subQ_lt (a b : Nat) : subQ a b < QQ := subW_lt (by decide) 8 a b

theorem sub_hdo (a b i : Nat) (hi : i < 8) (w : World) :
    Calls Try.prog 77 #[.int .u64 (dgl a i : Nat), .int .u64 (dgl b i : Nat), .int .u64 (bor 18446744073709551616 a b i : Nat)] w fun e w' => e = .returned (.tuple #[.int .u64 (dgl (subQ a b) i : Nat), .int .u64 (bor 18446744073709551616 a b (i + 1) : Nat)]) ∧ w' = w := by
  refine (sub_nat _ _ _ (dgl_lt a i) (dgl_lt b i) w).mono ?_
  rintro e w' ⟨d, o, rfl, hd, ho, heq, rfl⟩
  refine ⟨?_, rfl⟩
  have h1 := sbd_eq (β := 18446744073709551616) (by decide) a b i
  have h2 : dgl (subQ a b) i = sbd 18446744073709551616 a b i := subW_digit (by decide) 8 a b i hi
  have h3 := bor_le 18446744073709551616 a b i
  have h4 := bor_le 18446744073709551616 a b (i + 1)
  have h5 : oneN (bor 18446744073709551616 a b i) = bor 18446744073709551616 a b i := by unfold oneN; split <;> omega
  rw [h5] at heq
  rw [h2]
  obtain ⟨h6, h7⟩ := h1
  have h8 : sbd 18446744073709551616 a b i + (dgl b i + bor 18446744073709551616 a b i) = dgl a i + 18446744073709551616 * bor 18446744073709551616 a b (i + 1) := h7
  generalize sbd 18446744073709551616 a b i = s at *
  generalize bor 18446744073709551616 a b (i + 1) = t at *
  generalize bor 18446744073709551616 a b i = u at *
  generalize dgl a i = x at *
  generalize dgl b i = y at *
  have e1 : o = t := by omega
  have e2 : d = s := by omega
  rw [e1, e2]

set_option maxHeartbeats 400000 in
theorem wideSub_any (a b : Nat) (ha : a < QQ) (hb : b < QQ) (w : World) :
    Calls Try.prog 41 #[.agg #[.int .u64 (dgl (a) 0 : Nat), .int .u64 (dgl (a) 1 : Nat), .int .u64 (dgl (a) 2 : Nat), .int .u64 (dgl (a) 3 : Nat), .int .u64 (dgl (a) 4 : Nat), .int .u64 (dgl (a) 5 : Nat), .int .u64 (dgl (a) 6 : Nat), .int .u64 (dgl (a) 7 : Nat)], .agg #[.int .u64 (dgl (b) 0 : Nat), .int .u64 (dgl (b) 1 : Nat), .int .u64 (dgl (b) 2 : Nat), .int .u64 (dgl (b) 3 : Nat), .int .u64 (dgl (b) 4 : Nat), .int .u64 (dgl (b) 5 : Nat), .int .u64 (dgl (b) 6 : Nat), .int .u64 (dgl (b) 7 : Nat)]] w fun e w' => e = .returned (.tuple #[.agg #[.int .u64 (dgl (subQ a b) 0 : Nat), .int .u64 (dgl (subQ a b) 1 : Nat), .int .u64 (dgl (subQ a b) 2 : Nat), .int .u64 (dgl (subQ a b) 3 : Nat), .int .u64 (dgl (subQ a b) 4 : Nat), .int .u64 (dgl (subQ a b) 5 : Nat), .int .u64 (dgl (subQ a b) 6 : Nat), .int .u64 (dgl (subQ a b) 7 : Nat)], .bool (decide (a < b))]) ∧ Below w.heap.size w w' := by
  have hc := fun w => chain_any 77 a b (fun i => dgl (subQ a b) i) (fun i => bor 18446744073709551616 a b i) w (enters_of Try.func77 (by kernel_rfl) rfl) (fun i hi w => sub_hdo a b i hi w) (bor_zero _ _ _)
  rw [← borrow8 a b ha hb]
  have HC := hide hc
  clear hc ha hb
  go_enter Try.func41, Try.ntmps41
  go_wp2_with fail
  refine (HC.out _).mono ?_
  rintro e w1 ⟨rfl, hb1⟩
  obtain ⟨hr, hrf, hl⟩ := res_box hb1
  simp only [World.size_alloc] at hr hrf hl
  have HB := hide (below_alloc_then (below_alloc_then (below_alloc_then hb1)))
  clear hb1
  go_wp2
  exact bodyPost_ret (v := .tuple #[.agg #[.int .u64 (dgl (subQ a b) 0 : Nat), .int .u64 (dgl (subQ a b) 1 : Nat), .int .u64 (dgl (subQ a b) 2 : Nat), .int .u64 (dgl (subQ a b) 3 : Nat), .int .u64 (dgl (subQ a b) 4 : Nat), .int .u64 (dgl (subQ a b) 5 : Nat), .int .u64 (dgl (subQ a b) 6 : Nat), .int .u64 (dgl (subQ a b) 7 : Nat)], .bool (((bor 18446744073709551616 a b 8 : Nat) : Int) != 0)]) (by simp [results, Try.results41, go_sem, hr]) rfl ⟨rfl, below_set8 HB.out _ (by omega) _ _ _ _ _ _ _ _⟩

end Go.Proofs.Ytenbomfoihajhaa
