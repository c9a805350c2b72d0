/- Contracts: wide.Power, Mask, Sar. -/
import Derived.Test.YtenbomfoihajhaaWideF
set_option linter.unusedVariables false
set_option linter.unusedSimpArgs false
set_option maxRecDepth 8000
namespace Go.Proofs.Ytenbomfoihajhaa
open Go.RowKit Plain

theorem one_lt_qq : 1 < QQ := by unfold QQ; exact Nat.one_lt_pow (by decide) (by decide)

set_option maxHeartbeats 400000 in
theorem widePower_any (n : Int) (hn : 0 ≤ n) (w : World) :
    Calls Try.prog 36 #[.int .i64 n] w fun e w' => e = .returned (.agg #[.int .u64 (dgl (sh 1 (roomI n)) 0 : Nat), .int .u64 (dgl (sh 1 (roomI n)) 1 : Nat), .int .u64 (dgl (sh 1 (roomI n)) 2 : Nat), .int .u64 (dgl (sh 1 (roomI n)) 3 : Nat), .int .u64 (dgl (sh 1 (roomI n)) 4 : Nat), .int .u64 (dgl (sh 1 (roomI n)) 5 : Nat), .int .u64 (dgl (sh 1 (roomI n)) 6 : Nat), .int .u64 (dgl (sh 1 (roomI n)) 7 : Nat)]) ∧ Below w.heap.size w w' := by
  have HC := hide (fun w => wideShl_any 1 n one_lt_qq w)
  go_enter Try.func36, Try.ntmps36
  go_wp2_with fail
  refine (wideOf_one _ _ (by simp)).mono ?_
  rintro e w1 ⟨rfl, hb1⟩
  go_wp2_with fail
  refine (HC.out _).mono ?_
  rintro e w2 ⟨rfl, hb2⟩
  replace hb1 := below_trans hb1 hb2
  obtain ⟨hr, hrf, hl⟩ := res_box hb1
  have HB := hide (below_alloc_then hb1)
  clear hb1 hb2
  go_wp2
  exact bodyPost_ret (v := .agg #[.int .u64 (dgl (sh 1 (roomI n)) 0 : Nat), .int .u64 (dgl (sh 1 (roomI n)) 1 : Nat), .int .u64 (dgl (sh 1 (roomI n)) 2 : Nat), .int .u64 (dgl (sh 1 (roomI n)) 3 : Nat), .int .u64 (dgl (sh 1 (roomI n)) 4 : Nat), .int .u64 (dgl (sh 1 (roomI n)) 5 : Nat), .int .u64 (dgl (sh 1 (roomI n)) 6 : Nat), .int .u64 (dgl (sh 1 (roomI n)) 7 : Nat)]) (by simp [results, Try.results36, go_sem, hr]) rfl ⟨rfl, below_set8 HB.out _ (by omega) _ _ _ _ _ _ _ _⟩

/-- a taken with a sign, as far as it is looked at. -/
def extN (a : Nat) : Nat := if a / 2 ^ 511 % 2 == 1 then a + QQ * (18446744073709551616 ^ 16 - 1) else a

theorem dgl_add_mul (a m j : Nat) (hj : j < 8) : dgl (a + QQ * m) j = dgl a j := by
  unfold dgl QQ
  have e : (18446744073709551616 : Nat) ^ 8 = 18446744073709551616 ^ j * (18446744073709551616 * 18446744073709551616 ^ (7 - j)) := by
    rw [← Nat.pow_succ', ← Nat.pow_add]; congr 1; omega
  rw [e, Nat.mul_assoc, Nat.add_mul_div_left _ _ (Nat.pow_pos (by decide)), Nat.mul_assoc, Nat.add_mul_mod_self_left]
theorem dgl_ones (K j : Nat) (hj : j < K) : dgl (18446744073709551616 ^ K - 1) j = 18446744073709551615 := by
  unfold dgl
  have hp : 0 < 18446744073709551616 ^ j := Nat.pow_pos (by decide)
  have e : (18446744073709551616 : Nat) ^ K = 18446744073709551616 ^ j * (18446744073709551616 * 18446744073709551616 ^ (K - 1 - j)) := by
    rw [← Nat.pow_succ', ← Nat.pow_add]; congr 1; omega
  have hq : 0 < 18446744073709551616 ^ (K - 1 - j) := Nat.pow_pos (by decide)
  have e2 : 18446744073709551616 ^ K - 1 = (18446744073709551616 ^ j - 1) + 18446744073709551616 ^ j * (18446744073709551616 * 18446744073709551616 ^ (K - 1 - j) - 1) := by
    rw [e]
    generalize 18446744073709551616 * 18446744073709551616 ^ (K - 1 - j) = t at *
    have ht : 0 < t := by
      rcases Nat.eq_zero_or_pos t with h | h
      · rw [h, Nat.mul_zero] at e; have := Nat.pow_pos (n := K) (show 0 < 18446744073709551616 by decide); omega
      · exact h
    obtain ⟨s, rfl⟩ : ∃ s, t = s + 1 := ⟨t - 1, by omega⟩
    rw [Nat.add_sub_cancel, Nat.mul_add, Nat.mul_one]; omega
  rw [e2, Nat.add_mul_div_left _ _ hp, Nat.div_eq_of_lt (by omega), Nat.zero_add]
  generalize 18446744073709551616 ^ (K - 1 - j) = s at *
  omega
theorem extS {a : Nat} (ha : a < QQ) (hm : (a / 2 ^ 511 % 2 == 1) = true) : Ext (extN a) a 18446744073709551615 := by
  unfold extN
  rw [if_pos hm]
  refine ⟨fun j hj => dgl_add_mul a _ j hj, fun j h1 h2 => ?_⟩
  have := dgl_ones 16 (j - 8) (by omega)
  unfold dgl at this ⊢
  rw [← this]
  have e : (18446744073709551616 : Nat) ^ j = QQ * 18446744073709551616 ^ (j - 8) := by unfold QQ; rw [← Nat.pow_add]; congr 1; omega
  have hq : 0 < QQ := by unfold QQ; exact Nat.pow_pos (by decide)
  rw [e, ← Nat.div_div_eq_div_mul, Nat.add_mul_div_left _ _ hq, Nat.div_eq_of_lt ha, Nat.zero_add]

set_option maxHeartbeats 400000 in
theorem wideSar_any (a : Nat) (n : Int) (ha : a < QQ) (w : World) :
    Calls Try.prog 22 #[.agg #[.int .u64 (dgl (a) 0 : Nat), .int .u64 (dgl (a) 1 : Nat), .int .u64 (dgl (a) 2 : Nat), .int .u64 (dgl (a) 3 : Nat), .int .u64 (dgl (a) 4 : Nat), .int .u64 (dgl (a) 5 : Nat), .int .u64 (dgl (a) 6 : Nat), .int .u64 (dgl (a) 7 : Nat)], .int .i64 n] w fun e w' => e = .returned (.agg #[.int .u64 (dgl (sh (extN a) (-(roomI n))) 0 : Nat), .int .u64 (dgl (sh (extN a) (-(roomI n))) 1 : Nat), .int .u64 (dgl (sh (extN a) (-(roomI n))) 2 : Nat), .int .u64 (dgl (sh (extN a) (-(roomI n))) 3 : Nat), .int .u64 (dgl (sh (extN a) (-(roomI n))) 4 : Nat), .int .u64 (dgl (sh (extN a) (-(roomI n))) 5 : Nat), .int .u64 (dgl (sh (extN a) (-(roomI n))) 6 : Nat), .int .u64 (dgl (sh (extN a) (-(roomI n))) 7 : Nat)]) ∧ Below w.heap.size w w' := by
  have hbd := roomI_bd n
  have HM := hide (fun w => wideMinus_any a ha w)
  have hneg : IntKind.i64.wrap (-(roomI n)) = -(roomI n) := by rw [IntKind.wrap_i64]; omega
  by_cases hm : (a / 2 ^ 511 % 2 == 1) = true
  · have HC := hide (fun w => moved_any a 18446744073709551615 (extN a) (-(roomI n)) w (extS ha hm) (by omega) (by omega))
    rw [hm] at HM
    clear ha hm
    go_enter Try.func22, Try.ntmps22
    go_wp2_with fail
    refine (HM.out _).mono ?_
    rintro e w1 ⟨rfl, hb1⟩
    have hA := (lies_alloc w a 24).alloc (by simp) (.cells #[.int .u64 0, .int .u64 0, .int .u64 0, .int .u64 0, .int .u64 0, .int .u64 0, .int .u64 0, .int .u64 0] 24)
    replace hA := hA.below hb1 (by simp only [World.size_alloc]; omega)
    unfold Lies at hA
    obtain ⟨hr, hrf, hl⟩ := res_box hb1
    simp only [World.size_alloc] at hr hrf hl
    have hBB := below_alloc_then (below_alloc_then hb1)
    clear hb1
    go_wp2
    refine wp_region_still_tail 5 mixedOk (by kernel_rfl) ?_
    simp only [List.take_succ_cons, List.take_zero, List.drop_succ_cons, List.drop_zero]
    change wpStill _ _ (World.drew _) _ _ _
    repeat still_step
    still_call (room_any n _)
    repeat still_step
    refine wpStill_nil ?_
    change wpList _ _ _ _ _ (World.drew _)
    go_wp2_with fail
    rw [show bits .xor .u64 IntKind.u64.max 0 = ((18446744073709551615 : Nat) : Int) from by decide]
    refine (HC.out _).mono ?_
    rintro e w2 ⟨rfl, hb2⟩
    replace hb2 := below_of_drew hb2
    have hr2 : ∀ i, i < 8 → w2.cell? ⟨w.heap.size + 1, i, none⟩ = some (.int .u64 (dgl 0 i : Nat)) := fun i hi => (hb2.cell (p := ⟨w.heap.size + 1, i, none⟩) hl).trans (hr i hi)
    have hrf2 : ∀ i, w2.frozen? ⟨w.heap.size + 1, i, none⟩ = false := fun i => (hb2.frozen (p := ⟨w.heap.size + 1, i, none⟩) hl).trans (hrf i)
    have HB := hide (below_trans hBB hb2)
    clear hr hrf hBB hA hb2
    go_wp2
    exact bodyPost_ret (v := .agg #[.int .u64 (dgl (sh (extN a) (-(roomI n))) 0 : Nat), .int .u64 (dgl (sh (extN a) (-(roomI n))) 1 : Nat), .int .u64 (dgl (sh (extN a) (-(roomI n))) 2 : Nat), .int .u64 (dgl (sh (extN a) (-(roomI n))) 3 : Nat), .int .u64 (dgl (sh (extN a) (-(roomI n))) 4 : Nat), .int .u64 (dgl (sh (extN a) (-(roomI n))) 5 : Nat), .int .u64 (dgl (sh (extN a) (-(roomI n))) 6 : Nat), .int .u64 (dgl (sh (extN a) (-(roomI n))) 7 : Nat)]) (by simp [results, Try.results22, go_sem, hr2]) rfl ⟨rfl, below_set8 HB.out _ (by omega) _ _ _ _ _ _ _ _⟩
  · have hmf : (a / 2 ^ 511 % 2 == 1) = false := Bool.eq_false_iff.2 hm
    have hext : extN a = a := by unfold extN; rw [if_neg hm]
    rw [hext]
    have HC := hide (fun w => moved_any a 0 a (-(roomI n)) w (ext0 ha) (by omega) (by omega))
    rw [hmf] at HM
    clear ha hm hmf hext
    go_enter Try.func22, Try.ntmps22
    go_wp2_with fail
    refine (HM.out _).mono ?_
    rintro e w1 ⟨rfl, hb1⟩
    have hA := (lies_alloc w a 24).alloc (by simp) (.cells #[.int .u64 0, .int .u64 0, .int .u64 0, .int .u64 0, .int .u64 0, .int .u64 0, .int .u64 0, .int .u64 0] 24)
    replace hA := hA.below hb1 (by simp only [World.size_alloc]; omega)
    unfold Lies at hA
    obtain ⟨hr, hrf, hl⟩ := res_box hb1
    simp only [World.size_alloc] at hr hrf hl
    have hBB := below_alloc_then (below_alloc_then hb1)
    clear hb1
    go_wp2
    refine wp_region_still_tail 5 mixedOk (by kernel_rfl) ?_
    simp only [List.take_succ_cons, List.take_zero, List.drop_succ_cons, List.drop_zero]
    change wpStill _ _ (World.drew _) _ _ _
    repeat still_step
    still_call (room_any n _)
    repeat still_step
    refine wpStill_nil ?_
    change wpList _ _ _ _ _ (World.drew _)
    go_wp2_with fail
    refine (HC.out _).mono ?_
    rintro e w2 ⟨rfl, hb2⟩
    replace hb2 := below_of_drew hb2
    have hr2 : ∀ i, i < 8 → w2.cell? ⟨w.heap.size + 1, i, none⟩ = some (.int .u64 (dgl 0 i : Nat)) := fun i hi => (hb2.cell (p := ⟨w.heap.size + 1, i, none⟩) hl).trans (hr i hi)
    have hrf2 : ∀ i, w2.frozen? ⟨w.heap.size + 1, i, none⟩ = false := fun i => (hb2.frozen (p := ⟨w.heap.size + 1, i, none⟩) hl).trans (hrf i)
    have HB := hide (below_trans hBB hb2)
    clear hr hrf hBB hA hb2
    go_wp2
    exact bodyPost_ret (v := .agg #[.int .u64 (dgl (sh (a) (-(roomI n))) 0 : Nat), .int .u64 (dgl (sh (a) (-(roomI n))) 1 : Nat), .int .u64 (dgl (sh (a) (-(roomI n))) 2 : Nat), .int .u64 (dgl (sh (a) (-(roomI n))) 3 : Nat), .int .u64 (dgl (sh (a) (-(roomI n))) 4 : Nat), .int .u64 (dgl (sh (a) (-(roomI n))) 5 : Nat), .int .u64 (dgl (sh (a) (-(roomI n))) 6 : Nat), .int .u64 (dgl (sh (a) (-(roomI n))) 7 : Nat)]) (by simp [results, Try.results22, go_sem, hr2]) rfl ⟨rfl, below_set8 HB.out _ (by omega) _ _ _ _ _ _ _ _⟩

/-- 2^512 - 1, as wide.Mask(512) has it. -/
theorem sh512 : sh 1 512 = QQ := by
  have h := sh_pos 1 8 0
  have e : (64 * ((8 : Nat) : Int) + ((0 : Nat) : Int)) = 512 := by decide
  rw [e, Nat.pow_zero, Nat.one_mul] at h
  exact h
theorem dglQQ (j : Nat) (hj : j < 8) : dgl QQ j = 0 := by
  have h := dgl_add_mul 0 1 j hj
  rw [Nat.zero_add, Nat.mul_one, dgl_zero] at h
  exact h

/-- The carrying off of wide.Sub's answer: what wide.Mask does of a power that may be beyond. -/
theorem wideSub_mod (a a' b : Nat) (ha : ∀ i, i < 8 → dgl a i = dgl a' i) (ha' : a' < QQ) (hb : b < QQ) (w : World) :
    Calls Try.prog 41 #[.agg #[.int .u64 (dgl (a) 0 : Nat), .int .u64 (dgl (a) 1 : Nat), .int .u64 (dgl (a) 2 : Nat), .int .u64 (dgl (a) 3 : Nat), .int .u64 (dgl (a) 4 : Nat), .int .u64 (dgl (a) 5 : Nat), .int .u64 (dgl (a) 6 : Nat), .int .u64 (dgl (a) 7 : Nat)], .agg #[.int .u64 (dgl (b) 0 : Nat), .int .u64 (dgl (b) 1 : Nat), .int .u64 (dgl (b) 2 : Nat), .int .u64 (dgl (b) 3 : Nat), .int .u64 (dgl (b) 4 : Nat), .int .u64 (dgl (b) 5 : Nat), .int .u64 (dgl (b) 6 : Nat), .int .u64 (dgl (b) 7 : Nat)]] w fun e w' => e = .returned (.tuple #[.agg #[.int .u64 (dgl (subQ a' b) 0 : Nat), .int .u64 (dgl (subQ a' b) 1 : Nat), .int .u64 (dgl (subQ a' b) 2 : Nat), .int .u64 (dgl (subQ a' b) 3 : Nat), .int .u64 (dgl (subQ a' b) 4 : Nat), .int .u64 (dgl (subQ a' b) 5 : Nat), .int .u64 (dgl (subQ a' b) 6 : Nat), .int .u64 (dgl (subQ a' b) 7 : Nat)], .bool (decide (a' < b))]) ∧ Below w.heap.size w w' := by
  have e : (#[.int .u64 (dgl (a) 0 : Nat), .int .u64 (dgl (a) 1 : Nat), .int .u64 (dgl (a) 2 : Nat), .int .u64 (dgl (a) 3 : Nat), .int .u64 (dgl (a) 4 : Nat), .int .u64 (dgl (a) 5 : Nat), .int .u64 (dgl (a) 6 : Nat), .int .u64 (dgl (a) 7 : Nat)] : Array Value) = #[.int .u64 (dgl (a') 0 : Nat), .int .u64 (dgl (a') 1 : Nat), .int .u64 (dgl (a') 2 : Nat), .int .u64 (dgl (a') 3 : Nat), .int .u64 (dgl (a') 4 : Nat), .int .u64 (dgl (a') 5 : Nat), .int .u64 (dgl (a') 6 : Nat), .int .u64 (dgl (a') 7 : Nat)] := w8_congr (x := dgl a) (y := dgl a') ha
  rw [e]
  exact wideSub_any a' b ha' hb w

set_option maxHeartbeats 1000000 in
theorem wideMask512 (w : World) :
    Calls Try.prog 37 #[.int .i64 512] w fun e w' => e = .returned (.agg #[.int .u64 (dgl (subQ 0 1) 0 : Nat), .int .u64 (dgl (subQ 0 1) 1 : Nat), .int .u64 (dgl (subQ 0 1) 2 : Nat), .int .u64 (dgl (subQ 0 1) 3 : Nat), .int .u64 (dgl (subQ 0 1) 4 : Nat), .int .u64 (dgl (subQ 0 1) 5 : Nat), .int .u64 (dgl (subQ 0 1) 6 : Nat), .int .u64 (dgl (subQ 0 1) 7 : Nat)]) ∧ Below w.heap.size w w' := by
  have HS := hide (fun w => wideSub_mod QQ 0 1 (fun i hi => by rw [dglQQ i hi, dgl_zero]) (by unfold QQ; exact Nat.pow_pos (by decide)) one_lt_qq w)
  have hp := fun w => widePower_any 512 (by decide) w
  have e512 : roomI 512 = 512 := by decide
  rw [e512, sh512] at hp
  have HP := hide hp
  clear hp e512
  go_enter Try.func37, Try.ntmps37
  go_wp2_with fail
  refine (HP.out _).mono ?_
  rintro e w1 ⟨rfl, hb1⟩
  go_wp2_with fail
  refine (wideOf_one _ _ rfl).mono ?_
  rintro e w2 ⟨rfl, hb2⟩
  go_wp2_with fail
  refine (HS.out _).mono ?_
  rintro e w3 ⟨rfl, hb3⟩
  replace hb1 := below_trans (below_trans hb1 hb2) hb3
  obtain ⟨hr, hrf, hl⟩ := res_box hb1
  have HB := hide (below_alloc_then hb1)
  clear hb1 hb2 hb3
  go_wp2
  exact bodyPost_ret (v := .agg #[.int .u64 (dgl (subQ 0 1) 0 : Nat), .int .u64 (dgl (subQ 0 1) 1 : Nat), .int .u64 (dgl (subQ 0 1) 2 : Nat), .int .u64 (dgl (subQ 0 1) 3 : Nat), .int .u64 (dgl (subQ 0 1) 4 : Nat), .int .u64 (dgl (subQ 0 1) 5 : Nat), .int .u64 (dgl (subQ 0 1) 6 : Nat), .int .u64 (dgl (subQ 0 1) 7 : Nat)]) (by simp [results, Try.results37, go_sem, hr, hl]) rfl ⟨rfl, (below_set8 HB.out _ (by omega) _ _ _ _ _ _ _ _).alloc (by simp; omega) _⟩

end Go.Proofs.Ytenbomfoihajhaa
