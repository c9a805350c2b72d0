/- Contracts and laws: ModA, ModB, ModC. -/
import Derived.Test.YtidfegilddlglabDoorBaseK
import Derived.Test.YtidfegilddlglabDoorBaseH
import Derived.Test.YtidfegilddlglabDoorBaseM
import Derived.Test.YtidfegilddlglabDoorBaseC
/- Contracts: mode.Is, Grows, Rest; the document's Is, Grows, Rest. -/
set_option linter.unusedVariables false
set_option linter.unusedSimpArgs false
set_option maxRecDepth 8000
namespace Go.Proofs.YtidfegilddlglabDoor
open Go.RowKit Plain

def isM (m : Int) : Bool := decide (1 ≤ m) && decide (m ≤ 5)
/-- Is a number rounded up? -/
def growN (m : Int) (neg odd : Bool) (r : Int) : Bool :=
  if r < 1 ∨ 3 < r then false else if m = 1 then (decide (r = 3) || (decide (r = 2) && odd)) else if m = 2 then decide (2 ≤ r) else if m = 4 then !neg else if m = 5 then neg else false

theorem modeIs_any (m : Int) (w : World) : Calls Tryd.prog 6 #[.int .i64 m] w fun e w' => e = .returned (.bool (isM m)) ∧ w' = w := by
  by_cases h1 : 1 ≤ m
  · by_cases h2 : m ≤ 5
    · rw [show isM m = true by unfold isM; rw [decide_eq_true h1, decide_eq_true h2]; rfl]
      go_enter Tryd.func6, Tryd.ntmps6
      go_wp2
      go_ret
      exact ⟨rfl, rfl⟩
    · rw [show isM m = false by unfold isM; rw [decide_eq_true h1, decide_eq_false h2]; rfl]
      go_enter Tryd.func6, Tryd.ntmps6
      go_wp2
      go_ret
      exact ⟨rfl, rfl⟩
  · rw [show isM m = false by unfold isM; rw [decide_eq_false h1]; rfl]
    go_enter Tryd.func6, Tryd.ntmps6
    go_wp2
    go_ret
    exact ⟨rfl, rfl⟩

theorem refIs8_any (m : Int) (w : World) : Calls Tryd.prog 4 #[.int .i64 m] w fun e w' => e = .returned (.bool (isM m)) ∧ w' = w := by
  by_cases h1 : 1 ≤ m
  · by_cases h2 : m ≤ 5
    · rw [show isM m = true by unfold isM; rw [decide_eq_true h1, decide_eq_true h2]; rfl]
      go_enter Tryd.func4, Tryd.ntmps4
      go_wp2
      go_ret
      exact ⟨rfl, rfl⟩
    · rw [show isM m = false by unfold isM; rw [decide_eq_true h1, decide_eq_false h2]; rfl]
      go_enter Tryd.func4, Tryd.ntmps4
      go_wp2
      go_ret
      exact ⟨rfl, rfl⟩
  · rw [show isM m = false by unfold isM; rw [decide_eq_false h1]; rfl]
    go_enter Tryd.func4, Tryd.ntmps4
    go_wp2
    go_ret
    exact ⟨rfl, rfl⟩

theorem bool_ret {a b : Bool} (h : a = b) : Ending.returned (.bool a) = Ending.returned (.bool b) := by rw [h]

set_option maxHeartbeats 1000000 in
theorem growth_any (w : World) : Calls Tryd.prog 20 #[] w fun e w' => e = .returned (.agg #[.func (.func 28) #[] #[], .func (.func 29) #[] #[], .func (.func 30) #[] #[], .func (.func 31) #[] #[], .func (.func 32) #[] #[]]) ∧ Below w.heap.size w w' := by
  go_enter Tryd.func20, Tryd.ntmps20
  go_wp2
  exact bodyPost_ret (v := .agg #[.func (.func 28) #[] #[], .func (.func 29) #[] #[], .func (.func 30) #[] #[], .func (.func 31) #[] #[], .func (.func 32) #[] #[]]) (by simp [results, Tryd.results20, go_sem]) rfl ⟨rfl, below_allocs _ _⟩

end Go.Proofs.YtidfegilddlglabDoor

/- Contracts: mode.Grows, Rest; the document's Rest. -/
set_option linter.unusedVariables false
set_option linter.unusedSimpArgs false
set_option maxRecDepth 8000
namespace Go.Proofs.YtidfegilddlglabDoor
open Go.RowKit Plain

/-- What is cut off: none, below a half, a half, above. -/
def restN (s n : Nat) (more : Bool) : Nat :=
  if s % 2 ^ n = 0 ∧ more = false then 0 else if 2 * (s % 2 ^ n) < 2 ^ n then 1 else if 2 * (s % 2 ^ n) = 2 ^ n ∧ more = false then 2 else 3
def restB (first others : Bool) : Nat := bif first then (bif others then 3 else 2) else (bif others then 1 else 0)
theorem restN_zero (s : Nat) (more : Bool) : restN s 0 more = restB false more := by
  unfold restN restB
  rw [Nat.pow_zero, Nat.mod_one]
  cases more <;> rfl
theorem restN_succ (s k : Nat) (more : Bool) : restN s (k + 1) more = restB (s / 2 ^ k % 2 == 1) (!decide (s % 2 ^ k = 0) || more) := by
  have h1 := Nat.mod_pow_succ (b := 2) (k := k) (x := s)
  have h2 : s % 2 ^ k < 2 ^ k := Nat.mod_lt _ (Nat.two_pow_pos k)
  have h3 : s / 2 ^ k % 2 < 2 := Nat.mod_lt _ (by decide)
  have h4 : 2 ^ (k + 1) = 2 * 2 ^ k := by rw [Nat.pow_succ, Nat.mul_comm]
  unfold restN
  rw [h1, h4]
  generalize s / 2 ^ k % 2 = b at *
  generalize s % 2 ^ k = r at *
  generalize 2 ^ k = q at *
  have hb : b = 0 ∨ b = 1 := by omega
  rcases hb with rfl | rfl
  · rw [Nat.mul_zero, Nat.add_zero]
    by_cases hr : r = 0
    · subst hr
      cases more
      · rfl
      · rw [if_neg (fun h => Bool.noConfusion h.2), if_pos (by omega)]; rfl
    · rw [if_neg (fun h => hr h.1), if_pos (by omega), decide_eq_false hr]; rfl
  · rw [Nat.mul_one]
    by_cases hr : r = 0
    · subst hr
      cases more
      · rw [if_neg (fun h => by omega), if_neg (by omega), if_pos ⟨by omega, rfl⟩]; rfl
      · rw [if_neg (fun h => Bool.noConfusion h.2), if_neg (by omega), if_neg (fun h => Bool.noConfusion h.2)]; rfl
    · rw [if_neg (fun h => by omega), if_neg (by omega), if_neg (fun h => by omega), decide_eq_false hr]
      cases more <;> rfl
theorem lost_eq (s k kk : Nat) (hs : s < QQ) (h : kk = min k 512) : decide (s / 2 ^ kk * 2 ^ kk = s) = decide (s % 2 ^ k = 0) := by
  rw [decide_eq_decide]
  by_cases hk : k ≤ 512
  · rw [h, Nat.min_eq_left hk]
    have := Nat.div_add_mod s (2 ^ k)
    rw [Nat.mul_comm] at this
    omega
  · have hq := qq_pow kk (by omega)
    have h1 : s < 2 ^ k := Nat.lt_of_lt_of_le hs (Nat.le_trans (Nat.le_of_eq hq.symm) (Nat.pow_le_pow_right (by decide) (by omega)))
    have h2 : s / 2 ^ kk = 0 := Nat.div_eq_of_lt (Nat.lt_of_lt_of_le hs (Nat.le_of_eq hq.symm))
    rw [h2, Nat.mod_eq_of_lt h1, Nat.zero_mul]
    exact ⟨fun h => h.symm, fun h => h.symm⟩

set_option maxHeartbeats 1000000 in
theorem modeRest_low (a : Nat) (n : Int) (hn : ¬ 0 < n) (more : Bool) (w : World) : Calls Tryd.prog 12 #[.agg #[.int .u64 (dgl (a) 0 : Nat), .int .u64 (dgl (a) 1 : Nat), .int .u64 (dgl (a) 2 : Nat), .int .u64 (dgl (a) 3 : Nat), .int .u64 (dgl (a) 4 : Nat), .int .u64 (dgl (a) 5 : Nat), .int .u64 (dgl (a) 6 : Nat), .int .u64 (dgl (a) 7 : Nat)], .int .i64 n, .bool more] w fun e w' => e = .returned (.int .i64 ((restB false more : Nat) : Int)) ∧ Below w.heap.size w w' := by
  cases more
  all_goals
    go_enter Tryd.func12, Tryd.ntmps12
    go_wp2
    go_ret
    exact ⟨rfl, below_allocs _ _⟩

set_option maxHeartbeats 1000000 in
theorem modeRest_walk (a q : Nat) (n : Int) (more b lost : Bool) (hn : 0 < n) (hn1 : n ≤ 9223372036854775807)
    (HS : Hid (∀ w, Calls Tryd.prog 11 #[.agg #[.int .u64 (dgl (a) 0 : Nat), .int .u64 (dgl (a) 1 : Nat), .int .u64 (dgl (a) 2 : Nat), .int .u64 (dgl (a) 3 : Nat), .int .u64 (dgl (a) 4 : Nat), .int .u64 (dgl (a) 5 : Nat), .int .u64 (dgl (a) 6 : Nat), .int .u64 (dgl (a) 7 : Nat)], .int .i64 (n - 1)] w fun e w' => e = .returned (.tuple #[.agg #[.int .u64 (dgl (q) 0 : Nat), .int .u64 (dgl (q) 1 : Nat), .int .u64 (dgl (q) 2 : Nat), .int .u64 (dgl (q) 3 : Nat), .int .u64 (dgl (q) 4 : Nat), .int .u64 (dgl (q) 5 : Nat), .int .u64 (dgl (q) 6 : Nat), .int .u64 (dgl (q) 7 : Nat)], .bool lost]) ∧ Below w.heap.size w w'))
    (HT : Hid (∀ w, Calls Tryd.prog 14 #[.agg #[.int .u64 (dgl (a) 0 : Nat), .int .u64 (dgl (a) 1 : Nat), .int .u64 (dgl (a) 2 : Nat), .int .u64 (dgl (a) 3 : Nat), .int .u64 (dgl (a) 4 : Nat), .int .u64 (dgl (a) 5 : Nat), .int .u64 (dgl (a) 6 : Nat), .int .u64 (dgl (a) 7 : Nat)], .int .i64 (n - 1)] w fun e w' => e = .returned (.bool b) ∧ Below w.heap.size w w')) (w : World) :
    Calls Tryd.prog 12 #[.agg #[.int .u64 (dgl (a) 0 : Nat), .int .u64 (dgl (a) 1 : Nat), .int .u64 (dgl (a) 2 : Nat), .int .u64 (dgl (a) 3 : Nat), .int .u64 (dgl (a) 4 : Nat), .int .u64 (dgl (a) 5 : Nat), .int .u64 (dgl (a) 6 : Nat), .int .u64 (dgl (a) 7 : Nat)], .int .i64 n, .bool more] w fun e w' => e = .returned (.int .i64 ((restB b (lost || more) : Nat) : Int)) ∧ Below w.heap.size w w' := by
  have HL := hide (liesF_new w (dgl a) 34)
  have HB := hide (below_allocs w (.cells #[.int .u64 (dgl (a) 0 : Nat), .int .u64 (dgl (a) 1 : Nat), .int .u64 (dgl (a) 2 : Nat), .int .u64 (dgl (a) 3 : Nat), .int .u64 (dgl (a) 4 : Nat), .int .u64 (dgl (a) 5 : Nat), .int .u64 (dgl (a) 6 : Nat), .int .u64 (dgl (a) 7 : Nat)] 34))
  go_enter Tryd.func12, Tryd.ntmps12
  have hl := HL.out.1
  go_wp2_with fail
  refine (HS.out _).mono ?_
  rintro e w1 ⟨rfl, hb1⟩
  replace HL := hide (HL.out.below hb1)
  replace HB := hide (below_trans HB.out hb1)
  clear hb1 hl
  go_upto_region 4 with fail
  refine wp_gen (fun W => LiesF W w.heap.size (dgl a) ∧ Below w.heap.size w W) ⟨HL.out.below (below_allocs _ _), below_trans HB.out (below_allocs _ _)⟩ ?_
  clear HL HB
  rintro W1 ⟨h1, h2⟩
  have HB := hide h2
  have hl := h1.1
  clear h1 h2
  go_wp2_with fail
  refine (HT.out _).mono ?_
  rintro e w2 ⟨rfl, hb2⟩
  replace HB := hide (below_trans HB.out hb2)
  clear hb2 hl
  cases b <;> cases lost <;> cases more
  all_goals
    go_wp2
    go_ret
    exact ⟨rfl, HB.out⟩

theorem modeRest_any (a : Nat) (ha : a < QQ) (n : Int) (hn1 : n ≤ 9223372036854775807) (more : Bool) (w : World) : Calls Tryd.prog 12 #[.agg #[.int .u64 (dgl (a) 0 : Nat), .int .u64 (dgl (a) 1 : Nat), .int .u64 (dgl (a) 2 : Nat), .int .u64 (dgl (a) 3 : Nat), .int .u64 (dgl (a) 4 : Nat), .int .u64 (dgl (a) 5 : Nat), .int .u64 (dgl (a) 6 : Nat), .int .u64 (dgl (a) 7 : Nat)], .int .i64 n, .bool more] w fun e w' => e = .returned (.int .i64 ((restN a n.toNat more : Nat) : Int)) ∧ Below w.heap.size w w' := by
  by_cases hn : 0 < n
  · obtain ⟨k, hk⟩ : ∃ k : Nat, n - 1 = (k : Int) := ⟨(n - 1).toNat, by omega⟩
    rw [show n.toNat = k + 1 by omega, restN_succ, ← lost_eq a k (min k 512) ha rfl]
    have h2 := fun w => wideBit_any a (n - 1) ha (by omega) (by omega) w
    rw [show (n - 1).toNat = k by omega] at h2
    exact modeRest_walk a _ n more _ _ hn hn1 (fun w => wideShr_any a (min k 512) (n - 1) (by unfold roomI; omega) ha w) h2 w
  · rw [show n.toNat = 0 by omega, restN_zero]
    exact modeRest_low a n hn more w

theorem growC1_any (neg odd : Bool) (r : Int) (hr : r = 1 ∨ r = 2 ∨ r = 3) (w : World) : Calls Tryd.prog 28 #[.bool neg, .bool odd, .int .i64 r] w fun e w' => e = .returned (.bool (growN 1 neg odd r)) ∧ w' = w := by
  rcases hr with rfl | rfl | rfl <;> cases neg <;> cases odd
  all_goals
    go_enter Tryd.func28, Tryd.ntmps28
    go_wp2
    go_ret
    exact ⟨rfl, rfl⟩

theorem growC2_any (neg odd : Bool) (r : Int) (hr : r = 1 ∨ r = 2 ∨ r = 3) (w : World) : Calls Tryd.prog 29 #[.bool neg, .bool odd, .int .i64 r] w fun e w' => e = .returned (.bool (growN 2 neg odd r)) ∧ w' = w := by
  rcases hr with rfl | rfl | rfl <;> cases neg <;> cases odd
  all_goals
    go_enter Tryd.func29, Tryd.ntmps29
    go_wp2
    go_ret
    exact ⟨rfl, rfl⟩

theorem growC3_any (neg odd : Bool) (r : Int) (hr : r = 1 ∨ r = 2 ∨ r = 3) (w : World) : Calls Tryd.prog 30 #[.bool neg, .bool odd, .int .i64 r] w fun e w' => e = .returned (.bool (growN 3 neg odd r)) ∧ w' = w := by
  rcases hr with rfl | rfl | rfl <;> cases neg <;> cases odd
  all_goals
    go_enter Tryd.func30, Tryd.ntmps30
    go_wp2
    go_ret
    exact ⟨rfl, rfl⟩

theorem growC4_any (neg odd : Bool) (r : Int) (hr : r = 1 ∨ r = 2 ∨ r = 3) (w : World) : Calls Tryd.prog 31 #[.bool neg, .bool odd, .int .i64 r] w fun e w' => e = .returned (.bool (growN 4 neg odd r)) ∧ w' = w := by
  rcases hr with rfl | rfl | rfl <;> cases neg <;> cases odd
  all_goals
    go_enter Tryd.func31, Tryd.ntmps31
    go_wp2
    go_ret
    exact ⟨rfl, rfl⟩

theorem growC5_any (neg odd : Bool) (r : Int) (hr : r = 1 ∨ r = 2 ∨ r = 3) (w : World) : Calls Tryd.prog 32 #[.bool neg, .bool odd, .int .i64 r] w fun e w' => e = .returned (.bool (growN 5 neg odd r)) ∧ w' = w := by
  rcases hr with rfl | rfl | rfl <;> cases neg <;> cases odd
  all_goals
    go_enter Tryd.func32, Tryd.ntmps32
    go_wp2
    go_ret
    exact ⟨rfl, rfl⟩

theorem growN_out (m : Int) (neg odd : Bool) (r : Int) (h : isM m = false) : growN m neg odd r = false := by
  unfold isM at h
  rw [Bool.and_eq_false_iff, decide_eq_false_iff_not, decide_eq_false_iff_not] at h
  unfold growN
  split
  · rfl
  · rw [if_neg (by omega), if_neg (by omega), if_neg (by omega), if_neg (by omega)]

set_option maxHeartbeats 1000000 in
theorem modeGrows_no (m : Int) (neg odd : Bool) (r : Int) (h : isM m = false ∨ r ≤ 0 ∨ 3 < r) (w : World) : Calls Tryd.prog 13 #[.int .i64 m, .bool neg, .bool odd, .int .i64 r] w fun e w' => e = .returned (.bool false) ∧ Below w.heap.size w w' := by
  have HM := hide (fun w => modeIs_any m w)
  by_cases hm : isM m = false
  · rw [hm] at HM
    go_enter Tryd.func13, Tryd.ntmps13
    go_wp2_with fail
    refine (HM.out _).mono ?_
    rintro e w1 ⟨rfl, hw⟩
    subst w1
    go_wp2
    go_ret
    exact ⟨rfl, Below.refl _ _⟩
  · rw [show isM m = true by simpa using hm] at HM
    by_cases hr : r ≤ 0
    · go_enter Tryd.func13, Tryd.ntmps13
      go_wp2_with fail
      refine (HM.out _).mono ?_
      rintro e w1 ⟨rfl, hw⟩
      subst w1
      go_wp2
      go_ret
      exact ⟨rfl, Below.refl _ _⟩
    · have hr2 : 3 < r := by
        rcases h with h | h | h
        · exact absurd h hm
        · exact absurd h hr
        · exact h
      clear h hm
      go_enter Tryd.func13, Tryd.ntmps13
      go_wp2_with fail
      refine (HM.out _).mono ?_
      rintro e w1 ⟨rfl, hw⟩
      subst w1
      go_wp2
      go_ret
      exact ⟨rfl, Below.refl _ _⟩

set_option maxHeartbeats 1000000 in
theorem modeGrows_1 (neg odd : Bool) (r : Int) (h1 : ¬ r ≤ 0) (h2 : ¬ 3 < r) (w : World) : Calls Tryd.prog 13 #[.int .i64 1, .bool neg, .bool odd, .int .i64 r] w fun e w' => e = .returned (.bool (growN 1 neg odd r)) ∧ Below w.heap.size w w' := by
  have HM := hide (fun w => modeIs_any 1 w)
  rw [show isM 1 = true by decide] at HM
  have HG := hide (fun w => growC1_any neg odd r (by omega) w)
  have ix : ∀ w : World, (Instr.index 46 (.agg #[.func (.func 28) #[] #[], .func (.func 29) #[] #[], .func (.func 30) #[] #[], .func (.func 31) #[] #[], .func (.func 32) #[] #[]]) (.int .i64 0)).run Tryd.prog w = .ok (.func (.func 28) #[] #[]) w := fun _ => by kernel_rfl
  go_enter Tryd.func13, Tryd.ntmps13
  go_wp2_with fail
  refine (HM.out _).mono ?_
  rintro e w1 ⟨rfl, hw⟩
  subst w1
  go_wp2_with fail
  refine (growth_any _).mono ?_
  rintro e w1 ⟨rfl, hb1⟩
  have HB := hide hb1
  clear hb1
  go_wp2_with fail
  refine (HG.out _).mono ?_
  rintro e w2 ⟨rfl, hw⟩
  subst w2
  go_wp2
  go_ret
  exact ⟨rfl, HB.out⟩

set_option maxHeartbeats 1000000 in
theorem modeGrows_2 (neg odd : Bool) (r : Int) (h1 : ¬ r ≤ 0) (h2 : ¬ 3 < r) (w : World) : Calls Tryd.prog 13 #[.int .i64 2, .bool neg, .bool odd, .int .i64 r] w fun e w' => e = .returned (.bool (growN 2 neg odd r)) ∧ Below w.heap.size w w' := by
  have HM := hide (fun w => modeIs_any 2 w)
  rw [show isM 2 = true by decide] at HM
  have HG := hide (fun w => growC2_any neg odd r (by omega) w)
  have ix : ∀ w : World, (Instr.index 46 (.agg #[.func (.func 28) #[] #[], .func (.func 29) #[] #[], .func (.func 30) #[] #[], .func (.func 31) #[] #[], .func (.func 32) #[] #[]]) (.int .i64 1)).run Tryd.prog w = .ok (.func (.func 29) #[] #[]) w := fun _ => by kernel_rfl
  go_enter Tryd.func13, Tryd.ntmps13
  go_wp2_with fail
  refine (HM.out _).mono ?_
  rintro e w1 ⟨rfl, hw⟩
  subst w1
  go_wp2_with fail
  refine (growth_any _).mono ?_
  rintro e w1 ⟨rfl, hb1⟩
  have HB := hide hb1
  clear hb1
  go_wp2_with fail
  refine (HG.out _).mono ?_
  rintro e w2 ⟨rfl, hw⟩
  subst w2
  go_wp2
  go_ret
  exact ⟨rfl, HB.out⟩

set_option maxHeartbeats 1000000 in
theorem modeGrows_3 (neg odd : Bool) (r : Int) (h1 : ¬ r ≤ 0) (h2 : ¬ 3 < r) (w : World) : Calls Tryd.prog 13 #[.int .i64 3, .bool neg, .bool odd, .int .i64 r] w fun e w' => e = .returned (.bool (growN 3 neg odd r)) ∧ Below w.heap.size w w' := by
  have HM := hide (fun w => modeIs_any 3 w)
  rw [show isM 3 = true by decide] at HM
  have HG := hide (fun w => growC3_any neg odd r (by omega) w)
  have ix : ∀ w : World, (Instr.index 46 (.agg #[.func (.func 28) #[] #[], .func (.func 29) #[] #[], .func (.func 30) #[] #[], .func (.func 31) #[] #[], .func (.func 32) #[] #[]]) (.int .i64 2)).run Tryd.prog w = .ok (.func (.func 30) #[] #[]) w := fun _ => by kernel_rfl
  go_enter Tryd.func13, Tryd.ntmps13
  go_wp2_with fail
  refine (HM.out _).mono ?_
  rintro e w1 ⟨rfl, hw⟩
  subst w1
  go_wp2_with fail
  refine (growth_any _).mono ?_
  rintro e w1 ⟨rfl, hb1⟩
  have HB := hide hb1
  clear hb1
  go_wp2_with fail
  refine (HG.out _).mono ?_
  rintro e w2 ⟨rfl, hw⟩
  subst w2
  go_wp2
  go_ret
  exact ⟨rfl, HB.out⟩

set_option maxHeartbeats 1000000 in
theorem modeGrows_4 (neg odd : Bool) (r : Int) (h1 : ¬ r ≤ 0) (h2 : ¬ 3 < r) (w : World) : Calls Tryd.prog 13 #[.int .i64 4, .bool neg, .bool odd, .int .i64 r] w fun e w' => e = .returned (.bool (growN 4 neg odd r)) ∧ Below w.heap.size w w' := by
  have HM := hide (fun w => modeIs_any 4 w)
  rw [show isM 4 = true by decide] at HM
  have HG := hide (fun w => growC4_any neg odd r (by omega) w)
  have ix : ∀ w : World, (Instr.index 46 (.agg #[.func (.func 28) #[] #[], .func (.func 29) #[] #[], .func (.func 30) #[] #[], .func (.func 31) #[] #[], .func (.func 32) #[] #[]]) (.int .i64 3)).run Tryd.prog w = .ok (.func (.func 31) #[] #[]) w := fun _ => by kernel_rfl
  go_enter Tryd.func13, Tryd.ntmps13
  go_wp2_with fail
  refine (HM.out _).mono ?_
  rintro e w1 ⟨rfl, hw⟩
  subst w1
  go_wp2_with fail
  refine (growth_any _).mono ?_
  rintro e w1 ⟨rfl, hb1⟩
  have HB := hide hb1
  clear hb1
  go_wp2_with fail
  refine (HG.out _).mono ?_
  rintro e w2 ⟨rfl, hw⟩
  subst w2
  go_wp2
  go_ret
  exact ⟨rfl, HB.out⟩

set_option maxHeartbeats 1000000 in
theorem modeGrows_5 (neg odd : Bool) (r : Int) (h1 : ¬ r ≤ 0) (h2 : ¬ 3 < r) (w : World) : Calls Tryd.prog 13 #[.int .i64 5, .bool neg, .bool odd, .int .i64 r] w fun e w' => e = .returned (.bool (growN 5 neg odd r)) ∧ Below w.heap.size w w' := by
  have HM := hide (fun w => modeIs_any 5 w)
  rw [show isM 5 = true by decide] at HM
  have HG := hide (fun w => growC5_any neg odd r (by omega) w)
  have ix : ∀ w : World, (Instr.index 46 (.agg #[.func (.func 28) #[] #[], .func (.func 29) #[] #[], .func (.func 30) #[] #[], .func (.func 31) #[] #[], .func (.func 32) #[] #[]]) (.int .i64 4)).run Tryd.prog w = .ok (.func (.func 32) #[] #[]) w := fun _ => by kernel_rfl
  go_enter Tryd.func13, Tryd.ntmps13
  go_wp2_with fail
  refine (HM.out _).mono ?_
  rintro e w1 ⟨rfl, hw⟩
  subst w1
  go_wp2_with fail
  refine (growth_any _).mono ?_
  rintro e w1 ⟨rfl, hb1⟩
  have HB := hide hb1
  clear hb1
  go_wp2_with fail
  refine (HG.out _).mono ?_
  rintro e w2 ⟨rfl, hw⟩
  subst w2
  go_wp2
  go_ret
  exact ⟨rfl, HB.out⟩

theorem modeGrows_any (m : Int) (neg odd : Bool) (r : Int) (w : World) : Calls Tryd.prog 13 #[.int .i64 m, .bool neg, .bool odd, .int .i64 r] w fun e w' => e = .returned (.bool (growN m neg odd r)) ∧ Below w.heap.size w w' := by
  by_cases hm : isM m = false
  · rw [growN_out m neg odd r hm]
    exact modeGrows_no m neg odd r (.inl hm) w
  by_cases h1 : r ≤ 0
  · rw [show growN m neg odd r = false from if_pos (.inl (by omega))]
    exact modeGrows_no m neg odd r (.inr (.inl h1)) w
  by_cases h2 : 3 < r
  · rw [show growN m neg odd r = false from if_pos (.inr h2)]
    exact modeGrows_no m neg odd r (.inr (.inr h2)) w
  have h5 : m = 1 ∨ m = 2 ∨ m = 3 ∨ m = 4 ∨ m = 5 := by
    unfold isM at hm
    rw [Bool.and_eq_false_iff, decide_eq_false_iff_not, decide_eq_false_iff_not] at hm
    omega
  rcases h5 with rfl | rfl | rfl | rfl | rfl
  · exact modeGrows_1 neg odd r h1 h2 w
  · exact modeGrows_2 neg odd r h1 h2 w
  · exact modeGrows_3 neg odd r h1 h2 w
  · exact modeGrows_4 neg odd r h1 h2 w
  · exact modeGrows_5 neg odd r h1 h2 w

end Go.Proofs.YtidfegilddlglabDoor

/- Contracts: the document's Rest. -/
set_option linter.unusedVariables false
set_option linter.unusedSimpArgs false
set_option maxRecDepth 8000
namespace Go.Proofs.YtidfegilddlglabDoor
open Go.RowKit Plain

theorem restN_cmp (a k : Nat) (more : Bool) (h : ¬ ((a - a / 2 ^ k * 2 ^ k) * 2 ^ 2 + more.toNat = 0)) : (2 : Int) + cmpN (((a - a / 2 ^ k * 2 ^ k) * 2 ^ 2 + more.toNat) * 2 ^ 1) (2 ^ (k + 2)) = ((restN a k more : Nat) : Int) := by
  have h1 : a - a / 2 ^ k * 2 ^ k = a % 2 ^ k := by
    have := Nat.div_add_mod a (2 ^ k)
    rw [Nat.mul_comm] at this
    omega
  have h2 : a % 2 ^ k < 2 ^ k := Nat.mod_lt _ (Nat.two_pow_pos k)
  have h4 : 2 ^ (k + 2) = 4 * 2 ^ k := by rw [Nat.pow_add]; omega
  rw [h1] at h ⊢
  rw [h4]
  unfold restN
  have hq : 2 ^ k = 1 ∨ ∃ q, 2 ^ k = 2 * q := by
    rcases k with _ | k
    · exact .inl rfl
    · exact .inr ⟨2 ^ k, by rw [Nat.pow_succ, Nat.mul_comm]⟩
  generalize a % 2 ^ k = r at h h2 ⊢
  generalize 2 ^ k = Q at h2 hq ⊢
  clear h1 h4
  cases more
  · have hr : ¬ r = 0 := fun hr => h (by rw [hr]; rfl)
    show (2 : Int) + cmpN ((r * 2 ^ 2 + 0) * 2 ^ 1) (4 * Q) = _
    rw [if_neg (fun hh => hr hh.1)]
    by_cases c1 : 2 * r < Q
    · rw [if_pos c1, show cmpN ((r * 2 ^ 2 + 0) * 2 ^ 1) (4 * Q) = -1 from if_pos (by omega)]; rfl
    · by_cases c2 : 2 * r = Q
      · rw [if_neg c1, if_pos ⟨c2, rfl⟩, show cmpN ((r * 2 ^ 2 + 0) * 2 ^ 1) (4 * Q) = 0 from (if_neg (by omega)).trans (if_neg (by omega))]; rfl
      · rw [if_neg c1, if_neg (fun hh => c2 hh.1), show cmpN ((r * 2 ^ 2 + 0) * 2 ^ 1) (4 * Q) = 1 from (if_neg (by omega)).trans (if_pos (by omega))]; rfl
  · show (2 : Int) + cmpN ((r * 2 ^ 2 + 1) * 2 ^ 1) (4 * Q) = _
    rw [if_neg (fun hh => Bool.noConfusion hh.2)]
    by_cases c1 : 2 * r < Q
    · have c3 : (r * 2 ^ 2 + 1) * 2 ^ 1 < 4 * Q := by
        rcases hq with hq | ⟨q, hq⟩
        · omega
        · omega
      rw [if_pos c1, show cmpN ((r * 2 ^ 2 + 1) * 2 ^ 1) (4 * Q) = -1 from if_pos c3]; rfl
    · rw [if_neg c1, if_neg (fun hh => Bool.noConfusion hh.2), show cmpN ((r * 2 ^ 2 + 1) * 2 ^ 1) (4 * Q) = 1 from (if_neg (by omega)).trans (if_pos (by omega))]; rfl
theorem bitLen_nil (x : Nat) (h : Go.bitLen x = 0) : x = 0 := by
  refine Classical.byContradiction fun h1 => ?_
  have := bitLen_half x h1
  omega
theorem cmpN_bd (x y : Nat) : -1 ≤ cmpN x y ∧ cmpN x y ≤ 1 := by
  unfold cmpN
  split
  · omega
  · split <;> omega
theorem restN_nil (a k : Nat) (more : Bool) (h : (a - a / 2 ^ k * 2 ^ k) * 2 ^ 2 + more.toNat = 0) : restN a k more = 0 := by
  have h1 : a - a / 2 ^ k * 2 ^ k = a % 2 ^ k := by
    have := Nat.div_add_mod a (2 ^ k)
    rw [Nat.mul_comm] at this
    omega
  rw [h1] at h
  have hm : more = false := by cases more; rfl; exact absurd h (by show ¬ _ + 1 = 0; omega)
  exact if_pos ⟨by omega, hm⟩
theorem restN_big (a n m : Nat) (more : Bool) (h1 : a < 2 ^ n) (h2 : 2 * a < 2 ^ n) (h : n ≤ m) : restN a n more = restN a m more := by
  have h3 : 2 ^ n ≤ 2 ^ m := Nat.pow_le_pow_right (by decide) h
  unfold restN
  rw [Nat.mod_eq_of_lt h1, Nat.mod_eq_of_lt (by omega), if_pos h2, if_pos (show 2 * a < 2 ^ m by omega)]

end Go.Proofs.YtidfegilddlglabDoor

