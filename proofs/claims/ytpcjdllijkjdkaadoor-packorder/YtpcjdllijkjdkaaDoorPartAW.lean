/- Contracts and laws: UnpE, UnpF, UnpG, NanA, NanB. -/
import Derived.Test.YtpcjdllijkjdkaaDoorPartAV
import Derived.Test.YtpcjdllijkjdkaaDoorPartAT
import Derived.Test.YtpcjdllijkjdkaaDoorPartAO
import Derived.Test.YtpcjdllijkjdkaaDoorPartAK
/- Contracts: the document's Size. -/
set_option linter.unusedVariables false
set_option linter.unusedSimpArgs false
set_option maxRecDepth 8000
namespace Go.Proofs.YtpcjdllijkjdkaaDoor
open Go.RowKit Plain

end Go.Proofs.YtpcjdllijkjdkaaDoor

/- Contracts: the document's Size, with its numbers; unpack.Top. -/
set_option linter.unusedVariables false
set_option linter.unusedSimpArgs false
set_option maxRecDepth 8000
namespace Go.Proofs.YtpcjdllijkjdkaaDoor
open Go.RowKit Plain

theorem len_qq {a : Nat} (h : a < QQ) : Go.bitLen a ≤ 512 := by
  obtain ⟨q, hq⟩ : ∃ q, q = 512 := ⟨_, rfl⟩
  have e := qq_pow q hq
  have := (len_le a q).2 (by rw [e]; exact h)
  omega
theorem len_pos {a : Nat} (h : a ≠ 0) : 1 ≤ Go.bitLen a := by
  rcases Nat.eq_zero_or_pos (Go.bitLen a) with h0 | h0
  · exact absurd (by have := (len_le a 0).1 (by omega); simpa using this) h
  · exact h0
theorem len_ge {a : Nat} (h : a ≠ 0) : 2 ^ (Go.bitLen a - 1) ≤ a := by
  have h1 := len_pos h
  rcases Nat.lt_or_ge a (2 ^ (Go.bitLen a - 1)) with h2 | h2
  · have := (len_le a (Go.bitLen a - 1)).2 h2
    omega
  · exact h2
theorem len_lt (a : Nat) : a < 2 ^ Go.bitLen a := (len_le a _).1 (Nat.le_refl _)
/-- A number, held against another one: the document's Size. -/
def sizeZ (a : Nat) (ea : Int) (b : Nat) (eb : Int) : Int :=
  if a = 0 then (if b = 0 then 0 else -1) else if b = 0 then 1 else if ea + (Go.bitLen a : Int) ≠ eb + (Go.bitLen b : Int) then ea + (Go.bitLen a : Int) - eb - (Go.bitLen b : Int) else cmpN (a * 2 ^ (ea - min ea eb).toNat) (b * 2 ^ (eb - min ea eb).toNat)
/-- A number, brought to an exponent. -/
def vl (a : Nat) (e m : Int) : Nat := a * 2 ^ (e - m).toNat
theorem vl_lt {a : Nat} {e m : Int} (hm : m ≤ e) : vl a e m < 2 ^ (e + (Go.bitLen a : Int) - m).toNat := by
  have h := len_lt a
  rw [show (e + (Go.bitLen a : Int) - m).toNat = Go.bitLen a + (e - m).toNat by omega, Nat.pow_add]
  exact Nat.mul_lt_mul_of_pos_right h (Nat.two_pow_pos _)
theorem vl_ge {a : Nat} {e m : Int} (hm : m ≤ e) (h0 : a ≠ 0) : 2 ^ (e + (Go.bitLen a : Int) - 1 - m).toNat ≤ vl a e m := by
  have h := len_ge h0
  have h1 := len_pos h0
  rw [show (e + (Go.bitLen a : Int) - 1 - m).toNat = (Go.bitLen a - 1) + (e - m).toNat by omega, Nat.pow_add]
  exact Nat.mul_le_mul_right _ h
theorem vl_up {a : Nat} {e m k : Int} (hk : k ≤ m) (hm : m ≤ e) : vl a e k = vl a e m * 2 ^ (m - k).toNat := by
  unfold vl
  rw [Nat.mul_assoc, ← Nat.pow_add]
  congr 2
  omega
theorem vl_zero (e m : Int) : vl 0 e m = 0 := Nat.zero_mul _
theorem vl_pos {a : Nat} (e m : Int) (h : a ≠ 0) : 0 < vl a e m := Nat.mul_pos (Nat.pos_of_ne_zero h) (Nat.two_pow_pos _)
theorem cmpN_neg (x y : Nat) : cmpN x y < 0 ↔ x < y := by
  unfold cmpN
  repeat' split
  all_goals (constructor <;> intro h <;> omega)
theorem cmpN_zero (x y : Nat) : cmpN x y = 0 ↔ x = y := by
  unfold cmpN
  repeat' split
  all_goals (constructor <;> intro h <;> omega)
/-- What Size says: by the numbers brought to one exponent. -/
theorem sizeZ_spec (a b : Nat) (ea eb m : Int) (h1 : m ≤ ea) (h2 : m ≤ eb) : (sizeZ a ea b eb < 0 ↔ vl a ea m < vl b eb m) ∧ (sizeZ a ea b eb = 0 ↔ vl a ea m = vl b eb m) := by
  unfold sizeZ
  by_cases ha : a = 0
  · rw [if_pos ha]
    subst ha
    by_cases hb : b = 0
    · rw [if_pos hb]; subst hb; rw [vl_zero, vl_zero]; exact ⟨by omega, by omega⟩
    · rw [if_neg hb, vl_zero]
      have := vl_pos eb m hb
      exact ⟨by omega, by omega⟩
  rw [if_neg ha]
  by_cases hb : b = 0
  · rw [if_pos hb]
    subst hb
    rw [vl_zero]
    have := vl_pos ea m ha
    exact ⟨by omega, by omega⟩
  rw [if_neg hb]
  by_cases ht : ea + (Go.bitLen a : Int) ≠ eb + (Go.bitLen b : Int)
  · rw [if_pos ht]
    have la := vl_lt (a := a) h1
    have ga := vl_ge h1 ha
    have lb := vl_lt (a := b) h2
    have gb := vl_ge h2 hb
    rcases Int.lt_or_gt_of_ne ht with hl | hl
    · have : 2 ^ (ea + (Go.bitLen a : Int) - m).toNat ≤ 2 ^ (eb + (Go.bitLen b : Int) - 1 - m).toNat := Nat.pow_le_pow_right (by decide) (by omega)
      exact ⟨by omega, by omega⟩
    · have : 2 ^ (eb + (Go.bitLen b : Int) - m).toNat ≤ 2 ^ (ea + (Go.bitLen a : Int) - 1 - m).toNat := Nat.pow_le_pow_right (by decide) (by omega)
      exact ⟨by omega, by omega⟩
  · rw [if_neg ht, cmpN_neg, cmpN_zero, vl_up (a := a) (m := min ea eb) (k := m) (by omega) (by omega), vl_up (a := b) (m := min ea eb) (k := m) (by omega) (by omega)]
    have hp := Nat.two_pow_pos (min ea eb - m).toNat
    exact ⟨⟨fun h => Nat.mul_lt_mul_of_pos_right h hp, fun h => Nat.lt_of_mul_lt_mul_right h⟩, ⟨fun h => by unfold vl; rw [h], fun h => Nat.eq_of_mul_eq_mul_right hp h⟩⟩

theorem BigV.slice {W : World} {v : Value} {s K : Nat} (h : BigV W v s K) : ∃ ao l ca, v = .slice ao l ca := by
  obtain ⟨l, ⟨ao, ca, rfl, -⟩, -⟩ := h
  exact ⟨_, _, _, rfl⟩
set_option maxHeartbeats 1000000 in
theorem top_Z (neg : Bool) (z : Int) (s : Nat) (hr : rgt z = true) (hz : -1048576 ≤ z ∧ z ≤ 1048576) (w : World) : Calls Tryd.prog 48 #[.agg #[.bool (neg), .int .i64 (z), .int .u64 (dgl (0) 0 : Nat), .int .u64 (dgl (0) 1 : Nat), .int .u64 (dgl (0) 2 : Nat), .int .u64 (dgl (0) 3 : Nat), .int .u64 (dgl (0) 4 : Nat), .int .u64 (dgl (0) 5 : Nat), .int .u64 (dgl (0) 6 : Nat), .int .u64 (dgl (0) 7 : Nat)]] w fun e w' => e = .returned (.tuple #[.int .i64 0, .bool false]) ∧ Below w.heap.size w w' := by
  have HR := hide (fun w => uRight_any neg z 0 w)
  rw [hr] at HR
  have HS := hide (show NB (w.alloc (.cells #[.bool (neg), .int .i64 (z), .int .u64 (dgl (0) 0 : Nat), .int .u64 (dgl (0) 1 : Nat), .int .u64 (dgl (0) 2 : Nat), .int .u64 (dgl (0) 3 : Nat), .int .u64 (dgl (0) 4 : Nat), .int .u64 (dgl (0) 5 : Nat), .int .u64 (dgl (0) 6 : Nat), .int .u64 (dgl (0) 7 : Nat)] 26)) w.heap.size neg z 0 ∧ Below w.heap.size w (w.alloc (.cells #[.bool (neg), .int .i64 (z), .int .u64 (dgl (0) 0 : Nat), .int .u64 (dgl (0) 1 : Nat), .int .u64 (dgl (0) 2 : Nat), .int .u64 (dgl (0) 3 : Nat), .int .u64 (dgl (0) 4 : Nat), .int .u64 (dgl (0) 5 : Nat), .int .u64 (dgl (0) 6 : Nat), .int .u64 (dgl (0) 7 : Nat)] 26)) from ⟨nb_new _ _ _ _ _, below_allocs _ _⟩)
  have hq : ∀ w, (Op.equalIn 10000 24 (.agg #[.int .u64 (dgl (0) 0 : Nat), .int .u64 (dgl (0) 1 : Nat), .int .u64 (dgl (0) 2 : Nat), .int .u64 (dgl (0) 3 : Nat), .int .u64 (dgl (0) 4 : Nat), .int .u64 (dgl (0) 5 : Nat), .int .u64 (dgl (0) 6 : Nat), .int .u64 (dgl (0) 7 : Nat)]) (.agg #[.int .u64 0, .int .u64 0, .int .u64 0, .int .u64 0, .int .u64 0, .int .u64 0, .int .u64 0, .int .u64 0])).run Tryd.prog w = .ok true w := fun w => by have := wide_eqz (a := 0) (Nat.lt_trans (by decide) one_lt_qq) w; simpa using this
  clear hr
  go_enter Tryd.func48, Tryd.ntmps48
  have ln := HS.out.1.n
  have le := HS.out.1.e
  have l0 := HS.out.1.x0
  have l1 := HS.out.1.x1
  have l2 := HS.out.1.x2
  have l3 := HS.out.1.x3
  have l4 := HS.out.1.x4
  have l5 := HS.out.1.x5
  have l6 := HS.out.1.x6
  have l7 := HS.out.1.x7
  go_wp2_with fail
  refine (HR.out _).mono ?_
  rintro e w1 ⟨rfl, hb1⟩
  replace HS := hide (show NB w1 w.heap.size neg z 0 ∧ Below w.heap.size w w1 from ⟨HS.out.1.below hb1, below_trans HS.out.2 hb1⟩)
  clear hb1 ln le l0 l1 l2 l3 l4 l5 l6 l7
  have ln := HS.out.1.n
  have le := HS.out.1.e
  have l0 := HS.out.1.x0
  have l1 := HS.out.1.x1
  have l2 := HS.out.1.x2
  have l3 := HS.out.1.x3
  have l4 := HS.out.1.x4
  have l5 := HS.out.1.x5
  have l6 := HS.out.1.x6
  have l7 := HS.out.1.x7
  have HB := hide HS.out.2
  clear HS
  go_wp2
  exact bodyPost_ret (v := .tuple #[.int .i64 0, .bool false]) (by simp [results, Tryd.results48, go_sem]) rfl ⟨rfl, HB.out⟩

set_option maxHeartbeats 1000000 in
theorem top_Y (neg : Bool) (z : Int) (s : Nat) (hr : rgt z = true) (hz : -1048576 ≤ z ∧ z ≤ 1048576) (hs : s < QQ) (h0 : s ≠ 0) (w : World) : Calls Tryd.prog 48 #[.agg #[.bool (neg), .int .i64 (z), .int .u64 (dgl (s) 0 : Nat), .int .u64 (dgl (s) 1 : Nat), .int .u64 (dgl (s) 2 : Nat), .int .u64 (dgl (s) 3 : Nat), .int .u64 (dgl (s) 4 : Nat), .int .u64 (dgl (s) 5 : Nat), .int .u64 (dgl (s) 6 : Nat), .int .u64 (dgl (s) 7 : Nat)]] w fun e w' => e = .returned (.tuple #[.int .i64 (z + (Go.bitLen s : Int) - 1), .bool true]) ∧ Below w.heap.size w w' := by
  have HR := hide (fun w => uRight_any neg z s w)
  rw [hr] at HR
  have HS := hide (show NB (w.alloc (.cells #[.bool (neg), .int .i64 (z), .int .u64 (dgl (s) 0 : Nat), .int .u64 (dgl (s) 1 : Nat), .int .u64 (dgl (s) 2 : Nat), .int .u64 (dgl (s) 3 : Nat), .int .u64 (dgl (s) 4 : Nat), .int .u64 (dgl (s) 5 : Nat), .int .u64 (dgl (s) 6 : Nat), .int .u64 (dgl (s) 7 : Nat)] 26)) w.heap.size neg z s ∧ Below w.heap.size w (w.alloc (.cells #[.bool (neg), .int .i64 (z), .int .u64 (dgl (s) 0 : Nat), .int .u64 (dgl (s) 1 : Nat), .int .u64 (dgl (s) 2 : Nat), .int .u64 (dgl (s) 3 : Nat), .int .u64 (dgl (s) 4 : Nat), .int .u64 (dgl (s) 5 : Nat), .int .u64 (dgl (s) 6 : Nat), .int .u64 (dgl (s) 7 : Nat)] 26)) from ⟨nb_new _ _ _ _ _, below_allocs _ _⟩)
  have hq : ∀ w, (Op.equalIn 10000 24 (.agg #[.int .u64 (dgl (s) 0 : Nat), .int .u64 (dgl (s) 1 : Nat), .int .u64 (dgl (s) 2 : Nat), .int .u64 (dgl (s) 3 : Nat), .int .u64 (dgl (s) 4 : Nat), .int .u64 (dgl (s) 5 : Nat), .int .u64 (dgl (s) 6 : Nat), .int .u64 (dgl (s) 7 : Nat)]) (.agg #[.int .u64 0, .int .u64 0, .int .u64 0, .int .u64 0, .int .u64 0, .int .u64 0, .int .u64 0, .int .u64 0])).run Tryd.prog w = .ok false w := fun w => by have := wide_eqz hs w; rw [decide_eq_false h0] at this; exact this
  have HLN := hide (fun w => wideLen_any s hs w)
  have hln := len_qq hs
  have HQ := hide hq
  clear hs h0
  generalize Go.bitLen s = l at *
  clear hr
  go_enter Tryd.func48, Tryd.ntmps48
  have ln := HS.out.1.n
  have le := HS.out.1.e
  have l0 := HS.out.1.x0
  have l1 := HS.out.1.x1
  have l2 := HS.out.1.x2
  have l3 := HS.out.1.x3
  have l4 := HS.out.1.x4
  have l5 := HS.out.1.x5
  have l6 := HS.out.1.x6
  have l7 := HS.out.1.x7
  go_wp2_with fail
  refine (HR.out _).mono ?_
  rintro e w1 ⟨rfl, hb1⟩
  replace HS := hide (show NB w1 w.heap.size neg z s ∧ Below w.heap.size w w1 from ⟨HS.out.1.below hb1, below_trans HS.out.2 hb1⟩)
  clear hb1 ln le l0 l1 l2 l3 l4 l5 l6 l7
  have ln := HS.out.1.n
  have le := HS.out.1.e
  have l0 := HS.out.1.x0
  have l1 := HS.out.1.x1
  have l2 := HS.out.1.x2
  have l3 := HS.out.1.x3
  have l4 := HS.out.1.x4
  have l5 := HS.out.1.x5
  have l6 := HS.out.1.x6
  have l7 := HS.out.1.x7
  go_upto_region 3 with fail
  refine wp_gen (fun W => NB W w.heap.size neg z s ∧ Below w.heap.size w W) HS.out ?_
  clear HS hq ln le l0 l1 l2 l3 l4 l5 l6 l7
  rintro W1 h1
  refine wp_region_grow 9 [(13, .val (.pointer (some ⟨w.heap.size, 1, none⟩))), (14, .val (.int .i64 z)), (15, .val (.pointer (some ⟨w.heap.size, 2, none⟩))), (16, .val (.agg #[.int .u64 (dgl (s) 0 : Nat), .int .u64 (dgl (s) 1 : Nat), .int .u64 (dgl (s) 2 : Nat), .int .u64 (dgl (s) 3 : Nat), .int .u64 (dgl (s) 4 : Nat), .int .u64 (dgl (s) 5 : Nat), .int .u64 (dgl (s) 6 : Nat), .int .u64 (dgl (s) 7 : Nat)])), (17, .val (.int .i64 (l : Nat))), (18, .val (.int .i64 (z + (l : Int)))), (19, .val (.int .i64 (z + (l : Int) - 1))), (2, .val (.int .i64 (z + (l : Int) - 1))), (3, .val (.bool true))]
    (fun W => NB W w.heap.size neg z s ∧ Below w.heap.size w W) mixedOk (by kernel_rfl) (by kernel_rfl) (⟨h1.1.below (Below.refl _ _).drew, below_trans h1.2 (Below.refl _ _).drew⟩) (fun W W' h hb => ⟨h.1.below hb, below_trans h.2 hb⟩) ?_ ?_
  · refine gSt (gStep_run rfl ?_) ?_
    · intro ρ W hC hc hf hL
      have e1 : ρ (.tmp 1) = .pointer (some ⟨w.heap.size, 0, none⟩) := hL 1 (by decide +kernel)
      simp [go_sem, hc, hf, e1]
      exact ⟨Below.refl _ _, rfl⟩
    refine gSt (gStep_run rfl ?_) ?_
    · intro ρ W hC hc hf hL
      have e13 : ρ (.tmp 13) = .pointer (some ⟨w.heap.size, 1, none⟩) := hL 13 (by decide +kernel)
      have l0 := hC.1.e
      simp [go_sem, hc, hf, e13, l0]
      exact ⟨Below.refl _ _, rfl⟩
    refine gSt (gStep_run rfl ?_) ?_
    · intro ρ W hC hc hf hL
      have e1 : ρ (.tmp 1) = .pointer (some ⟨w.heap.size, 0, none⟩) := hL 1 (by decide +kernel)
      simp [go_sem, hc, hf, e1]
      exact ⟨Below.refl _ _, rfl⟩
    refine gSt (gStep_run rfl ?_) ?_
    · intro ρ W hC hc hf hL
      have e15 : ρ (.tmp 15) = .pointer (some ⟨w.heap.size, 2, none⟩) := hL 15 (by decide +kernel)
      have l0 := hC.1.x0
      have l1 := hC.1.x1
      have l2 := hC.1.x2
      have l3 := hC.1.x3
      have l4 := hC.1.x4
      have l5 := hC.1.x5
      have l6 := hC.1.x6
      have l7 := hC.1.x7
      simp [go_sem, hc, hf, e15, l0, l1, l2, l3, l4, l5, l6, l7]
      exact ⟨Below.refl _ _, rfl⟩
    refine gSt (gStep_run rfl ?_) ?_
    · intro ρ W hC hc hf hL
      have e16 : ρ (.tmp 16) = .agg #[.int .u64 (dgl (s) 0 : Nat), .int .u64 (dgl (s) 1 : Nat), .int .u64 (dgl (s) 2 : Nat), .int .u64 (dgl (s) 3 : Nat), .int .u64 (dgl (s) 4 : Nat), .int .u64 (dgl (s) 5 : Nat), .int .u64 (dgl (s) 6 : Nat), .int .u64 (dgl (s) 7 : Nat)] := hL 16 (by decide +kernel)
      simp [go_sem, hc, hf, e16]
      refine (HLN.out W).mono ?_
      rintro e w' ⟨rfl, hb⟩
      exact ⟨_, rfl, by first | exact hb | (subst hb; exact Below.refl _ _), rfl⟩
    refine gSt (gStep_run rfl ?_) ?_
    · intro ρ W hC hc hf hL
      have e14 : ρ (.tmp 14) = .int .i64 z := hL 14 (by decide +kernel)
      have e17 : ρ (.tmp 17) = .int .i64 (l : Nat) := hL 17 (by decide +kernel)
      have l0 : IntKind.i64.wrap (z + (l : Int)) = z + (l : Int) := by rw [IntKind.wrap_i64]; omega
      simp [go_sem, hc, hf, e14, e17, l0]
      exact ⟨Below.refl _ _, rfl⟩
    refine gSt (gStep_run rfl ?_) ?_
    · intro ρ W hC hc hf hL
      have e18 : ρ (.tmp 18) = .int .i64 (z + (l : Int)) := hL 18 (by decide +kernel)
      have l0 : IntKind.i64.wrap (z + (l : Int) - 1) = z + (l : Int) - 1 := by rw [IntKind.wrap_i64]; omega
      simp [go_sem, hc, hf, e18, l0]
      exact ⟨Below.refl _ _, rfl⟩
    refine gSt (gStep_run rfl (gRun_move 19 2 (.inr rfl) rfl (by decide +kernel) (fun v w h => h))) ?_
    refine gSt (gStep_run rfl (gRun_const _ 3 (.inr rfl) rfl (fun w => rfl))) ?_
    exact gSt0
  · intro W hC
    refine gFi 13 rfl ?_
    rintro _ rfl
    refine gFi 14 rfl ?_
    rintro _ rfl
    refine gFi 15 rfl ?_
    rintro _ rfl
    refine gFi 16 rfl ?_
    rintro _ rfl
    refine gFi 17 rfl ?_
    rintro _ rfl
    refine gFi 18 rfl ?_
    rintro _ rfl
    refine gFi 19 rfl ?_
    rintro _ rfl
    refine gFi 2 rfl ?_
    rintro _ rfl
    refine gFi 3 rfl ?_
    rintro _ rfl
    refine gFi0 ?_
    simp only [List.drop_succ_cons, List.drop_zero, Act.put, List.setIfInBounds_toArray, List.set_cons_succ, List.set_cons_zero]
    have HB := hide hC.2
    clear hC h1
    go_wp2
    exact bodyPost_ret (v := .tuple #[.int .i64 (z + (l : Int) - 1), .bool true]) (by simp [results, Tryd.results48, go_sem]) rfl ⟨rfl, HB.out⟩

end Go.Proofs.YtpcjdllijkjdkaaDoor

/- Contracts: unpack.Short. -/
set_option linter.unusedVariables false
set_option linter.unusedSimpArgs false
set_option maxRecDepth 8000
namespace Go.Proofs.YtpcjdllijkjdkaaDoor
open Go.RowKit Plain

end Go.Proofs.YtpcjdllijkjdkaaDoor

/- Contracts: nan.quietBit, Payload, With, Quieted. -/
set_option linter.unusedVariables false
set_option linter.unusedSimpArgs false
set_option maxRecDepth 8000
namespace Go.Proofs.YtpcjdllijkjdkaaDoor
open Go.RowKit Plain

theorem WB.under {W W' : World} {p x y : Nat} (h : WB W p x y) {C : Nat} (hb : Below C W W') (hc : p < C) : WB W' p x y :=
  ⟨(hb.cell (p := ⟨p, 0, none⟩) hc).trans h.h, (hb.cell (p := ⟨p, 1, none⟩) hc).trans h.l, Nat.lt_of_lt_of_le h.lt hb.size⟩
def qb (f : Int) : Nat := tU f (2 ^ 9) (2 ^ 22) (2 ^ 51) (2 ^ 111) 0
end Go.Proofs.YtpcjdllijkjdkaaDoor

/- Contracts: nan.Payload, With, Quieted at any format, with their numbers. -/
set_option linter.unusedVariables false
set_option linter.unusedSimpArgs false
set_option maxRecDepth 8000
namespace Go.Proofs.YtpcjdllijkjdkaaDoor
open Go.RowKit Plain

theorem own_N {B P F a : Nat} (hB : B = P + F) (hP : 0 < P) (h : clsN B P F a ≠ 0) : a = fldN B P F a * 2 ^ (P - 1) + frcN B P a + (bif negN B a then 2 ^ (B - 1) else 0) := by
  have hb := cls_fit h
  have e1 : fldN B P F a = a / 2 ^ (P - 1) % 2 ^ F := if_pos hb
  have e2 : frcN B P a = a % 2 ^ (P - 1) := if_pos hb
  have e3 : negN B a = (a / 2 ^ (P + F - 1) % 2 == 1) := by
    unfold negN
    rw [decide_eq_true hb, Bool.true_and, hB]
  subst hB
  rw [e1, e2, e3]
  exact (ownN hP hb).symm
theorem own_u {f : Int} {a : Nat} (h : clsU f a ≠ 0) : a = fldU f a * (2 * qb f) + frcU f a + (bif negU f a then 2 ^ (bU f - 1) else 0) := by
  rcases f_cases f with rfl | rfl | rfl | rfl | h0
  · exact own_N (B := 16) (P := 11) (F := 5) rfl (by decide) h
  · exact own_N (B := 32) (P := 24) (F := 8) rfl (by decide) h
  · exact own_N (B := 64) (P := 53) (F := 11) rfl (by decide) h
  · exact own_N (B := 128) (P := 113) (F := 15) rfl (by decide) h
  · exact absurd (tU_none f h0 _ _ _ _ _) h
theorem qb_small (f : Int) : 2 * qb f < QQ := by
  unfold qb tU
  repeat' split
  all_goals decide +kernel
end Go.Proofs.YtpcjdllijkjdkaaDoor

