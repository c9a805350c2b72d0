/- Contracts: wide.Power below 0, wide.Mask, wide.Bit below 0, wide.Low, wide.From. -/
import Derived.Test.YtenbomfoihajhaaWideS
set_option linter.unusedVariables false
set_option linter.unusedSimpArgs false
set_option maxRecDepth 8000
namespace Go.Proofs.Ytenbomfoihajhaa
open Go.RowKit Plain

theorem widePower_neg (n : Int) (hn : n < 0) (w : World) :
    Calls Try.prog 36 #[.int .i64 n] w fun e w' => e = .returned (.agg #[.int .u64 (dgl (0) 0 : Nat), .int .u64 (dgl (0) 1 : Nat), .int .u64 (dgl (0) 2 : Nat), .int .u64 (dgl (0) 3 : Nat), .int .u64 (dgl (0) 4 : Nat), .int .u64 (dgl (0) 5 : Nat), .int .u64 (dgl (0) 6 : Nat), .int .u64 (dgl (0) 7 : Nat)]) ∧ Below w.heap.size w w' := by
  simp only [dgl_zero]
  go_enter Try.func36, Try.ntmps36
  go_wp2
  exact bodyPost_ret (v := .agg #[.int .u64 0, .int .u64 0, .int .u64 0, .int .u64 0, .int .u64 0, .int .u64 0, .int .u64 0, .int .u64 0]) (by simp [results, Try.results36, go_sem]) rfl ⟨rfl, by first | exact below_allocs _ _ | exact below_set8 (below_allocs _ _) _ (by omega) _ _ _ _ _ _ _ _⟩

theorem limbBit_neg (n : Int) (hn : n < 0) (va : Value) (w : World) :
    Calls Try.prog 74 #[va, .int .i64 n] w fun e w' => e = .returned (.bool false) ∧ w' = w := by
  have hn' : ¬ 0 ≤ n := by omega
  go_enter Try.func74, Try.ntmps74
  go_wp2
  go_ret
  exact ⟨rfl, rfl⟩
theorem wideBit_neg (a : Nat) (n : Int) (hn : n < 0) (w : World) :
    Calls Try.prog 32 #[.agg #[.int .u64 (dgl (a) 0 : Nat), .int .u64 (dgl (a) 1 : Nat), .int .u64 (dgl (a) 2 : Nat), .int .u64 (dgl (a) 3 : Nat), .int .u64 (dgl (a) 4 : Nat), .int .u64 (dgl (a) 5 : Nat), .int .u64 (dgl (a) 6 : Nat), .int .u64 (dgl (a) 7 : Nat)], .int .i64 n] w fun e w' => e = .returned (.bool false) ∧ Below w.heap.size w w' := by
  go_enter Try.func32, Try.ntmps32
  go_wp2_with (go_at_call 74; refine (limbBit_neg n hn _ _).mono ?_; rintro e w' ⟨rfl, hw⟩; subst w')
  go_ret
  exact ⟨rfl, (Below.refl _ _).alloc (Nat.le_refl _) _⟩

theorem wideLow_any (f : Nat → Nat) (w : World) :
    Calls Try.prog 38 #[.agg #[.int .u64 (f 0 : Nat), .int .u64 (f 1 : Nat), .int .u64 (f 2 : Nat), .int .u64 (f 3 : Nat), .int .u64 (f 4 : Nat), .int .u64 (f 5 : Nat), .int .u64 (f 6 : Nat), .int .u64 (f 7 : Nat)]] w fun e w' => e = .returned (.agg #[.int .u64 (f 1 : Nat), .int .u64 (f 0 : Nat)]) ∧ Below w.heap.size w w' := by
  go_enter Try.func38, Try.ntmps38
  go_wp2
  exact bodyPost_ret (v := .agg #[.int .u64 (f 1 : Nat), .int .u64 (f 0 : Nat)]) (by simp [results, Try.results38, go_sem]) rfl ⟨rfl, below_trans (below_allocs _ _) (below_allocs _ _)⟩

/-- wide.Of of two limbs. -/
theorem wideOf_two (x y : Nat) (hx : x < 18446744073709551616) (hy : y < 18446744073709551616) (w : World) (b : Nat) (hb : b = w.heap.size) :
    Calls Try.prog 71 #[.slice (some ⟨b, 0, none⟩) 2 2] (w.alloc (.cells #[.int .u64 (x : Nat), .int .u64 (y : Nat)] 22)) fun e w' => e = .returned (.agg #[.int .u64 (dgl (x + 18446744073709551616 * y) 0 : Nat), .int .u64 (dgl (x + 18446744073709551616 * y) 1 : Nat), .int .u64 (dgl (x + 18446744073709551616 * y) 2 : Nat), .int .u64 (dgl (x + 18446744073709551616 * y) 3 : Nat), .int .u64 (dgl (x + 18446744073709551616 * y) 4 : Nat), .int .u64 (dgl (x + 18446744073709551616 * y) 5 : Nat), .int .u64 (dgl (x + 18446744073709551616 * y) 6 : Nat), .int .u64 (dgl (x + 18446744073709551616 * y) 7 : Nat)]) ∧ Below w.heap.size w w' := by
  subst hb
  have hr := Rd.lit (mk := mk64) w 22 [.int .u64 (x : Nat), .int .u64 (y : Nat)] [x, y] rfl 2 (Nat.le_refl 2) (by decide)
  refine (wideOf_any [x, y] (x + 18446744073709551616 * y) _ _ hr ?_).mono ?_
  · intro i hi
    exact (dig_two (β := 18446744073709551616) hx hy).2 i
  · rintro e w' ⟨rfl, h⟩
    exact ⟨rfl, below_alloc_then h⟩

set_option maxHeartbeats 400000 in
theorem wideFrom_any (hi lo : Nat) (hh : hi < 18446744073709551616) (hl : lo < 18446744073709551616) (w : World) :
    Calls Try.prog 39 #[.agg #[.int .u64 (hi : Nat), .int .u64 (lo : Nat)]] w fun e w' => e = .returned (.agg #[.int .u64 (dgl (lo + 18446744073709551616 * hi) 0 : Nat), .int .u64 (dgl (lo + 18446744073709551616 * hi) 1 : Nat), .int .u64 (dgl (lo + 18446744073709551616 * hi) 2 : Nat), .int .u64 (dgl (lo + 18446744073709551616 * hi) 3 : Nat), .int .u64 (dgl (lo + 18446744073709551616 * hi) 4 : Nat), .int .u64 (dgl (lo + 18446744073709551616 * hi) 5 : Nat), .int .u64 (dgl (lo + 18446744073709551616 * hi) 6 : Nat), .int .u64 (dgl (lo + 18446744073709551616 * hi) 7 : Nat)]) ∧ Below w.heap.size w w' := by
  have HO := hide (fun w b hb => wideOf_two lo hi hl hh w b hb)
  clear hh hl
  go_enter Try.func39, Try.ntmps39
  go_wp2_with fail
  refine (HO.out _ _ (by simp)).mono ?_
  rintro e w1 ⟨rfl, hb1⟩
  obtain ⟨hr, hrf, hl⟩ := res_box hb1
  have HB := hide (below_alloc_then (below_alloc_then hb1))
  simp only [World.size_alloc] at hr hrf hl
  clear hb1
  go_wp2
  exact bodyPost_ret (v := .agg #[.int .u64 (dgl (lo + 18446744073709551616 * hi) 0 : Nat), .int .u64 (dgl (lo + 18446744073709551616 * hi) 1 : Nat), .int .u64 (dgl (lo + 18446744073709551616 * hi) 2 : Nat), .int .u64 (dgl (lo + 18446744073709551616 * hi) 3 : Nat), .int .u64 (dgl (lo + 18446744073709551616 * hi) 4 : Nat), .int .u64 (dgl (lo + 18446744073709551616 * hi) 5 : Nat), .int .u64 (dgl (lo + 18446744073709551616 * hi) 6 : Nat), .int .u64 (dgl (lo + 18446744073709551616 * hi) 7 : Nat)]) (by simp [results, Try.results39, go_sem, hr, hl]) rfl ⟨rfl, below_set8 HB.out _ (by omega) _ _ _ _ _ _ _ _⟩

theorem mask_num (r q : Nat) (hq : 2 ^ q = QQ) (hr : r ≤ q) : subQ (2 ^ r % QQ) 1 = 2 ^ r - 1 := by
  rcases Nat.lt_or_ge r q with h | h
  · have hlt : 2 ^ r < QQ := by rw [← hq]; exact Nat.pow_lt_pow_right (by decide) h
    rw [Nat.mod_eq_of_lt hlt]
    exact subW_sub (by decide) 8 _ _ hlt (Nat.two_pow_pos r)
  · have : r = q := by omega
    subst this
    rw [hq, Nat.mod_self]
    have := subQ01
    omega

set_option maxHeartbeats 1000000 in
theorem wideMask_any (n : Int) (r : Nat) (hr : roomI n = (r : Int)) (w : World) :
    Calls Try.prog 37 #[.int .i64 n] w fun e w' => e = .returned (.agg #[.int .u64 (dgl (2 ^ r - 1) 0 : Nat), .int .u64 (dgl (2 ^ r - 1) 1 : Nat), .int .u64 (dgl (2 ^ r - 1) 2 : Nat), .int .u64 (dgl (2 ^ r - 1) 3 : Nat), .int .u64 (dgl (2 ^ r - 1) 4 : Nat), .int .u64 (dgl (2 ^ r - 1) 5 : Nat), .int .u64 (dgl (2 ^ r - 1) 6 : Nat), .int .u64 (dgl (2 ^ r - 1) 7 : Nat)]) ∧ Below w.heap.size w w' := by
  have hbd := roomI_bd n
  have hq0 : 0 < QQ := Nat.lt_trans (by decide) one_lt_qq
  have hS := fun w => wideSub_any (2 ^ r % QQ) 1 (Nat.mod_lt _ hq0) one_lt_qq w
  rw [mask_num r 512 (qq_pow 512 rfl) (by omega), w8_mod (Nat.mod_mod (2 ^ r) QQ)] at hS
  have HS := hide hS
  have hp := fun m hm w => widePower_any m hm w
  have HP : Hid (∀ m : Int, m = max n 0 → ∀ w, Calls Try.prog 36 #[.int .i64 m] w fun e w' => e = .returned (.agg #[.int .u64 (dgl (2 ^ r) 0 : Nat), .int .u64 (dgl (2 ^ r) 1 : Nat), .int .u64 (dgl (2 ^ r) 2 : Nat), .int .u64 (dgl (2 ^ r) 3 : Nat), .int .u64 (dgl (2 ^ r) 4 : Nat), .int .u64 (dgl (2 ^ r) 5 : Nat), .int .u64 (dgl (2 ^ r) 6 : Nat), .int .u64 (dgl (2 ^ r) 7 : Nat)]) ∧ Below w.heap.size w w') := by
    intro m hm w
    have h := widePower_any m (by omega) w
    have e1 : roomI m = (r : Int) := by rw [← hr]; unfold roomI; omega
    rw [e1, sh_up, Nat.one_mul] at h
    exact h
  clear hp hS hq0 hr hbd
  go_enter Try.func37, Try.ntmps37
  go_wp2_with (go_at_call 36; refine (HP.out _ (by omega) _).mono ?_; rintro e w1 ⟨rfl, hb1⟩)
  all_goals
    refine (wideOf_one _ _ rfl).mono ?_
    rintro e w2 ⟨rfl, hb2⟩
    go_wp2_with fail
    refine (HS.out _).mono ?_
    rintro e w3 ⟨rfl, hb3⟩
    replace hb1 := below_trans (below_trans hb1 hb2) hb3
    obtain ⟨hr, hrf, hl⟩ := res_box hb1
    have HB := hide (below_alloc_then hb1)
    clear hb1 hb2 hb3
    go_wp2
    exact bodyPost_ret (v := .agg #[.int .u64 (dgl (2 ^ r - 1) 0 : Nat), .int .u64 (dgl (2 ^ r - 1) 1 : Nat), .int .u64 (dgl (2 ^ r - 1) 2 : Nat), .int .u64 (dgl (2 ^ r - 1) 3 : Nat), .int .u64 (dgl (2 ^ r - 1) 4 : Nat), .int .u64 (dgl (2 ^ r - 1) 5 : Nat), .int .u64 (dgl (2 ^ r - 1) 6 : Nat), .int .u64 (dgl (2 ^ r - 1) 7 : Nat)]) (by simp [results, Try.results37, go_sem, hr, hl]) rfl ⟨rfl, (below_set8 HB.out _ (by omega) _ _ _ _ _ _ _ _).alloc (by simp; omega) _⟩

/-- `==` on words of two limbs. -/
theorem word_same (x y : Nat) (w : World) :
    (Op.equalIn 10000 37 (.agg #[.int .u64 (x : Nat), .int .u64 (y : Nat)]) (.agg #[.int .u64 (x : Nat), .int .u64 (y : Nat)])).run Try.prog w = .ok true w := by
  have u3 := Try.underlying22
  have uw := Try.underlying37
  rw [show (10000 : Nat) = 9999 + 1 from rfl]
  go_simp

end Go.Proofs.Ytenbomfoihajhaa
