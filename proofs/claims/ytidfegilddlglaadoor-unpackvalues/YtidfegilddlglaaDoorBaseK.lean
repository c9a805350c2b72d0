/- Contracts and laws: WideR, WideS, WideT, WideU, WideV. -/
import Derived.Test.YtidfegilddlglaaDoorBaseJ
import Derived.Deep.DeepCutAuto
/- Contracts: wide.Shr, as numbers; radicandref02.Sar. -/
set_option linter.unusedVariables false
set_option linter.unusedSimpArgs false
set_option maxRecDepth 8000
namespace Go.Proofs.YtidfegilddlglaaDoor
open Go.RowKit Plain

theorem w8_mod {x y : Nat} (h : x % QQ = y % QQ) : (#[.int .u64 (dgl (x) 0 : Nat), .int .u64 (dgl (x) 1 : Nat), .int .u64 (dgl (x) 2 : Nat), .int .u64 (dgl (x) 3 : Nat), .int .u64 (dgl (x) 4 : Nat), .int .u64 (dgl (x) 5 : Nat), .int .u64 (dgl (x) 6 : Nat), .int .u64 (dgl (x) 7 : Nat)] : Array Value) = #[.int .u64 (dgl (y) 0 : Nat), .int .u64 (dgl (y) 1 : Nat), .int .u64 (dgl (y) 2 : Nat), .int .u64 (dgl (y) 3 : Nat), .int .u64 (dgl (y) 4 : Nat), .int .u64 (dgl (y) 5 : Nat), .int .u64 (dgl (y) 6 : Nat), .int .u64 (dgl (y) 7 : Nat)] := by
  apply w8_congr (x := dgl x) (y := dgl y)
  intro i hi
  have h1 := wide_end (Q := 18446744073709551616) (by decide) x 8 i hi
  have h2 := wide_end (Q := 18446744073709551616) (by decide) y 8 i hi
  unfold dgl
  rw [← h1, ← h2]
  have h3 : x % 18446744073709551616 ^ 8 = y % 18446744073709551616 ^ 8 := h
  rw [h3]

theorem sh_down (a k : Nat) : sh a (-(k : Int)) = a / 2 ^ k := by
  unfold sh
  by_cases h : k = 0
  · subst h; rw [if_neg (by omega)]; simp
  · rw [if_pos (by omega), show (- -(k : Int)).toNat = k by omega]
theorem sh_up (a k : Nat) : sh a (k : Int) = a * 2 ^ k := by
  unfold sh
  rw [if_neg (by omega), Int.toNat_natCast]
theorem wide_eqb {a b : Nat} (ha : a < QQ) (hb : b < QQ) (w : World) :
    (Op.equalIn 10000 28 (.agg #[.int .u64 (dgl (a) 0 : Nat), .int .u64 (dgl (a) 1 : Nat), .int .u64 (dgl (a) 2 : Nat), .int .u64 (dgl (a) 3 : Nat), .int .u64 (dgl (a) 4 : Nat), .int .u64 (dgl (a) 5 : Nat), .int .u64 (dgl (a) 6 : Nat), .int .u64 (dgl (a) 7 : Nat)]) (.agg #[.int .u64 (dgl (b) 0 : Nat), .int .u64 (dgl (b) 1 : Nat), .int .u64 (dgl (b) 2 : Nat), .int .u64 (dgl (b) 3 : Nat), .int .u64 (dgl (b) 4 : Nat), .int .u64 (dgl (b) 5 : Nat), .int .u64 (dgl (b) 6 : Nat), .int .u64 (dgl (b) 7 : Nat)])).run Tryd.prog w = .ok (decide (a = b)) w := by
  by_cases h : a = b
  · subst h; rw [wide_same, decide_eq_true rfl]
  · rw [wide_diff ha hb h, decide_eq_false h]

theorem wideShr_any (a k : Nat) (n : Int) (hk : roomI n = (k : Int)) (ha : a < QQ) (w : World) :
    Calls Tryd.prog 93 #[.agg #[.int .u64 (dgl (a) 0 : Nat), .int .u64 (dgl (a) 1 : Nat), .int .u64 (dgl (a) 2 : Nat), .int .u64 (dgl (a) 3 : Nat), .int .u64 (dgl (a) 4 : Nat), .int .u64 (dgl (a) 5 : Nat), .int .u64 (dgl (a) 6 : Nat), .int .u64 (dgl (a) 7 : Nat)], .int .i64 n] w fun e w' => e = .returned (.tuple #[.agg #[.int .u64 (dgl (a / 2 ^ k) 0 : Nat), .int .u64 (dgl (a / 2 ^ k) 1 : Nat), .int .u64 (dgl (a / 2 ^ k) 2 : Nat), .int .u64 (dgl (a / 2 ^ k) 3 : Nat), .int .u64 (dgl (a / 2 ^ k) 4 : Nat), .int .u64 (dgl (a / 2 ^ k) 5 : Nat), .int .u64 (dgl (a / 2 ^ k) 6 : Nat), .int .u64 (dgl (a / 2 ^ k) 7 : Nat)], .bool (!decide (a / 2 ^ k * 2 ^ k = a))]) ∧ Below w.heap.size w w' := by
  have hbd := roomI_bd n
  have hq : a / 2 ^ k < QQ := Nat.lt_of_le_of_lt (Nat.div_le_self _ _) ha
  have hu : a / 2 ^ k * 2 ^ k < QQ := Nat.lt_of_le_of_lt (Nat.div_mul_le_self _ _) ha
  have hM := fun w => moved_any a 0 a (-(roomI n)) w (ext0 ha) (by omega) (by omega)
  have hS := fun w => wideShl_any (a / 2 ^ k) n hq w
  rw [hk, sh_down] at hM
  rw [hk, sh_up] at hS
  refine wideShr_walk (dgl a) (dgl (a / 2 ^ k)) (dgl (a / 2 ^ k * 2 ^ k)) n (k : Int) (decide (a / 2 ^ k * 2 ^ k = a)) w (fun w => by rw [← hk]; exact room_any n w) ?_ hM hS (fun w => wide_eqb hu ha w)
  rw [IntKind.wrap_i64]; omega

theorem shrSt_start (fa : Nat → Nat) (w : World) : ShrSt w.heap.size w fa (fun _ => 0) ((w.alloc (.cells #[.int .u64 (fa 0 : Nat), .int .u64 (fa 1 : Nat), .int .u64 (fa 2 : Nat), .int .u64 (fa 3 : Nat), .int .u64 (fa 4 : Nat), .int .u64 (fa 5 : Nat), .int .u64 (fa 6 : Nat), .int .u64 (fa 7 : Nat)] 28)).alloc (.cells #[.int .u64 0, .int .u64 0, .int .u64 0, .int .u64 0, .int .u64 0, .int .u64 0, .int .u64 0, .int .u64 0] 28)) := by
  have hlz := liesF_new (w.alloc (.cells #[.int .u64 (fa 0 : Nat), .int .u64 (fa 1 : Nat), .int .u64 (fa 2 : Nat), .int .u64 (fa 3 : Nat), .int .u64 (fa 4 : Nat), .int .u64 (fa 5 : Nat), .int .u64 (fa 6 : Nat), .int .u64 (fa 7 : Nat)] 28)) (fun _ => 0) 28
  rw [World.size_alloc] at hlz
  exact ⟨(liesF_new w fa 28).alloc _, hlz, fun i => by simp [go_sem], below_trans (below_allocs w _) (below_allocs _ _)⟩

end Go.Proofs.YtidfegilddlglaaDoor

/- radicandref02.Sar, as numbers: it tells what wide.Sar does. -/
set_option linter.unusedVariables false
set_option linter.unusedSimpArgs false
set_option maxRecDepth 8000
namespace Go.Proofs.YtidfegilddlglaaDoor
open Go.RowKit Plain

theorem ceil_div (R Y m : Nat) (hR : 0 < R) (hm : 0 < m) (hle : m ≤ R * Y) : (m + (R - 1)) / R ≤ Y ∧ (R * Y - m) / R = Y - (m + (R - 1)) / R := by
  have h1 := Nat.div_add_mod (m + (R - 1)) R
  have h2 := Nat.mod_lt (m + (R - 1)) hR
  generalize (m + (R - 1)) / R = c at *
  generalize (m + (R - 1)) % R = s at *
  have hcY : c ≤ Y := by
    apply Nat.le_of_lt_succ
    apply Nat.lt_of_mul_lt_mul_left (a := R)
    rw [Nat.mul_succ]; omega
  refine ⟨hcY, ?_⟩
  obtain ⟨d, rfl⟩ : ∃ d, Y = c + d := ⟨Y - c, by omega⟩
  rw [Nat.mul_add] at hle ⊢
  rw [show R * c + R * d - m = (R - 1 - s) + R * d by omega, Nat.add_mul_div_left _ _ hR, Nat.div_eq_of_lt (by omega)]
  omega

theorem ext_add (a : Nat) (ha : a < QQ) (Z : Nat) (hZ : 0 < Z) : (a + QQ * (Z - 1)) + (QQ - a) = QQ * Z := by
  obtain ⟨z, rfl⟩ : ∃ z, Z = z + 1 := ⟨Z - 1, by omega⟩
  rw [Nat.add_sub_cancel, Nat.mul_succ]; omega

/-- What is said of numbers below 2^512 alone. -/
theorem sar_num (a k r R P S Z q : Nat) (hP : 2 ^ k = P) (hR : 2 ^ r = R) (hr : r = min k q) (hS : QQ = R * S) (hQ : 2 ^ q = QQ) (ha : a < QQ) (hZ : 0 < Z) :
    (QQ - a + (P - 1)) / P ≤ QQ ∧ (a + QQ * (QQ * Z - 1)) / R % QQ = (QQ - (QQ - a + (P - 1)) / P) % QQ := by
  have hR0 : 0 < R := pow_pos' r R hR
  have hP0 : 0 < P := pow_pos' k P hP
  have hQ0 : 0 < QQ := pow_pos' q QQ hQ
  have hU : (QQ - a + (P - 1)) / P = (QQ - a + (R - 1)) / R := by
    rcases Nat.lt_or_ge q k with h | h
    · have hrq : r = q := by omega
      subst hrq
      have hRQ : R = QQ := by rw [← hR, hQ]
      have hPQ : QQ ≤ P := by rw [← hQ, ← hP]; exact Nat.pow_le_pow_right (by decide) (by omega)
      rw [hRQ]
      have e1 : (QQ - a + (P - 1)) / P = 1 := by
        apply Nat.div_eq_of_lt_le <;> omega
      have e2 : (QQ - a + (QQ - 1)) / QQ = 1 := by
        apply Nat.div_eq_of_lt_le <;> omega
      rw [e1, e2]
    · have : r = k := by omega
      subst this
      rw [← hP, ← hR]
  have hle : (QQ - a + (P - 1)) / P ≤ QQ := by
    have h := (ceil_div P (QQ - a) (QQ - a) hP0 (by omega) (Nat.le_mul_of_pos_left _ hP0)).1
    omega
  refine ⟨hle, ?_⟩
  rw [hU] at hle ⊢
  have hE := ext_add a ha (QQ * Z) (Nat.mul_pos hQ0 hZ)
  have hY : QQ * (QQ * Z) = R * (QQ * (S * Z)) := by
    have h1 : R * (QQ * (S * Z)) = R * S * (QQ * Z) := by ac_rfl
    rw [h1, ← hS]
  rw [hY] at hE
  have hc := ceil_div R (QQ * (S * Z)) (QQ - a) hR0 (by omega) (by omega)
  have hEe : a + QQ * (QQ * Z - 1) = R * (QQ * (S * Z)) - (QQ - a) := by omega
  rw [hEe, hc.2]
  have hSZ : 0 < S * Z := by
    rcases Nat.eq_zero_or_pos S with h | h
    · rw [h] at hS; omega
    · exact Nat.mul_pos h hZ
  obtain ⟨y, hy⟩ : ∃ y, S * Z = y + 1 := ⟨S * Z - 1, by omega⟩
  rw [hy, Nat.mul_succ]
  generalize (QQ - a + (R - 1)) / R = U at *
  rw [show QQ * y + QQ - U = (QQ - U) + QQ * y by omega, Nat.add_mul_mod_self_left]

theorem div_past (a k r q : Nat) (hr : r = min k q) (hQ : 2 ^ q = QQ) (ha : a < QQ) : a / 2 ^ r = a / 2 ^ k := by
  rcases Nat.lt_or_ge q k with h | h
  · have hrq : r = q := by omega
    subst hrq
    have h2 : a < 2 ^ r := by rw [hQ]; exact ha
    have h3 : 2 ^ r ≤ 2 ^ k := Nat.pow_le_pow_right (by decide) (by omega)
    rw [Nat.div_eq_of_lt h2, Nat.div_eq_of_lt (Nat.lt_of_lt_of_le h2 h3)]
  · have : r = k := by omega
    rw [this]
theorem mul_past (a k r q : Nat) (hr : r = min k q) (hQ : 2 ^ q = QQ) : (a * 2 ^ r) % QQ = (a * 2 ^ k) % QQ := by
  rcases Nat.lt_or_ge q k with h | h
  · have hrq : r = q := by omega
    subst hrq
    obtain ⟨d, rfl⟩ : ∃ d, k = r + d := ⟨k - r, by omega⟩
    rw [Nat.pow_add, hQ, Nat.mul_mod_left, show a * (QQ * 2 ^ d) = QQ * (a * 2 ^ d) by ac_rfl, Nat.mul_mod_right]
  · have : r = k := by omega
    rw [this]

theorem room_min (n : Int) (k r : Nat) (hk : (k : Int) = min (max n 0) 600) (hr : roomI n = (r : Int)) : r = min k 512 := by
  unfold roomI at hr; omega

theorem qq_split (r : Nat) (hr : r ≤ 64 * 8) : QQ = 2 ^ r * 2 ^ (64 * 8 - r) := by
  rw [← Nat.pow_add, show r + (64 * 8 - r) = 64 * 8 by omega]; exact (qq_pow _ rfl).symm

theorem zz_eq (m : Nat) (hm : m = 16) : (18446744073709551616 : Nat) ^ m = QQ * 18446744073709551616 ^ 8 := by
  unfold QQ; rw [← Nat.pow_add, hm]

end Go.Proofs.YtidfegilddlglaaDoor

/- Contracts: wide.Power below 0, wide.Mask, wide.Bit below 0, wide.Low, wide.From. -/
set_option linter.unusedVariables false
set_option linter.unusedSimpArgs false
set_option maxRecDepth 8000
namespace Go.Proofs.YtidfegilddlglaaDoor
open Go.RowKit Plain

theorem widePower_neg (n : Int) (hn : n < 0) (w : World) :
    Calls Tryd.prog 86 #[.int .i64 n] w fun e w' => e = .returned (.agg #[.int .u64 (dgl (0) 0 : Nat), .int .u64 (dgl (0) 1 : Nat), .int .u64 (dgl (0) 2 : Nat), .int .u64 (dgl (0) 3 : Nat), .int .u64 (dgl (0) 4 : Nat), .int .u64 (dgl (0) 5 : Nat), .int .u64 (dgl (0) 6 : Nat), .int .u64 (dgl (0) 7 : Nat)]) ∧ Below w.heap.size w w' := by
  simp only [dgl_zero]
  go_enter Tryd.func86, Tryd.ntmps86
  go_wp2
  exact bodyPost_ret (v := .agg #[.int .u64 0, .int .u64 0, .int .u64 0, .int .u64 0, .int .u64 0, .int .u64 0, .int .u64 0, .int .u64 0]) (by simp [results, Tryd.results86, go_sem]) rfl ⟨rfl, by first | exact below_allocs _ _ | exact below_set8 (below_allocs _ _) _ (by omega) _ _ _ _ _ _ _ _⟩

theorem limbBit_neg (n : Int) (hn : n < 0) (va : Value) (w : World) :
    Calls Tryd.prog 96 #[va, .int .i64 n] w fun e w' => e = .returned (.bool false) ∧ w' = w := by
  have hn' : ¬ 0 ≤ n := by omega
  go_enter Tryd.func96, Tryd.ntmps96
  go_wp2
  go_ret
  exact ⟨rfl, rfl⟩
theorem wideBit_neg (a : Nat) (n : Int) (hn : n < 0) (w : World) :
    Calls Tryd.prog 53 #[.agg #[.int .u64 (dgl (a) 0 : Nat), .int .u64 (dgl (a) 1 : Nat), .int .u64 (dgl (a) 2 : Nat), .int .u64 (dgl (a) 3 : Nat), .int .u64 (dgl (a) 4 : Nat), .int .u64 (dgl (a) 5 : Nat), .int .u64 (dgl (a) 6 : Nat), .int .u64 (dgl (a) 7 : Nat)], .int .i64 n] w fun e w' => e = .returned (.bool false) ∧ Below w.heap.size w w' := by
  go_enter Tryd.func53, Tryd.ntmps53
  go_wp2_with (go_at_call 96; refine (limbBit_neg n hn _ _).mono ?_; rintro e w' ⟨rfl, hw⟩; subst w')
  go_ret
  exact ⟨rfl, (Below.refl _ _).alloc (Nat.le_refl _) _⟩

theorem wideLow_any (f : Nat → Nat) (w : World) :
    Calls Tryd.prog 73 #[.agg #[.int .u64 (f 0 : Nat), .int .u64 (f 1 : Nat), .int .u64 (f 2 : Nat), .int .u64 (f 3 : Nat), .int .u64 (f 4 : Nat), .int .u64 (f 5 : Nat), .int .u64 (f 6 : Nat), .int .u64 (f 7 : Nat)]] w fun e w' => e = .returned (.agg #[.int .u64 (f 1 : Nat), .int .u64 (f 0 : Nat)]) ∧ Below w.heap.size w w' := by
  go_enter Tryd.func73, Tryd.ntmps73
  go_wp2
  exact bodyPost_ret (v := .agg #[.int .u64 (f 1 : Nat), .int .u64 (f 0 : Nat)]) (by simp [results, Tryd.results73, go_sem]) rfl ⟨rfl, below_trans (below_allocs _ _) (below_allocs _ _)⟩

/-- wide.Of of two limbs. -/
theorem wideOf_two (x y : Nat) (hx : x < 18446744073709551616) (hy : y < 18446744073709551616) (w : World) (b : Nat) (hb : b = w.heap.size) :
    Calls Tryd.prog 70 #[.slice (some ⟨b, 0, none⟩) 2 2] (w.alloc (.cells #[.int .u64 (x : Nat), .int .u64 (y : Nat)] 22)) fun e w' => e = .returned (.agg #[.int .u64 (dgl (x + 18446744073709551616 * y) 0 : Nat), .int .u64 (dgl (x + 18446744073709551616 * y) 1 : Nat), .int .u64 (dgl (x + 18446744073709551616 * y) 2 : Nat), .int .u64 (dgl (x + 18446744073709551616 * y) 3 : Nat), .int .u64 (dgl (x + 18446744073709551616 * y) 4 : Nat), .int .u64 (dgl (x + 18446744073709551616 * y) 5 : Nat), .int .u64 (dgl (x + 18446744073709551616 * y) 6 : Nat), .int .u64 (dgl (x + 18446744073709551616 * y) 7 : Nat)]) ∧ Below w.heap.size w w' := by
  subst hb
  have hr := Rd.lit (mk := mk64) w 22 [.int .u64 (x : Nat), .int .u64 (y : Nat)] [x, y] rfl 2 (Nat.le_refl 2) (by decide)
  refine (wideOf_any [x, y] (x + 18446744073709551616 * y) _ _ hr ?_).mono ?_
  · intro i hi
    exact (dig_two (β := 18446744073709551616) hx hy).2 i
  · rintro e w' ⟨rfl, h⟩
    exact ⟨rfl, below_alloc_then h⟩

set_option maxHeartbeats 400000 in
theorem wideFrom_any (hi lo : Nat) (hh : hi < 18446744073709551616) (hl : lo < 18446744073709551616) (w : World) :
    Calls Tryd.prog 71 #[.agg #[.int .u64 (hi : Nat), .int .u64 (lo : Nat)]] w fun e w' => e = .returned (.agg #[.int .u64 (dgl (lo + 18446744073709551616 * hi) 0 : Nat), .int .u64 (dgl (lo + 18446744073709551616 * hi) 1 : Nat), .int .u64 (dgl (lo + 18446744073709551616 * hi) 2 : Nat), .int .u64 (dgl (lo + 18446744073709551616 * hi) 3 : Nat), .int .u64 (dgl (lo + 18446744073709551616 * hi) 4 : Nat), .int .u64 (dgl (lo + 18446744073709551616 * hi) 5 : Nat), .int .u64 (dgl (lo + 18446744073709551616 * hi) 6 : Nat), .int .u64 (dgl (lo + 18446744073709551616 * hi) 7 : Nat)]) ∧ Below w.heap.size w w' := by
  have HO := hide (fun w b hb => wideOf_two lo hi hl hh w b hb)
  clear hh hl
  go_enter Tryd.func71, Tryd.ntmps71
  go_wp2_with fail
  refine (HO.out _ _ (by simp)).mono ?_
  rintro e w1 ⟨rfl, hb1⟩
  obtain ⟨hr, hrf, hl⟩ := res_box hb1
  have HB := hide (below_alloc_then (below_alloc_then hb1))
  simp only [World.size_alloc] at hr hrf hl
  clear hb1
  go_wp2
  exact bodyPost_ret (v := .agg #[.int .u64 (dgl (lo + 18446744073709551616 * hi) 0 : Nat), .int .u64 (dgl (lo + 18446744073709551616 * hi) 1 : Nat), .int .u64 (dgl (lo + 18446744073709551616 * hi) 2 : Nat), .int .u64 (dgl (lo + 18446744073709551616 * hi) 3 : Nat), .int .u64 (dgl (lo + 18446744073709551616 * hi) 4 : Nat), .int .u64 (dgl (lo + 18446744073709551616 * hi) 5 : Nat), .int .u64 (dgl (lo + 18446744073709551616 * hi) 6 : Nat), .int .u64 (dgl (lo + 18446744073709551616 * hi) 7 : Nat)]) (by simp [results, Tryd.results71, go_sem, hr, hl]) rfl ⟨rfl, below_set8 HB.out _ (by omega) _ _ _ _ _ _ _ _⟩

theorem mask_num (r q : Nat) (hq : 2 ^ q = QQ) (hr : r ≤ q) : subQ (2 ^ r % QQ) 1 = 2 ^ r - 1 := by
  rcases Nat.lt_or_ge r q with h | h
  · have hlt : 2 ^ r < QQ := by rw [← hq]; exact Nat.pow_lt_pow_right (by decide) h
    rw [Nat.mod_eq_of_lt hlt]
    exact subW_sub (by decide) 8 _ _ hlt (Nat.two_pow_pos r)
  · have : r = q := by omega
    subst this
    rw [hq, Nat.mod_self]
    have := subQ01
    omega

/-- `==` on words of two limbs. -/
theorem word_same (x y : Nat) (w : World) :
    (Op.equalIn 10000 24 (.agg #[.int .u64 (x : Nat), .int .u64 (y : Nat)]) (.agg #[.int .u64 (x : Nat), .int .u64 (y : Nat)])).run Tryd.prog w = .ok true w := by
  have u3 := Tryd.underlying22
  have uw := Tryd.underlying24
  rw [show (10000 : Nat) = 9999 + 1 from rfl]
  go_simp

end Go.Proofs.YtidfegilddlglaaDoor

/- Sums, differences and signs of wides, as numbers. -/
set_option linter.unusedVariables false
set_option linter.unusedSimpArgs false
set_option maxRecDepth 8000
namespace Go.Proofs.YtidfegilddlglaaDoor
open Go.RowKit Plain

theorem add_back (a b : Nat) (ha : a < QQ) (hb : b < QQ) : subQ ((a + b) % QQ) b = a ∧ decide ((a + b) % QQ < b) = decide (QQ ≤ a + b) := by
  have hq : 0 < QQ := by omega
  have hs := Nat.mod_lt (a + b) hq
  have h := subW_eq (β := 18446744073709551616) (by decide) 8 ((a + b) % QQ) b
  rw [show b % 18446744073709551616 ^ 8 = b from Nat.mod_eq_of_lt hb, show (a + b) % QQ % 18446744073709551616 ^ 8 = (a + b) % QQ from Nat.mod_eq_of_lt hs] at h
  have hlt := subQ_lt ((a + b) % QQ) b
  have hbo : bor 18446744073709551616 ((a + b) % QQ) b 8 = if (a + b) % QQ < b then 1 else 0 := by
    unfold bor
    rw [show b % 18446744073709551616 ^ 8 = b from Nat.mod_eq_of_lt hb, show (a + b) % QQ % 18446744073709551616 ^ 8 = (a + b) % QQ from Nat.mod_eq_of_lt hs]
  rw [hbo] at h
  have e : subQ ((a + b) % QQ) b + b = (a + b) % QQ + QQ * (if (a + b) % QQ < b then 1 else 0) := h
  rcases Nat.lt_or_ge (a + b) QQ with h1 | h1
  · have hm : (a + b) % QQ = a + b := Nat.mod_eq_of_lt h1
    rw [hm] at e ⊢
    rw [if_neg (by omega)] at e
    refine ⟨by omega, ?_⟩
    rw [decide_eq_decide]; omega
  · have hm : (a + b) % QQ = a + b - QQ := by
      rw [Nat.mod_eq_sub_mod h1, Nat.mod_eq_of_lt (by omega)]
    rw [hm] at e ⊢
    rw [if_pos (by omega)] at e
    refine ⟨by omega, ?_⟩
    rw [decide_eq_decide]; omega

theorem neg_eq (a : Nat) (ha : a < QQ) : subQ 0 a = if a = 0 then 0 else QQ - a := by
  have h := subW_eq (β := 18446744073709551616) (by decide) 8 0 a
  have hlt := subQ_lt 0 a
  have hbo : bor 18446744073709551616 0 a 8 = if 0 < a then 1 else 0 := by
    unfold bor
    rw [show a % 18446744073709551616 ^ 8 = a from Nat.mod_eq_of_lt ha, Nat.zero_mod]
  rw [hbo, show a % 18446744073709551616 ^ 8 = a from Nat.mod_eq_of_lt ha, Nat.zero_mod] at h
  have e : subQ 0 a + a = 0 + QQ * (if 0 < a then 1 else 0) := h
  by_cases h0 : a = 0
  · rw [if_pos h0]; rw [if_neg (by omega)] at e; omega
  · rw [if_neg h0]; rw [if_pos (by omega)] at e; omega
theorem neg_neg (a : Nat) (ha : a < QQ) : subQ 0 (subQ 0 a) = a := by
  rw [neg_eq (subQ 0 a) (subQ_lt 0 a), neg_eq a ha]
  by_cases h0 : a = 0
  · rw [if_pos h0, if_pos rfl, h0]
  · rw [if_neg h0, if_neg (by omega)]; omega

theorem bitLen_lt (a : Nat) : a < 2 ^ Go.bitLen a := by
  unfold Go.bitLen
  split
  · rename_i h; rw [h]; decide
  · exact Nat.lt_log2_self
theorem bitLen_le (a q : Nat) (h : a < 2 ^ q) : Go.bitLen a ≤ q := by
  unfold Go.bitLen
  split
  · omega
  · rename_i h0
    have := (Nat.log2_lt h0).2 h
    omega

theorem cmp_neg (a b : Nat) : cmpN b a = -cmpN a b := by
  unfold cmpN
  rcases Nat.lt_trichotomy a b with h | h | h
  · rw [if_neg (by omega), if_pos h, if_pos h]; rfl
  · rw [if_neg (by omega), if_neg (by omega), if_neg (by omega), if_neg (by omega)]; rfl
  · rw [if_pos h, if_neg (by omega), if_pos h]

/-- The sign of what was shifted down with its sign. -/
theorem sar_sign (a k q H Z : Nat) (hk : k ≤ q) (hQ : 2 ^ q = QQ) (hH : QQ = 2 * H) (ha : a < QQ) (hZ : 0 < Z) :
    ((if (a / H % 2 == 1) = true then a + QQ * (QQ * Z - 1) else a) / 2 ^ k % QQ / H % 2 == 1) = (a / H % 2 == 1) := by
  have hH0 : 0 < H := by have := pow_pos' q QQ hQ; omega
  have hbit : ∀ x, x < QQ → ((x / H % 2 == 1) = true ↔ H ≤ x) := fun x hx => by
    rw [beq_iff_eq]
    rcases Nat.lt_or_ge x H with h | h
    · rw [Nat.div_eq_of_lt h]; omega
    · have : x / H = 1 := by apply Nat.div_eq_of_lt_le <;> omega
      rw [this]; omega
  by_cases hm : (a / H % 2 == 1) = true
  · rw [if_pos hm, hm]
    have h1 := (hbit a ha).1 hm
    have hS : QQ = 2 ^ k * 2 ^ (q - k) := by rw [← Nat.pow_add, show k + (q - k) = q by omega, hQ]
    have h := sar_num a k k (2 ^ k) (2 ^ k) (2 ^ (q - k)) Z q rfl rfl (by omega) hS hQ ha hZ
    rw [h.2]
    have hp : 0 < 2 ^ k := Nat.two_pow_pos k
    have hU1 : 1 ≤ (QQ - a + (2 ^ k - 1)) / 2 ^ k := (Nat.le_div_iff_mul_le hp).2 (by omega)
    have hU2 : (QQ - a + (2 ^ k - 1)) / 2 ^ k ≤ QQ - a := (ceil_div (2 ^ k) (QQ - a) (QQ - a) hp (by omega) (Nat.le_mul_of_pos_left _ hp)).1
    generalize (QQ - a + (2 ^ k - 1)) / 2 ^ k = U at *
    rw [Nat.mod_eq_of_lt (show QQ - U < QQ by omega)]
    exact (hbit _ (by omega)).2 (by omega)
  · rw [if_neg hm]
    have hmf : (a / H % 2 == 1) = false := Bool.eq_false_iff.2 hm
    rw [hmf, Bool.eq_false_iff]
    have hle : a / 2 ^ k ≤ a := Nat.div_le_self _ _
    rw [Nat.mod_eq_of_lt (Nat.lt_of_le_of_lt hle ha)]
    intro hc
    have h2 := (hbit _ (Nat.lt_of_le_of_lt hle ha)).1 hc
    exact hm ((hbit a ha).2 (by omega))

theorem sar_sign_gen (a k H : Nat) (hH : 2 ^ 511 = H) (hk : k ≤ 512) (ha : a < QQ) :
    ((if (a / H % 2 == 1) = true then a + QQ * (18446744073709551616 ^ 16 - 1) else a) / 2 ^ k % QQ / H % 2 == 1) = (a / H % 2 == 1) := by
  rw [zz_eq 16 rfl]
  exact sar_sign a k 512 H _ hk (qq_pow 512 rfl) (qq_half 511 H rfl hH) ha (Nat.pow_pos (by decide))
theorem sar_sign' (a k : Nat) (hk : k ≤ 512) (ha : a < QQ) : (extN a / 2 ^ k % QQ / 2 ^ 511 % 2 == 1) = (a / 2 ^ 511 % 2 == 1) :=
  sar_sign_gen a k _ rfl hk ha

end Go.Proofs.YtidfegilddlglaaDoor

/- What is lost by a shift that is greater than all. -/
set_option linter.unusedVariables false
set_option linter.unusedSimpArgs false
set_option maxRecDepth 8000
namespace Go.Proofs.YtidfegilddlglaaDoor
open Go.RowKit Plain

theorem lost_past (a k r q : Nat) (hr : r = min k q) (hQ : 2 ^ q = QQ) (ha : a < QQ) : decide (a / 2 ^ k * 2 ^ k = a) = decide (a / 2 ^ r * 2 ^ r = a) := by
  rw [decide_eq_decide]
  rcases Nat.lt_or_ge q k with h | h
  · have hrq : r = q := by omega
    subst hrq
    have h2 : a < 2 ^ r := by rw [hQ]; exact ha
    have h3 : 2 ^ r ≤ 2 ^ k := Nat.pow_le_pow_right (by decide) (by omega)
    rw [Nat.div_eq_of_lt h2, Nat.div_eq_of_lt (Nat.lt_of_lt_of_le h2 h3), Nat.zero_mul, Nat.zero_mul]
  · have : r = k := by omega
    rw [this]

end Go.Proofs.YtidfegilddlglaaDoor

