/- Contracts and laws: UnpO, UnpP, UnpJa, UnpQ, UnpR, UnpS. -/
import Derived.Test.YtpcjdllijkjdkaaGreatDoorPartAX
import Derived.Test.YtpcjdllijkjdkaaGreatDoorPartAW
/- Contracts: the document's Value, at any format. -/
set_option linter.unusedVariables false
set_option linter.unusedSimpArgs false
set_option maxRecDepth 8000
namespace Go.Proofs.YtpcjdllijkjdkaaGreatDoor
open Go.RowKit Plain

def enU (f : Int) : Int := tU f (-14) (-126) (-1022) (-16382) 0
theorem emin_u (f : Int) (h : 1 ≤ f ∧ f ≤ 4) (w : World) : Calls Tryz.prog 39 #[.int .i64 f] w fun e w' => e = .returned (.int .i64 (enU f)) ∧ w' = w := by
  rcases f_cases f with rfl | rfl | rfl | rfl | h0
  · exact emin_1 w
  · exact emin_2 w
  · exact emin_3 w
  · exact emin_4 w
  · omega
theorem prec_u (f : Int) (h : 1 ≤ f ∧ f ≤ 4) (w : World) : Calls Tryz.prog 8 #[.int .i64 f] w fun e w' => e = .returned (.int .i64 (prU f : Nat)) ∧ w' = w := by
  rcases f_cases f with rfl | rfl | rfl | rfl | h0
  · exact prec_1 w
  · exact prec_2 w
  · exact prec_3 w
  · exact prec_4 w
  · omega
theorem enU_eq (f : Int) (h : 1 ≤ f ∧ f ≤ 4) : enU f - (prU f : Int) + 1 = loU f ∧ -20000 ≤ enU f ∧ enU f ≤ 0 := by
  rcases f_cases f with rfl | rfl | rfl | rfl | h0
  · decide
  · decide
  · decide
  · decide
  · omega
theorem pow_int (e : Nat) : ((2 : Int) ^ e) = ((2 ^ e : Nat) : Int) := by rw [Int.natCast_pow]; rfl
theorem shl_wrap7 {e : Nat} (h : e < 64) : IntKind.u64.wrap ((2 : Int) ^ e) = (2 : Int) ^ e := by
  have hp1 : 2 ^ e ≤ 2 ^ 63 := Nat.pow_le_pow_right (by decide) (by omega)
  rw [pow_int, IntKind.wrap_u64]
  generalize 2 ^ e = y at hp1 ⊢
  omega
theorem add_low {n r : Nat} (hn : n < 64) (hr : r < 2 ^ n) : IntKind.u64.wrap (((dgl r 0 : Nat) : Int) + (2 : Int) ^ n) = ((dgl (r + 2 ^ n) 0 : Nat) : Int) := by
  have h1 := frac_low0 n r hn hr
  have h2 := dgl_lt (r + 2 ^ n) 0
  rw [h1] at h2
  rw [h1, pow_int, IntKind.wrap_u64]
  generalize (2 : Nat) ^ n = y at h2 ⊢
  omega
theorem add_high {n r : Nat} (hn : ¬ n < 64) (hn2 : n < 128) (hr : r < 2 ^ n) : IntKind.u64.wrap (((dgl r 1 : Nat) : Int) + (2 : Int) ^ (n - 64)) = ((dgl (r + 2 ^ n) 1 : Nat) : Int) := by
  have h1 := frac_high1 n r hn hn2 hr
  have h2 := dgl_lt (r + 2 ^ n) 1
  rw [h1] at h2
  rw [h1, pow_int, IntKind.wrap_u64]
  generalize (2 : Nat) ^ (n - 64) = y at h2 ⊢
  omega
/-- The document's Value of a word. -/
theorem rval_any (f : Int) (a : Nat) (ha : a < 2 ^ 128) (h : clsU f a ≠ 0) (w : World) : Calls Tryz.prog 70 #[.int .i64 f, .agg #[.int .u64 (dgl (a) 1 : Nat), .int .u64 (dgl (a) 0 : Nat)]] w fun e w' => e = .returned (.agg #[.bool (negU f a), .int .i64 (expU f a), .int .u64 (dgl (sigU f a) 0 : Nat), .int .u64 (dgl (sigU f a) 1 : Nat), .int .u64 (dgl (sigU f a) 2 : Nat), .int .u64 (dgl (sigU f a) 3 : Nat), .int .u64 (dgl (sigU f a) 4 : Nat), .int .u64 (dgl (sigU f a) 5 : Nat), .int .u64 (dgl (sigU f a) 6 : Nat), .int .u64 (dgl (sigU f a) 7 : Nat)]) ∧ Below w.heap.size w w' := by
  have hf : 1 ≤ f ∧ f ≤ 4 := cls_form h
  have HFD := fun w => refFld_u f a ha h w
  have HNG := fun w => refNeg_u f a ha w
  have HFR := fun w => refFrac_u f a ha h w
  have HEM := fun w => emin_u f hf w
  have HPR := fun w => prec_u f hf w
  have he := enU_eq f hf
  have hp := prU_bd f hf
  have hr := frcU_lt f a hf
  have hfd := fldU_le f a
  by_cases h0 : fldU f a = 0
  · rw [h0] at HFD
    rw [show sigU f a = frcU f a from if_pos h0, show expU f a = loU f from if_pos h0]
    exact rval_Z f (enU f) (loU f) a (frcU f a) 0 0 (prU f) 0 (negU f a) HFD HNG HFR HEM HPR he.2 (by omega) he.1 w
  · rw [show sigU f a = frcU f a + 2 ^ (prU f - 1) from if_neg h0, show expU f a = loU f + (fldU f a : Int) - 1 by rw [show expU f a = loU f + ((fldU f a : Int) - 1) from if_neg h0]; omega]
    by_cases h64 : prU f - 1 < 64
    · exact rval_L f (enU f) (loU f) a (frcU f a) _ (fldU f a) (prU f) (prU f - 1) (negU f a) HFD HNG HFR HEM HPR he.2 (by omega) he.1 (by omega)
        (by unfold Hid; rw [Int.tdiv_eq_ediv_of_nonneg (by omega)]; omega) (by unfold Hid; rw [Int.tmod_eq_emod_of_nonneg (by omega)]; omega) (shl_wrap7 h64) (by unfold Hid; omega) (add_low h64 hr) (fun j hj => frac_low _ _ j h64 hr hj) w
    · exact rval_H f (enU f) (loU f) a (frcU f a) _ (fldU f a) (prU f) (prU f - 1 - 64) (negU f a) HFD HNG HFR HEM HPR he.2 (by omega) he.1 (by omega)
        (by unfold Hid; rw [Int.tdiv_eq_ediv_of_nonneg (by omega)]; omega) (by unfold Hid; rw [Int.tmod_eq_emod_of_nonneg (by omega)]; omega) (shl_wrap7 (by omega)) (by unfold Hid; omega) (add_high h64 (by omega) hr) (fun j hj => frac_high _ _ j h64 (by omega) hr hj) w
theorem len_shift {x : Nat} (k : Nat) (h : x ≠ 0) : Go.bitLen (x * 2 ^ k) = Go.bitLen x + k := by
  have h1 := len_lt x
  have h2 := len_ge h
  have h3 := len_pos h
  have a1 : Go.bitLen (x * 2 ^ k) ≤ Go.bitLen x + k := (len_le _ _).2 (by rw [Nat.pow_add]; exact Nat.mul_lt_mul_of_pos_right h1 (Nat.two_pow_pos _))
  have a2 : ¬ Go.bitLen (x * 2 ^ k) ≤ Go.bitLen x + k - 1 := fun h4 => by
    have h5 := (len_le _ _).1 h4
    rw [show Go.bitLen x + k - 1 = Go.bitLen x - 1 + k by omega, Nat.pow_add] at h5
    have h6 := Nat.lt_of_mul_lt_mul_right h5
    omega
  omega
end Go.Proofs.YtpcjdllijkjdkaaGreatDoor

/- Contracts: unpack.Exact at a number that no word stands for. -/
set_option linter.unusedVariables false
set_option linter.unusedSimpArgs false
set_option maxRecDepth 8000
namespace Go.Proofs.YtpcjdllijkjdkaaGreatDoor
open Go.RowKit Plain

theorem cls_finN {B P F a : Nat} (h0 : clsN B P F a ≠ 0) (h : fldN B P F a + 2 ≤ 2 ^ F) : 4 ≤ clsN B P F a := by
  have hb := cls_fit h0
  rw [show fldN B P F a = a / 2 ^ (P - 1) % 2 ^ F from if_pos hb] at h
  unfold clsN clsP
  rw [if_pos hb, if_neg (by omega)]
  repeat' split
  all_goals omega
theorem cls_fin {f : Int} {a : Nat} (h0 : clsU f a ≠ 0) (h : (fldU f a : Int) ≤ 2 * emU f) : 4 ≤ clsU f a := by
  have hf := cls_form h0
  rcases f_cases f with rfl | rfl | rfl | rfl | h1
  · exact cls_finN (B := 16) (P := 11) (F := 5) h0 (by have h2 : ((fldN 16 11 5 a : Nat) : Int) ≤ 2 * 15 := h; omega)
  · exact cls_finN (B := 32) (P := 24) (F := 8) h0 (by have h2 : ((fldN 32 24 8 a : Nat) : Int) ≤ 2 * 127 := h; omega)
  · exact cls_finN (B := 64) (P := 53) (F := 11) h0 (by have h2 : ((fldN 64 53 11 a : Nat) : Int) ≤ 2 * 1023 := h; omega)
  · exact cls_finN (B := 128) (P := 113) (F := 15) h0 (by have h2 : ((fldN 128 113 15 a : Nat) : Int) ≤ 2 * 16383 := h; omega)
  · omega
theorem emU_nn (f : Int) (hf : 1 ≤ f ∧ f ≤ 4) : 0 ≤ emU f := by
  rcases f_cases f with rfl | rfl | rfl | rfl | h0
  · decide
  · decide
  · decide
  · decide
  · omega
/-- The word of a field and a fraction. -/
theorem parts_word (f : Int) (hf : 1 ≤ f ∧ f ≤ 4) (neg : Bool) (z : Int) (b : Nat) (h1 : 0 ≤ z) (h2 : z ≤ 2 * emU f) (h3 : b < 2 ^ (prU f - 1)) : ∃ a, a < 2 ^ 128 ∧ 4 ≤ clsU f a ∧ negU f a = neg ∧ ((fldU f a : Nat) : Int) = z ∧ frcU f a = b := by
  have hc : tU f (0 ≤ z ∧ z < 2 ^ 5 ∧ b < 2 ^ 10) (0 ≤ z ∧ z < 2 ^ 8 ∧ b < 2 ^ 23) (0 ≤ z ∧ z < 2 ^ 11 ∧ b < 2 ^ 52) (0 ≤ z ∧ z < 2 ^ 15 ∧ b < 2 ^ 112) False := by
    rcases f_cases f with rfl | rfl | rfl | rfl | h0
    · rw [tU_1]
      have h4 : z ≤ 2 * 15 := h2
      exact ⟨h1, by omega, h3⟩
    · rw [tU_2]
      have h4 : z ≤ 2 * 127 := h2
      exact ⟨h1, by omega, h3⟩
    · rw [tU_3]
      have h4 : z ≤ 2 * 1023 := h2
      exact ⟨h1, by omega, h3⟩
    · rw [tU_4]
      have h4 : z ≤ 2 * 16383 := h2
      exact ⟨h1, by omega, h3⟩
    · omega
  obtain ⟨a, ha, e1, e2, e3, -, e4, -⟩ := makeYes_u f neg z b hc
  exact ⟨a, ha, cls_fin e4 (by omega), e1, e2, e3⟩
/-- The word of a Sig and an Exp that fit. -/
theorem word_of (f : Int) (hf : 1 ≤ f ∧ f ≤ 4) (neg : Bool) (u : Nat) (la : Int) (h1 : Go.bitLen u ≤ prU f) (h2 : loU f ≤ la) (h3 : Go.bitLen u < prU f → la = loU f) (h4 : la + (Go.bitLen u : Int) - 1 ≤ emU f) :
    ∃ a, a < 2 ^ 128 ∧ 4 ≤ clsU f a ∧ negU f a = neg ∧ sigU f a = u ∧ expU f a = la := by
  have hp := prU_bd f hf
  have hle := loU_eq f hf
  have hem := emU_nn f hf
  by_cases h5 : Go.bitLen u < prU f
  · obtain ⟨a, ha, e1, e2, e3, e4⟩ := parts_word f hf neg 0 u (by omega) (by omega) ((len_le u (prU f - 1)).1 (by omega))
    have e5 : fldU f a = 0 := by omega
    exact ⟨a, ha, e1, e2, by unfold sigU; rw [if_pos e5]; exact e4, by unfold expU; rw [if_pos e5]; exact (h3 h5).symm⟩
  · have h6 := (len_le u (prU f)).1 h1
    have h7 : ¬ u < 2 ^ (prU f - 1) := fun h => by
      have := (len_le u (prU f - 1)).2 h
      omega
    have h8 : 2 ^ prU f = 2 * 2 ^ (prU f - 1) := by rw [← Nat.pow_succ']; congr 1; omega
    obtain ⟨a, ha, e1, e2, e3, e4⟩ := parts_word f hf neg (la - loU f + 1) (u - 2 ^ (prU f - 1)) (by omega) (by omega) (by omega)
    have e5 : fldU f a ≠ 0 := by omega
    exact ⟨a, ha, e1, e2, by unfold sigU; rw [if_neg e5, e4]; omega, by unfold expU; rw [if_neg e5]; omega⟩
end Go.Proofs.YtpcjdllijkjdkaaGreatDoor

/- The words of a format, without their signs, rise as their numbers do. -/
set_option linter.unusedVariables false
set_option linter.unusedSimpArgs false
set_option maxRecDepth 8000
namespace Go.Proofs.YtpcjdllijkjdkaaGreatDoor
open Go.RowKit Plain

/-- What a word's number without a sign stands for, in units of the format's least place. -/
def valW (H x : Nat) : Nat := if x / H = 0 then x % H else (H + x % H) * 2 ^ (x / H - 1)
theorem valW_step (H x : Nat) (hH : 0 < H) : valW H x < valW H (x + 1) := by
  unfold valW
  have hm := Nat.mod_lt x hH
  have hd := Nat.div_add_mod x H
  rcases Nat.lt_or_ge (x % H + 1) H with h | h
  · have e1 : (x + 1) / H = x / H := by
      refine Nat.div_eq_of_lt_le ?_ ?_
      · rw [Nat.mul_comm]; omega
      · rw [Nat.succ_mul, Nat.mul_comm]; omega
    have e2 : (x + 1) % H = x % H + 1 := by
      have := Nat.div_add_mod (x + 1) H
      rw [e1] at this
      omega
    rw [e1, e2]
    split
    · omega
    · rw [← Nat.add_assoc, Nat.succ_mul]
      have := Nat.two_pow_pos (x / H - 1)
      omega
  · have e0 : x + 1 = H * (x / H + 1) := by rw [Nat.mul_succ]; omega
    have e1 : (x + 1) / H = x / H + 1 := by rw [e0, Nat.mul_div_cancel_left _ hH]
    have e2 : (x + 1) % H = 0 := by rw [e0, Nat.mul_mod_right]
    rw [e1, e2, if_neg (Nat.succ_ne_zero _), Nat.add_zero, Nat.add_sub_cancel]
    split
    · rename_i h0
      rw [h0, Nat.pow_zero]
      omega
    · rename_i h0
      obtain ⟨k, hk⟩ := Nat.exists_eq_succ_of_ne_zero h0
      rw [Nat.succ_eq_add_one] at hk
      rw [hk, Nat.add_sub_cancel, Nat.pow_succ, Nat.mul_comm (2 ^ k) 2, ← Nat.mul_assoc]
      exact Nat.mul_lt_mul_of_pos_right (by omega) (Nat.two_pow_pos k)
theorem valW_lt {H x y : Nat} (hH : 0 < H) (h : x < y) : valW H x < valW H y := by
  induction y with
  | zero => omega
  | succ y ih =>
    have h1 := valW_step H y hH
    rcases Nat.lt_or_ge x y with h2 | h2
    · have := ih h2
      omega
    · obtain rfl : x = y := by omega
      exact h1
theorem valW_iff {H x y : Nat} (hH : 0 < H) : (valW H x < valW H y ↔ x < y) ∧ (valW H x = valW H y ↔ x = y) := by
  rcases Nat.lt_trichotomy x y with h | h | h
  · have := valW_lt hH h
    exact ⟨by omega, by omega⟩
  · subst h
    exact ⟨by omega, by omega⟩
  · have := valW_lt hH h
    exact ⟨by omega, by omega⟩

/-- A format's bits without the sign's. -/
def mU (f : Int) : Nat := tU f 15 31 63 127 0
theorem fldN_low {B P F a : Nat} (hB : B = P + F) (hP : 0 < P) (h : a < 2 ^ (B - 1)) : fldN B P F a = a / 2 ^ (P - 1) ∧ frcN B P a = a % 2 ^ (P - 1) := by
  have h2 : 2 ^ (B - 1) ≤ 2 ^ B := Nat.pow_le_pow_right (by decide) (by omega)
  unfold fldN frcN
  rw [if_pos (by omega), if_pos (by omega)]
  refine ⟨Nat.mod_eq_of_lt ?_, rfl⟩
  rw [Nat.div_lt_iff_lt_mul (Nat.two_pow_pos _), ← Nat.pow_add, show F + (P - 1) = B - 1 by omega]
  exact h
theorem fldU_low {f : Int} {a : Nat} (hf : 1 ≤ f ∧ f ≤ 4) (h : a < 2 ^ mU f) : fldU f a = a / 2 ^ (prU f - 1) ∧ frcU f a = a % 2 ^ (prU f - 1) := by
  rcases f_cases f with rfl | rfl | rfl | rfl | h0
  · exact fldN_low (B := 16) (P := 11) (F := 5) rfl (by decide) h
  · exact fldN_low (B := 32) (P := 24) (F := 8) rfl (by decide) h
  · exact fldN_low (B := 64) (P := 53) (F := 11) rfl (by decide) h
  · exact fldN_low (B := 128) (P := 113) (F := 15) rfl (by decide) h
  · omega
theorem absU_lt {f : Int} (a : Nat) (hf : 1 ≤ f ∧ f ≤ 4) : absU f a < 2 ^ mU f := by
  rcases f_cases f with rfl | rfl | rfl | rfl | h0
  · show absN 16 a < 2 ^ 15
    unfold absN; split
    · exact Nat.mod_lt _ (by decide)
    · decide
  · show absN 32 a < 2 ^ 31
    unfold absN; split
    · exact Nat.mod_lt _ (by decide)
    · decide
  · show absN 64 a < 2 ^ 63
    unfold absN; split
    · exact Nat.mod_lt _ (by decide)
    · decide
  · show absN 128 a < 2 ^ 127
    unfold absN; split
    · exact Nat.mod_lt _ (by decide)
    · decide
  · omega
theorem loU_le (f : Int) (a : Nat) : loU f ≤ expU f a := by unfold expU; split <;> omega
theorem vl_word {f : Int} {a : Nat} (hf : 1 ≤ f ∧ f ≤ 4) (h : a < 2 ^ mU f) : vl (sigU f a) (expU f a) (loU f) = valW (2 ^ (prU f - 1)) a := by
  obtain ⟨h1, h2⟩ := fldU_low hf h
  unfold vl sigU expU valW
  rw [h1, h2]
  by_cases h0 : a / 2 ^ (prU f - 1) = 0
  · rw [if_pos h0, if_pos h0, if_pos h0, show (loU f - loU f).toNat = 0 by omega, Nat.pow_zero, Nat.mul_one]
  · rw [if_neg h0, if_neg h0, if_neg h0, Nat.add_comm, show (loU f + (((a / 2 ^ (prU f - 1) : Nat) : Int) - 1) - loU f).toNat = a / 2 ^ (prU f - 1) - 1 by omega]

end Go.Proofs.YtpcjdllijkjdkaaGreatDoor

/- Numbers for the document's Find: the greatest word that isn't above a number, bit by bit. -/
set_option linter.unusedVariables false
set_option linter.unusedSimpArgs false
set_option maxRecDepth 8000
namespace Go.Proofs.YtpcjdllijkjdkaaGreatDoor
open Go.RowKit Plain

/-- What stands behind the bits from c on: out has no lower bit, is taken, and nothing from out + 2^c on is. -/
def FInv (p : Nat → Bool) (M c x : Nat) : Prop := x % 2 ^ c = 0 ∧ x < 2 ^ M ∧ p x = true ∧ ∀ y, x + 2 ^ c ≤ y → y < 2 ^ M → p y = false
theorem finv_fit {p : Nat → Bool} {M c x : Nat} (h : FInv p M (c + 1) x) (hc : c + 1 ≤ M) : x + 2 ^ c < 2 ^ M := by
  obtain ⟨h1, h2, -, -⟩ := h
  obtain ⟨k, hk⟩ := Nat.dvd_of_mod_eq_zero h1
  have e : 2 ^ M = 2 ^ (c + 1) * 2 ^ (M - (c + 1)) := by rw [← Nat.pow_add]; congr 1; omega
  rw [hk, e] at h2
  have h3 : k < 2 ^ (M - (c + 1)) := Nat.lt_of_mul_lt_mul_left h2
  have h4 : 2 ^ (c + 1) * (k + 1) ≤ 2 ^ (c + 1) * 2 ^ (M - (c + 1)) := Nat.mul_le_mul_left _ h3
  have h5 := Nat.two_pow_pos c
  rw [hk, e]
  rw [Nat.mul_succ] at h4
  rw [Nat.pow_succ] at h4 ⊢
  omega
theorem finv_take {p : Nat → Bool} {M c x : Nat} (h : FInv p M (c + 1) x) (hc : c + 1 ≤ M) (hp : p (x + 2 ^ c) = true) : FInv p M c (x + 2 ^ c) := by
  have hf := finv_fit h hc
  obtain ⟨h1, h2, h3, h4⟩ := h
  refine ⟨?_, hf, hp, fun y hy hm => h4 y ?_ hm⟩
  · obtain ⟨k, hk⟩ := Nat.dvd_of_mod_eq_zero h1
    rw [Nat.add_mod_right, hk, Nat.pow_succ, Nat.mul_assoc, Nat.mul_mod_right]
  · rw [Nat.pow_succ]
    omega
theorem finv_leave {p : Nat → Bool} {M c x : Nat} (h : FInv p M (c + 1) x) (hm : ∀ a b, a ≤ b → b < 2 ^ M → p b = true → p a = true) (hp : p (x + 2 ^ c) = false) : FInv p M c x := by
  obtain ⟨h1, h2, h3, h4⟩ := h
  refine ⟨?_, h2, h3, fun y hy hy2 => ?_⟩
  · obtain ⟨k, hk⟩ := Nat.dvd_of_mod_eq_zero h1
    rw [hk, Nat.pow_succ, Nat.mul_assoc, Nat.mul_mod_right]
  · cases hpy : p y
    · rfl
    · have := hm _ _ hy hy2 hpy
      rw [hp] at this
      cases this
theorem bitW_low {c x : Nat} (hc : c < 64) (h : x % 2 ^ (c + 1) = 0) : dgl (x + 2 ^ c) 0 = dgl x 0 + 2 ^ c ∧ dgl (x + 2 ^ c) 1 = dgl x 1 := by
  have e : (18446744073709551616 : Nat) = 2 ^ (c + 1) * 2 ^ (63 - c) := by rw [← Nat.pow_add, show c + 1 + (63 - c) = 64 by omega]
  have hp := Nat.two_pow_pos c
  have hm : x % 18446744073709551616 + 2 ^ c < 18446744073709551616 := by
    obtain ⟨k, hk⟩ := Nat.dvd_of_mod_eq_zero h
    have h1 : x % 18446744073709551616 = 2 ^ (c + 1) * (k % 2 ^ (63 - c)) := by rw [hk, e, Nat.mul_mod_mul_left]
    have h2 : k % 2 ^ (63 - c) < 2 ^ (63 - c) := Nat.mod_lt _ (Nat.two_pow_pos _)
    have h3 : 2 ^ (c + 1) * (k % 2 ^ (63 - c) + 1) ≤ 2 ^ (c + 1) * 2 ^ (63 - c) := Nat.mul_le_mul_left _ h2
    rw [← e, Nat.mul_succ, ← h1, Nat.pow_succ] at h3
    omega
  rw [dgl0, dgl0, dgl1, dgl1]
  generalize 2 ^ c = y at *
  omega
theorem bitW_high {c x : Nat} (hc : ¬ c < 64) (h : x + 2 ^ c < 2 ^ 128) : dgl (x + 2 ^ c) 1 = dgl x 1 + 2 ^ (c - 64) ∧ dgl (x + 2 ^ c) 0 = dgl x 0 := by
  have e : 2 ^ c = 18446744073709551616 * 2 ^ (c - 64) := frac_e c hc
  rw [e] at h ⊢
  rw [dgl0, dgl0, dgl1, dgl1]
  generalize 2 ^ (c - 64) = y at *
  omega
/-- Is a word finite, and not above a number? -/
def takeB (f : Int) (s : Nat) (z : Int) (x : Nat) : Bool := decide (4 ≤ clsU f x) && decide (sizeZ (sigU f x) (expU f x) s z ≤ 0)
theorem inf_low {B P F a : Nat} (hB : B = P + F) (hP : 0 < P) (h : a < 2 ^ (B - 1)) : 4 ≤ clsN B P F a ↔ a / 2 ^ (P - 1) + 2 ≤ 2 ^ F := by
  have h1 := (fldN_low hB hP h).1
  have h2 : 2 ^ (B - 1) ≤ 2 ^ B := Nat.pow_le_pow_right (by decide) (by omega)
  rw [← h1]
  exact ⟨fin_fldN, fun h3 => cls_finN (clsN_ne (by omega)) h3⟩
/-- Words below a finite one are finite. -/
theorem fin_down {f : Int} {a b : Nat} (hf : 1 ≤ f ∧ f ≤ 4) (h : a ≤ b) (hb : b < 2 ^ mU f) (hc : 4 ≤ clsU f b) : 4 ≤ clsU f a := by
  have ha : a < 2 ^ mU f := by omega
  have key : ∀ {P : Nat}, a / 2 ^ (P - 1) ≤ b / 2 ^ (P - 1) := fun {P} => Nat.div_le_div_right h
  rcases f_cases f with rfl | rfl | rfl | rfl | h0
  · have h1 := (inf_low (B := 16) (P := 11) (F := 5) rfl (by decide) hb).1 hc
    exact (inf_low (B := 16) (P := 11) (F := 5) rfl (by decide) ha).2 (by have := key (P := 11); omega)
  · have h1 := (inf_low (B := 32) (P := 24) (F := 8) rfl (by decide) hb).1 hc
    exact (inf_low (B := 32) (P := 24) (F := 8) rfl (by decide) ha).2 (by have := key (P := 24); omega)
  · have h1 := (inf_low (B := 64) (P := 53) (F := 11) rfl (by decide) hb).1 hc
    exact (inf_low (B := 64) (P := 53) (F := 11) rfl (by decide) ha).2 (by have := key (P := 53); omega)
  · have h1 := (inf_low (B := 128) (P := 113) (F := 15) rfl (by decide) hb).1 hc
    exact (inf_low (B := 128) (P := 113) (F := 15) rfl (by decide) ha).2 (by have := key (P := 113); omega)
  · omega
/-- Which of two is the lesser, whatever exponent both are brought to. -/
theorem sizeZ_le (a b : Nat) (ea eb m : Int) (h1 : m ≤ ea) (h2 : m ≤ eb) : sizeZ a ea b eb ≤ 0 ↔ vl a ea m ≤ vl b eb m := by
  have h := sizeZ_spec a b ea eb m h1 h2
  constructor
  · intro h3
    rcases Int.lt_or_eq_of_le h3 with h4 | h4
    · exact Nat.le_of_lt (h.1.1 h4)
    · exact Nat.le_of_eq (h.2.1 h4)
  · intro h3
    rcases Nat.lt_or_eq_of_le h3 with h4 | h4
    · exact Int.le_of_lt (h.1.2 h4)
    · exact Int.le_of_eq (h.2.2 h4)
theorem takeB_mono {f : Int} (hf : 1 ≤ f ∧ f ≤ 4) (s : Nat) (z : Int) (a b : Nat) (h : a ≤ b) (hb : b < 2 ^ mU f) (ht : takeB f s z b = true) : takeB f s z a = true := by
  unfold takeB at ht ⊢
  rw [Bool.and_eq_true, decide_eq_true_iff, decide_eq_true_iff] at ht ⊢
  refine ⟨fin_down hf h hb ht.1, ?_⟩
  have la := loU_le f a
  have lb := loU_le f b
  have h1 := (sizeZ_le _ _ _ _ (min (loU f) z) (by omega) (by omega)).1 ht.2
  refine (sizeZ_le _ _ _ _ (min (loU f) z) (by omega) (by omega)).2 (Nat.le_trans ?_ h1)
  rw [vl_up (m := loU f) (k := min (loU f) z) (by omega) la, vl_up (m := loU f) (k := min (loU f) z) (by omega) lb, vl_word hf (by omega), vl_word hf hb]
  refine Nat.mul_le_mul_right _ ?_
  rcases Nat.lt_or_eq_of_le h with h2 | h2
  · exact Nat.le_of_lt (valW_lt (Nat.two_pow_pos _) h2)
  · rw [h2]; exact Nat.le_refl _

end Go.Proofs.YtpcjdllijkjdkaaGreatDoor

/- Contracts: the document's Find: the greatest word that isn't above a number. -/
set_option linter.unusedVariables false
set_option linter.unusedSimpArgs false
set_option maxRecDepth 8000
namespace Go.Proofs.YtpcjdllijkjdkaaGreatDoor
open Go.RowKit Plain

theorem finv_ex {p : Nat → Bool} {M : Nat} (hm : ∀ a b, a ≤ b → b < 2 ^ M → p b = true → p a = true) (h0 : p 0 = true) (c : Nat) (hc : c ≤ M) : ∃ x, FInv p M (M - c) x := by
  induction c with
  | zero => exact ⟨0, Nat.zero_mod _, Nat.two_pow_pos _, h0, fun y h1 h2 => by rw [Nat.sub_zero] at h1; omega⟩
  | succ c ih =>
    obtain ⟨x, hx⟩ := ih (by omega)
    rw [show M - c = M - (c + 1) + 1 by omega] at hx
    cases hp : p (x + 2 ^ (M - (c + 1)))
    · exact ⟨x, finv_leave hx hm hp⟩
    · exact ⟨_, finv_take hx (by omega) hp⟩
theorem finv_uniq {p : Nat → Bool} {M x y : Nat} (hx : FInv p M 0 x) (hy : FInv p M 0 y) : x = y := by
  obtain ⟨-, x2, x3, x4⟩ := hx
  obtain ⟨-, y2, y3, y4⟩ := hy
  rcases Nat.lt_trichotomy x y with h | h | h
  · have := x4 y (by rw [Nat.pow_zero]; omega) y2
    rw [y3] at this; cases this
  · exact h
  · have := y4 x (by rw [Nat.pow_zero]; omega) x2
    rw [x3] at this; cases this
theorem bits_u (f : Int) (h : 1 ≤ f ∧ f ≤ 4) (w : World) : Calls Tryz.prog 33 #[.int .i64 f] w fun e w' => e = .returned (.int .i64 ((mU f : Nat) + 1 : Int)) ∧ w' = w := by
  rcases f_cases f with rfl | rfl | rfl | rfl | h0
  · exact bits_1 w
  · exact bits_2 w
  · exact bits_3 w
  · exact bits_4 w
  · omega
theorem mU_le (f : Int) : mU f ≤ 127 := by
  unfold mU tU
  repeat' split
  all_goals decide
structure FdSt (neg : Bool) (z : Int) (s : Nat) (ao : Option Addr) (l ca : Nat) (x : Nat) (w W : World) : Prop where
  bg : BigV w (.slice ao l ca) s 40
  n0 : W.cell? ⟨w.heap.size, 0, none⟩ = some (.bool neg)
  n1 : W.cell? ⟨w.heap.size, 1, none⟩ = some (.slice ao l ca)
  n2 : W.cell? ⟨w.heap.size, 2, none⟩ = some (.int .i64 z)
  r : WB W (w.heap.size + 1) 0 0
  fr : ∀ i, W.frozen? ⟨w.heap.size + 1, i, none⟩ = false
  o : WB W (w.heap.size + 2) (dgl x 1) (dgl x 0)
  fo : ∀ i, W.frozen? ⟨w.heap.size + 2, i, none⟩ = false
  bel : Below w.heap.size w W
section
variable {neg : Bool} {z : Int} {s : Nat} {ao : Option Addr} {l ca x : Nat} {w W W' : World}
theorem FdSt.under (h : FdSt neg z s ao l ca (x) w W) {C : Nat} (hb : Below C W W') (hc : w.heap.size + 2 < C) : FdSt neg z s ao l ca (x) w W' := by
  have h0 : w.heap.size < C := by omega
  have h1 : w.heap.size + 1 < C := by omega
  exact ⟨h.bg, (hb.cell (p := ⟨w.heap.size, 0, none⟩) h0).trans h.n0, (hb.cell (p := ⟨w.heap.size, 1, none⟩) h0).trans h.n1, (hb.cell (p := ⟨w.heap.size, 2, none⟩) h0).trans h.n2,
    ⟨(hb.cell (p := ⟨w.heap.size + 1, 0, none⟩) h1).trans h.r.h, (hb.cell (p := ⟨w.heap.size + 1, 1, none⟩) h1).trans h.r.l, Nat.lt_of_lt_of_le h.r.lt hb.size⟩, fun i => (hb.frozen (p := ⟨w.heap.size + 1, i, none⟩) h1).trans (h.fr i),
    ⟨(hb.cell (p := ⟨w.heap.size + 2, 0, none⟩) hc).trans h.o.h, (hb.cell (p := ⟨w.heap.size + 2, 1, none⟩) hc).trans h.o.l, Nat.lt_of_lt_of_le h.o.lt hb.size⟩, fun i => (hb.frozen (p := ⟨w.heap.size + 2, i, none⟩) hc).trans (h.fo i), h.bel.trans (hb.mono (by omega))⟩
theorem FdSt.below (h : FdSt neg z s ao l ca (x) w W) (hb : Below W.heap.size W W') : FdSt neg z s ao l ca (x) w W' := h.under hb h.o.lt
theorem FdSt.num (h : FdSt neg z s ao l ca (x) w W) : NumV W (.agg #[.bool neg, .slice ao l ca, .int .i64 z]) neg z s 40 := ⟨_, rfl, h.bg.below h.bel⟩
theorem FdSt.set (h : FdSt neg z s ao l ca (x) w W) (y : Nat) : FdSt neg z s ao l ca (y) w ((W.setCell ⟨w.heap.size + 2, 0, none⟩ (.int .u64 (dgl y 1 : Nat))).setCell ⟨w.heap.size + 2, 1, none⟩ (.int .u64 (dgl y 0 : Nat))) := by
  have h0 := h.n0
  have h1 := h.n1
  have h2 := h.n2
  have hr0 := h.r.h
  have hr1 := h.r.l
  have hrl := h.r.lt
  have hb := ((Below.refl (w.heap.size + 2) W).setCell (p := ⟨w.heap.size + 2, 0, none⟩) (Nat.le_refl _) (.int .u64 (dgl y 1 : Nat))).setCell (p := ⟨w.heap.size + 2, 1, none⟩) (Nat.le_refl _) (.int .u64 (dgl y 0 : Nat))
  exact ⟨h.bg, (hb.cell (p := ⟨w.heap.size, 0, none⟩) (show w.heap.size < _ by omega)).trans h0, (hb.cell (p := ⟨w.heap.size, 1, none⟩) (show w.heap.size < _ by omega)).trans h1, (hb.cell (p := ⟨w.heap.size, 2, none⟩) (show w.heap.size < _ by omega)).trans h2,
    ⟨(hb.cell (p := ⟨w.heap.size + 1, 0, none⟩) (show w.heap.size + 1 < _ by omega)).trans hr0, (hb.cell (p := ⟨w.heap.size + 1, 1, none⟩) (show w.heap.size + 1 < _ by omega)).trans hr1, Nat.lt_of_lt_of_le hrl hb.size⟩, fun i => (hb.frozen (p := ⟨w.heap.size + 1, i, none⟩) (show w.heap.size + 1 < _ by omega)).trans (h.fr i),
    wb_set h.o, fun i => by simpa [go_sem] using h.fo i, h.bel.trans (hb.mono (by omega))⟩
end
theorem wb_new2 (w : World) (x y : Nat) (e : TypeId) : WB (w.alloc (.cells #[.int .u64 (x : Nat), .int .u64 (y : Nat)] e)) w.heap.size x y :=
  ⟨by simp [go_sem], by simp [go_sem], by simp⟩
theorem fdSt_start (neg : Bool) (z : Int) (s : Nat) (ao : Option Addr) (l ca : Nat) (w : World) (hb : BigV w (.slice ao l ca) s 40) (e1 e2 e3 : TypeId) :
    FdSt neg z s ao l ca 0 w (((w.alloc (.cells #[.bool neg, .slice ao l ca, .int .i64 z] e1)).alloc (.cells #[.int .u64 0, .int .u64 0] e2)).alloc (.cells #[.int .u64 0, .int .u64 0] e3)) := by
  have h2 := wb_new ((w.alloc (.cells #[.bool neg, .slice ao l ca, .int .i64 z] e1)).alloc (.cells #[.int .u64 0, .int .u64 0] e2)) e3
  rw [World.size_alloc, World.size_alloc] at h2
  exact ⟨hb, by simp [go_sem], by simp [go_sem], by simp [go_sem], ⟨by simp [go_sem], by simp [go_sem], by simp⟩, fun i => by simp [go_sem], by rw [dgl_zero, dgl_zero]; exact h2, fun i => by simp [go_sem], below_trans (below_trans (below_allocs _ _) (below_allocs _ _)) (below_allocs _ _)⟩
theorem find_y {k M x : Nat} {p : Nat → Bool} (h : FInv p M (k + 1) x) (hk : k + 1 ≤ M) (hM : M ≤ 127) : x < 2 ^ 128 ∧ x + 2 ^ k < 2 ^ 128 := by
  have h1 := finv_fit h hk
  have h2 : 2 ^ M ≤ 2 ^ 127 := Nat.pow_le_pow_right (by decide) hM
  have h3 := h.2.1
  omega
theorem add_bit {a e : Nat} {b : Nat} (he : e < 64) (h : b = a + 2 ^ e) (hb : b < 18446744073709551616) : IntKind.u64.wrap ((a : Int) + (2 : Int) ^ e) = ((b : Nat) : Int) := by
  rw [pow_int]
  rw [IntKind.wrap_u64]
  omega
theorem sz_bd (f : Int) (a : Nat) : -100000000 ≤ expU f a ∧ expU f a ≤ 100000000 := by
  have h1 := loU_bd f
  have h2 := fldU_le f a
  unfold expU
  split <;> omega
theorem wb_seth {W : World} {p : Nat} {x y : Nat} (h : WB W p (dgl x 1) (dgl x 0)) (ho : dgl y 0 = dgl x 0) : WB (W.setCell ⟨p, 0, none⟩ (.int .u64 (dgl y 1 : Nat))) p (dgl y 1) (dgl y 0) := by
  have h1 := h.h
  have h2 := h.l
  have h3 := h.lt
  exact ⟨by simp [go_sem, h1], by simp [go_sem, h2, ho], by simpa [go_sem] using h3⟩
theorem wb_setl {W : World} {p : Nat} {x y : Nat} (h : WB W p (dgl x 1) (dgl x 0)) (ho : dgl y 1 = dgl x 1) : WB (W.setCell ⟨p, 1, none⟩ (.int .u64 (dgl y 0 : Nat))) p (dgl y 1) (dgl y 0) := by
  have h1 := h.h
  have h2 := h.l
  have h3 := h.lt
  exact ⟨by simp [go_sem, h1, ho], by simp [go_sem, h2], by simpa [go_sem] using h3⟩

set_option maxHeartbeats 8000000 in
theorem find_any (f : Int) (hf : 1 ≤ f ∧ f ≤ 4) (neg : Bool) (z : Int) (s X : Nat) (u : Value) (hs : s < QQ) (hz : -100000000 ≤ z ∧ z ≤ 100000000) (hX : FInv (takeB f s z) (mU f) 0 X) (w : World) (hu : NumV w u neg z s 40) :
    Calls Tryz.prog 40 #[.int .i64 f, u] w fun e w' => e = .returned (.agg #[.int .u64 (dgl (X) 1 : Nat), .int .u64 (dgl (X) 0 : Nat)]) ∧ Below w.heap.size w w' := by
  obtain ⟨u, rfl, hu⟩ := hu
  obtain ⟨ao, l, ca, rfl⟩ := hu.slice
  have HS0 := hide (fdSt_start neg z s ao l ca w hu 73 29 29)
  have HXX := hide hX
  have HMO := hide (takeB_mono hf s z)
  have HI0 : Hid (FInv (takeB f s z) (mU f) (mU f) 0) := ⟨Nat.zero_mod _, Nat.two_pow_pos _, HMO.out 0 X (Nat.zero_le _) hX.2.1 hX.2.2.1, fun y h1 h2 => by omega⟩
  have HBT := hide (bits_u f hf)
  have HF := hide hf
  have HS := hide hs
  have HZ := hide hz
  have hm7 := mU_le f
  clear hu hX hs hz hf
  go_enter Tryz.func40, Tryz.ntmps40
  go_wp2_with fail
  refine (HBT.out _).mono ?_
  rintro e wb ⟨rfl, hwb⟩
  subst wb
  have hw0 : IntKind.i64.wrap (((mU f : Nat) : Int) + 1 - 2) = ((mU f : Nat) : Int) - 1 := by rw [IntKind.wrap_i64]; omega
  go_wp2
  go_loopw [6] (fun i wr => ∃ (x c : Nat) (zi : Int), c ≤ mU f ∧ Hid (zi = (c : Int) - 1) ∧ i = .int .i64 zi ∧ Hid (FInv (takeB f s z) (mU f) c x) ∧ Hid (FdSt neg z s ao l ca x w wr))
    (fun i _ => (intOf i + 1).toNat)
  case atStart => exact ⟨0, mU f, _, Nat.le_refl _, hide rfl, rfl, HI0, HS0⟩
  case round =>
    obtain ⟨x, c, zi, hc, hzi, rfl, HI, hst⟩ := hrel
    by_cases hz0 : 0 ≤ zi
    · obtain ⟨k, rfl⟩ : ∃ k : Nat, zi = (k : Int) := ⟨zi.toNat, by omega⟩
      obtain rfl : c = k + 1 := by have := hzi.out; omega
      have hk : k + 1 ≤ mU f := hc
      clear hzi hc HI0
      have hy := find_y HI.out hk (mU_le f)
      have hk7 : k < 127 := by have := mU_le f; omega
      have HX := hide hy.1
      obtain ⟨y, hye⟩ : ∃ y, x + 2 ^ k = y := ⟨_, rfl⟩
      have HY := hide (show y < 2 ^ 128 by rw [← hye]; exact hy.2)
      have HYE := hide hye
      clear hy hye
      have r0 := hst.out.o.h
      have r1 := hst.out.o.l
      have rl := hst.out.o.lt
      by_cases h64 : (64 : Int) ≤ (k : Int)
      · go_upto_region 7 with fail
        refine wp_gen (fun W => FdSt neg z s ao l ca (x) w W ∧ WB W wr.heap.size (dgl x 1) (dgl x 0) ∧ ∀ i, W.frozen? ⟨wr.heap.size, i, none⟩ = false) ⟨hst.out.below (below_allocs _ _), wb_new2 _ _ _ _, fun i => by simp [go_sem]⟩ ?_
        have HP7 := hide (show w.heap.size + 2 + 1 ≤ wr.heap.size by omega)
        clear hst r0 r1 rl HS0
        generalize wr.heap.size = p7 at *
        rintro W7 h7
        obtain ⟨e, he⟩ : ∃ e : Nat, k = e + 64 := ⟨k - 64, by omega⟩
        have HE := hide he
        have he6 : e < 64 := by omega
        have HB := hide (bitW_high (c := k) (x := x) (by omega) (by rw [HYE.out]; exact HY.out))
        rw [HYE.out, show k - 64 = e by omega] at HB
        clear he
        have HSH := hide (shl_wrap7 (e := e) he6)
        have HAD := hide (add_bit (a := dgl x 1) (e := e) (b := dgl y 1) he6 HB.out.1 (dgl_lt _ _))
        have HOT := hide HB.out.2
        clear HB
        refine wp_region_grow 7 [(19, .val (.pointer (some ⟨p7, 0, none⟩))), (20, .val (.int .u64 (dgl x 1 : Nat))), (21, .val (.int .i64 (k : Int))), (22, .val (.int .i64 ((e : Nat) : Int))), (23, .val (.int .u64 ((2 : Int) ^ e))), (24, .val (.int .u64 (dgl y 1 : Nat))), (25, .val (.pointer (some ⟨p7, 0, none⟩)))]
          (fun W => FdSt neg z s ao l ca (x) w W ∧ WB W p7 (dgl x 1) (dgl x 0) ∧ ∀ i, W.frozen? ⟨p7, i, none⟩ = false) mixedOk (by kernel_rfl) (by kernel_rfl) (⟨h7.1.below (Below.refl _ _).drew, h7.2.1.below (Below.refl _ _).drew, fun i => ((Below.refl _ _).drew.frozen (p := ⟨p7, i, none⟩) h7.2.1.lt).trans (h7.2.2 i)⟩) (fun W W' h hb => ⟨h.1.below hb, h.2.1.below hb, fun i => (hb.frozen (p := ⟨p7, i, none⟩) h.2.1.lt).trans (h.2.2 i)⟩) ?_ ?_
        · refine gSt (gStep_run rfl ?_) ?_
          · intro ρ W hC hc hf hL
            have e7 : ρ (.tmp 7) = .pointer (some ⟨p7, 0, none⟩) := hL 7 (by decide +kernel)
            simp [go_sem, hc, hf, e7]
            exact ⟨Below.refl _ _, rfl⟩
          refine gSt (gStep_run rfl ?_) ?_
          · intro ρ W hC hc hf hL
            have e19 : ρ (.tmp 19) = .pointer (some ⟨p7, 0, none⟩) := hL 19 (by decide +kernel)
            have l0 := hC.2.1.h
            simp [go_sem, hc, hf, e19, l0]
            exact ⟨Below.refl _ _, rfl⟩
          refine gSt (gStep_run rfl (gRun_move 6 21 (.inl rfl) rfl (by decide +kernel) (fun v w h => h))) ?_
          refine gSt (gStep_run rfl ?_) ?_
          · intro ρ W hC hc hf hL
            have e21 : ρ (.tmp 21) = .int .i64 (k : Int) := hL 21 (by decide +kernel)
            have l0 : IntKind.i64.wrap ((k : Int) - 64) = (e : Int) := by rw [IntKind.wrap_i64]; have := HE.out; omega
            simp [go_sem, hc, hf, e21, l0]
            exact ⟨Below.refl _ _, rfl⟩
          refine gSt (gStep_run rfl ?_) ?_
          · intro ρ W hC hc hf hL
            have e22 : ρ (.tmp 22) = .int .i64 ((e : Nat) : Int) := hL 22 (by decide +kernel)
            have l0 := HSH.out
            have h0 : (0 : Int) ≤ (e : Int) := by omega
            have h6 : (e : Int) < 64 := by omega
            simp [go_sem, hc, hf, e22, l0, h0, h6]
            exact ⟨Below.refl _ _, rfl⟩
          refine gSt (gStep_run rfl ?_) ?_
          · intro ρ W hC hc hf hL
            have e20 : ρ (.tmp 20) = .int .u64 (dgl x 1 : Nat) := hL 20 (by decide +kernel)
            have e23 : ρ (.tmp 23) = .int .u64 ((2 : Int) ^ e) := hL 23 (by decide +kernel)
            have l0 := HAD.out
            simp [go_sem, hc, hf, e20, e23, l0]
            exact ⟨Below.refl _ _, rfl⟩
          refine gSt (gStep_run rfl ?_) ?_
          · intro ρ W hC hc hf hL
            have e7 : ρ (.tmp 7) = .pointer (some ⟨p7, 0, none⟩) := hL 7 (by decide +kernel)
            simp [go_sem, hc, hf, e7]
            exact ⟨Below.refl _ _, rfl⟩
          exact gSt0
        · intro W hC
          refine gFi 19 rfl ?_
          rintro _ rfl
          refine gFi 20 rfl ?_
          rintro _ rfl
          refine gFi 21 rfl ?_
          rintro _ rfl
          refine gFi 22 rfl ?_
          rintro _ rfl
          refine gFi 23 rfl ?_
          rintro _ rfl
          refine gFi 24 rfl ?_
          rintro _ rfl
          refine gFi 25 rfl ?_
          rintro _ rfl
          refine gFi0 ?_
          simp only [List.drop_succ_cons, List.drop_zero, Act.put, List.setIfInBounds_toArray, List.set_cons_succ, List.set_cons_zero]
          have l0 := hC.2.1.h
          have hf7 := hC.2.2
          have hl7 := hC.2.1.lt
          have HS2 := hide (show FdSt neg z s ao l ca (x) w (W.setCell ⟨p7, 0, none⟩ (.int .u64 (dgl y 1 : Nat))) ∧ WB (W.setCell ⟨p7, 0, none⟩ (.int .u64 (dgl y 1 : Nat))) p7 (dgl y 1) (dgl y 0) from
            ⟨hC.1.under ((Below.refl (w.heap.size + 2 + 1) W).setCell (p := ⟨p7, 0, none⟩) HP7.out _) (by omega), wb_seth hC.2.1 HOT.out⟩)
          clear hC h7
          go_upto_region 9 with fail
          refine wp_gen (fun W => FdSt neg z s ao l ca (x) w W ∧ WB W p7 (dgl y 1) (dgl y 0)) HS2.out ?_
          clear HS2 l0 hf7 hl7
          rintro W9 h9
          have HCL := hide (fun w => refCls_u f y HY.out w)
          by_cases hc4 : 4 ≤ clsU f y
          · have HVA := hide (fun w => rval_any f y HY.out (by omega) w)
            have HOF := hide (fun w => refOf7_any (negU f y) (expU f y) (sigU f y) (sigU_qq f y HF.out) w)
            have HSZ := hide (fun u w hu hv => refSize_any (negU f y) neg (sigU f y) s (expU f y) z u (.agg #[.bool neg, .slice ao l ca, .int .i64 z]) w hu hv (sigU_qq f y HF.out) HS.out (sz_bd f y) HZ.out)
            have hc5 : (4 : Int) ≤ ((clsU f y : Nat) : Int) := by omega
            have HTB := hide (show takeB f s z y = decide (sizeZ (sigU f y) (expU f y) s z ≤ 0) by unfold takeB; rw [decide_eq_true hc4, Bool.true_and])
            have HTK : Hid (takeB f s z y = true → FInv (takeB f s z) (mU f) k y) := fun h => by rw [← HYE.out] at h ⊢; exact finv_take HI.out (by omega) h
            have HLV : Hid (takeB f s z y = false → FInv (takeB f s z) (mU f) k x) := fun h => by rw [← HYE.out] at h; exact finv_leave HI.out HMO.out h
            generalize sizeZ (sigU f y) (expU f y) s z = sz at *
            generalize negU f y = ng at *
            generalize sigU f y = sg at *
            generalize expU f y = ex at *
            generalize clsU f y = cl at *
            by_cases hsz : sz ≤ 0
            · replace HTK := hide (HTK.out (HTB.out.trans (decide_eq_true hsz)))
              have hsz2 : decide (sz ≤ 0) = true := decide_eq_true hsz
              have HPY : Hid (y = y) := rfl
              clear HLV HTB
              refine wp_region_grow 13 [(32, .val (.int .i64 f)), (33, .val (.agg #[.int .u64 (dgl (y) 1 : Nat), .int .u64 (dgl (y) 0 : Nat)])), (34, .val (.int .i64 ((cl : Nat) : Int))), (35, .val (.bool true)), (36, .val (.bool true)), (37, .val (.int .i64 f)), (38, .val (.agg #[.int .u64 (dgl (y) 1 : Nat), .int .u64 (dgl (y) 0 : Nat)])), (39, .val (.agg #[.bool (ng), .int .i64 (ex), .int .u64 (dgl (sg) 0 : Nat), .int .u64 (dgl (sg) 1 : Nat), .int .u64 (dgl (sg) 2 : Nat), .int .u64 (dgl (sg) 3 : Nat), .int .u64 (dgl (sg) 4 : Nat), .int .u64 (dgl (sg) 5 : Nat), .int .u64 (dgl (sg) 6 : Nat), .int .u64 (dgl (sg) 7 : Nat)])), (40, .num ng ex sg 40), (41, .val (.agg #[.bool neg, .slice ao l ca, .int .i64 z])), (42, .val (.int .i64 sz)), (43, .val (.bool true)), (44, .val (.bool true))]
                (fun W => FdSt neg z s ao l ca (x) w W ∧ WB W p7 (dgl y 1) (dgl y 0)) mixedOk (by kernel_rfl) (by kernel_rfl) (⟨h9.1.below (Below.refl _ _).drew, h9.2.below (Below.refl _ _).drew⟩) (fun W W' h hb => ⟨h.1.below hb, h.2.below hb⟩) ?_ ?_
              · refine gSt (gStep_run rfl (gRun_move 0 32 (.inl rfl) rfl (by decide +kernel) (fun v w h => h))) ?_
                refine gSt (gStep_run rfl ?_) ?_
                · intro ρ W hC hc hf hL
                  have e7 : ρ (.tmp 7) = .pointer (some ⟨p7, 0, none⟩) := hL 7 (by decide +kernel)
                  have l0 := hC.2.h
                  have l1 := hC.2.l
                  simp [go_sem, hc, hf, e7, l0, l1]
                  exact ⟨Below.refl _ _, rfl⟩
                refine gSt (gStep_run rfl ?_) ?_
                · intro ρ W hC hc hf hL
                  have e32 : ρ (.tmp 32) = .int .i64 f := hL 32 (by decide +kernel)
                  have e33 : ρ (.tmp 33) = .agg #[.int .u64 (dgl (y) 1 : Nat), .int .u64 (dgl (y) 0 : Nat)] := hL 33 (by decide +kernel)
                  simp [go_sem, hc, hf, e32, e33]
                  refine (HCL.out W).mono ?_
                  rintro e w' ⟨rfl, hb⟩
                  exact ⟨_, rfl, by first | exact hb | (subst hb; exact Below.refl _ _), rfl⟩
                refine gSt (gStep_run rfl ?_) ?_
                · intro ρ W hC hc hf hL
                  have e34 : ρ (.tmp 34) = .int .i64 ((cl : Nat) : Int) := hL 34 (by decide +kernel)
                  simp [go_sem, hc, hf, e34, hc4, hc5]
                  exact ⟨Below.refl _ _, rfl⟩
                refine gSt (gStep_run rfl (gRun_move 35 36 (.inl rfl) rfl (by decide +kernel) (fun v w h => h))) ?_
                refine gSt (gStep_on 4 36 true rfl rfl (by decide +kernel) (fun v w h => h) (gRun_move 0 37 (.inl rfl) rfl (by decide +kernel) (fun v w h => h))) ?_
                refine gSt (gStep_on 4 36 true rfl rfl (by decide +kernel) (fun v w h => h) ?_) ?_
                · intro ρ W hC hc hf hL
                  have e7 : ρ (.tmp 7) = .pointer (some ⟨p7, 0, none⟩) := hL 7 (by decide +kernel)
                  have l0 := hC.2.h
                  have l1 := hC.2.l
                  simp [go_sem, hc, hf, e7, l0, l1]
                  exact ⟨Below.refl _ _, rfl⟩
                refine gSt (gStep_on 4 36 true rfl rfl (by decide +kernel) (fun v w h => h) ?_) ?_
                · intro ρ W hC hc hf hL
                  have e37 : ρ (.tmp 37) = .int .i64 f := hL 37 (by decide +kernel)
                  have e38 : ρ (.tmp 38) = .agg #[.int .u64 (dgl (y) 1 : Nat), .int .u64 (dgl (y) 0 : Nat)] := hL 38 (by decide +kernel)
                  simp [go_sem, hc, hf, e37, e38]
                  refine (HVA.out W).mono ?_
                  rintro e w' ⟨rfl, hb⟩
                  exact ⟨_, rfl, by first | exact hb | (subst hb; exact Below.refl _ _), rfl⟩
                refine gSt (gStep_on 4 36 true rfl rfl (by decide +kernel) (fun v w h => h) ?_) ?_
                · intro ρ W hC hc hf hL
                  have e39 : ρ (.tmp 39) = .agg #[.bool (ng), .int .i64 (ex), .int .u64 (dgl (sg) 0 : Nat), .int .u64 (dgl (sg) 1 : Nat), .int .u64 (dgl (sg) 2 : Nat), .int .u64 (dgl (sg) 3 : Nat), .int .u64 (dgl (sg) 4 : Nat), .int .u64 (dgl (sg) 5 : Nat), .int .u64 (dgl (sg) 6 : Nat), .int .u64 (dgl (sg) 7 : Nat)] := hL 39 (by decide +kernel)
                  simp [go_sem, hc, hf, e39]
                  refine (HOF.out W).mono ?_
                  rintro e w' ⟨v, rfl, hv, hb⟩
                  exact ⟨_, rfl, hb, hv⟩
                refine gSt (gStep_on 4 36 true rfl rfl (by decide +kernel) (fun v w h => h) ?_) ?_
                · intro ρ W hC hc hf hL
                  have e3 : ρ (.tmp 3) = .pointer (some ⟨w.heap.size, 0, none⟩) := hL 3 (by decide +kernel)
                  have l0 := hC.1.n0
                  have l1 := hC.1.n1
                  have l2 := hC.1.n2
                  simp [go_sem, hc, hf, e3, l0, l1, l2]
                  exact ⟨Below.refl _ _, rfl⟩
                refine gSt (gStep_on 4 36 true rfl rfl (by decide +kernel) (fun v w h => h) ?_) ?_
                · intro ρ W hC hc hf hL
                  have b40 := hL 40 (by decide +kernel)
                  have e41 : ρ (.tmp 41) = .agg #[.bool neg, .slice ao l ca, .int .i64 z] := hL 41 (by decide +kernel)
                  simp [go_sem, hc, hf, e41]
                  refine (HSZ.out _ W b40 hC.1.num).mono ?_
                  rintro e w' ⟨rfl, hb⟩
                  exact ⟨_, rfl, by first | exact hb | (subst hb; exact Below.refl _ _), rfl⟩
                refine gSt (gStep_on 4 36 true rfl rfl (by decide +kernel) (fun v w h => h) ?_) ?_
                · intro ρ W hC hc hf hL
                  have e42 : ρ (.tmp 42) = .int .i64 sz := hL 42 (by decide +kernel)
                  simp [go_sem, hc, hf, e42, hsz, hsz2]
                  exact ⟨Below.refl _ _, rfl⟩
                refine gSt (gStep_run rfl (gRun_pickT 36 43 44 _ rfl rfl (by decide +kernel) (by decide +kernel) (fun v w h => h) (fun v w h => h))) ?_
                exact gSt0
              · intro W hC
                refine gFi 32 rfl ?_
                rintro _ rfl
                refine gFi 33 rfl ?_
                rintro _ rfl
                refine gFi 34 rfl ?_
                rintro _ rfl
                refine gFi 35 rfl ?_
                rintro _ rfl
                refine gFi 36 rfl ?_
                rintro _ rfl
                refine gFi 37 rfl ?_
                rintro _ rfl
                refine gFi 38 rfl ?_
                rintro _ rfl
                refine gFi 39 rfl ?_
                rintro _ rfl
                refine gFi 40 rfl ?_
                rintro u40 b40
                refine gFi 41 rfl ?_
                rintro _ rfl
                refine gFi 42 rfl ?_
                rintro _ rfl
                refine gFi 43 rfl ?_
                rintro _ rfl
                refine gFi 44 rfl ?_
                rintro _ rfl
                refine gFi0 ?_
                simp only [List.drop_succ_cons, List.drop_zero, Act.put, List.setIfInBounds_toArray, List.set_cons_succ, List.set_cons_zero]
                have l0 := hC.2.h
                have l1 := hC.2.l
                have r0 := hC.1.o.h
                have r1 := hC.1.o.l
                have rf := hC.1.fo
                have rl := hC.1.o.lt
                have HS3 := hide hC.1
                clear hC h9
                have hw : IntKind.i64.wrap ((k : Int) - 1) = (k : Int) - 1 := by rw [IntKind.wrap_i64]; omega
                go_wp2
                go_roundw
                case rel => exact ⟨y, k, (k : Int) - 1, by omega, hide rfl, rfl, hide (HTK.out), by rw [HPY.out]; exact HS3.out.set y⟩
                case measure => first | (simp [intOf]; done) | (simp [intOf]; omega)
            · replace HLV := hide (HLV.out (HTB.out.trans (decide_eq_false hsz)))
              have hsz2 : decide (sz ≤ 0) = false := decide_eq_false hsz
              clear HTK HTB
              refine wp_region_grow 13 [(32, .val (.int .i64 f)), (33, .val (.agg #[.int .u64 (dgl (y) 1 : Nat), .int .u64 (dgl (y) 0 : Nat)])), (34, .val (.int .i64 ((cl : Nat) : Int))), (35, .val (.bool true)), (36, .val (.bool true)), (37, .val (.int .i64 f)), (38, .val (.agg #[.int .u64 (dgl (y) 1 : Nat), .int .u64 (dgl (y) 0 : Nat)])), (39, .val (.agg #[.bool (ng), .int .i64 (ex), .int .u64 (dgl (sg) 0 : Nat), .int .u64 (dgl (sg) 1 : Nat), .int .u64 (dgl (sg) 2 : Nat), .int .u64 (dgl (sg) 3 : Nat), .int .u64 (dgl (sg) 4 : Nat), .int .u64 (dgl (sg) 5 : Nat), .int .u64 (dgl (sg) 6 : Nat), .int .u64 (dgl (sg) 7 : Nat)])), (40, .num ng ex sg 40), (41, .val (.agg #[.bool neg, .slice ao l ca, .int .i64 z])), (42, .val (.int .i64 sz)), (43, .val (.bool false)), (44, .val (.bool false))]
                (fun W => FdSt neg z s ao l ca (x) w W ∧ WB W p7 (dgl y 1) (dgl y 0)) mixedOk (by kernel_rfl) (by kernel_rfl) (⟨h9.1.below (Below.refl _ _).drew, h9.2.below (Below.refl _ _).drew⟩) (fun W W' h hb => ⟨h.1.below hb, h.2.below hb⟩) ?_ ?_
              · refine gSt (gStep_run rfl (gRun_move 0 32 (.inl rfl) rfl (by decide +kernel) (fun v w h => h))) ?_
                refine gSt (gStep_run rfl ?_) ?_
                · intro ρ W hC hc hf hL
                  have e7 : ρ (.tmp 7) = .pointer (some ⟨p7, 0, none⟩) := hL 7 (by decide +kernel)
                  have l0 := hC.2.h
                  have l1 := hC.2.l
                  simp [go_sem, hc, hf, e7, l0, l1]
                  exact ⟨Below.refl _ _, rfl⟩
                refine gSt (gStep_run rfl ?_) ?_
                · intro ρ W hC hc hf hL
                  have e32 : ρ (.tmp 32) = .int .i64 f := hL 32 (by decide +kernel)
                  have e33 : ρ (.tmp 33) = .agg #[.int .u64 (dgl (y) 1 : Nat), .int .u64 (dgl (y) 0 : Nat)] := hL 33 (by decide +kernel)
                  simp [go_sem, hc, hf, e32, e33]
                  refine (HCL.out W).mono ?_
                  rintro e w' ⟨rfl, hb⟩
                  exact ⟨_, rfl, by first | exact hb | (subst hb; exact Below.refl _ _), rfl⟩
                refine gSt (gStep_run rfl ?_) ?_
                · intro ρ W hC hc hf hL
                  have e34 : ρ (.tmp 34) = .int .i64 ((cl : Nat) : Int) := hL 34 (by decide +kernel)
                  simp [go_sem, hc, hf, e34, hc4, hc5]
                  exact ⟨Below.refl _ _, rfl⟩
                refine gSt (gStep_run rfl (gRun_move 35 36 (.inl rfl) rfl (by decide +kernel) (fun v w h => h))) ?_
                refine gSt (gStep_on 4 36 true rfl rfl (by decide +kernel) (fun v w h => h) (gRun_move 0 37 (.inl rfl) rfl (by decide +kernel) (fun v w h => h))) ?_
                refine gSt (gStep_on 4 36 true rfl rfl (by decide +kernel) (fun v w h => h) ?_) ?_
                · intro ρ W hC hc hf hL
                  have e7 : ρ (.tmp 7) = .pointer (some ⟨p7, 0, none⟩) := hL 7 (by decide +kernel)
                  have l0 := hC.2.h
                  have l1 := hC.2.l
                  simp [go_sem, hc, hf, e7, l0, l1]
                  exact ⟨Below.refl _ _, rfl⟩
                refine gSt (gStep_on 4 36 true rfl rfl (by decide +kernel) (fun v w h => h) ?_) ?_
                · intro ρ W hC hc hf hL
                  have e37 : ρ (.tmp 37) = .int .i64 f := hL 37 (by decide +kernel)
                  have e38 : ρ (.tmp 38) = .agg #[.int .u64 (dgl (y) 1 : Nat), .int .u64 (dgl (y) 0 : Nat)] := hL 38 (by decide +kernel)
                  simp [go_sem, hc, hf, e37, e38]
                  refine (HVA.out W).mono ?_
                  rintro e w' ⟨rfl, hb⟩
                  exact ⟨_, rfl, by first | exact hb | (subst hb; exact Below.refl _ _), rfl⟩
                refine gSt (gStep_on 4 36 true rfl rfl (by decide +kernel) (fun v w h => h) ?_) ?_
                · intro ρ W hC hc hf hL
                  have e39 : ρ (.tmp 39) = .agg #[.bool (ng), .int .i64 (ex), .int .u64 (dgl (sg) 0 : Nat), .int .u64 (dgl (sg) 1 : Nat), .int .u64 (dgl (sg) 2 : Nat), .int .u64 (dgl (sg) 3 : Nat), .int .u64 (dgl (sg) 4 : Nat), .int .u64 (dgl (sg) 5 : Nat), .int .u64 (dgl (sg) 6 : Nat), .int .u64 (dgl (sg) 7 : Nat)] := hL 39 (by decide +kernel)
                  simp [go_sem, hc, hf, e39]
                  refine (HOF.out W).mono ?_
                  rintro e w' ⟨v, rfl, hv, hb⟩
                  exact ⟨_, rfl, hb, hv⟩
                refine gSt (gStep_on 4 36 true rfl rfl (by decide +kernel) (fun v w h => h) ?_) ?_
                · intro ρ W hC hc hf hL
                  have e3 : ρ (.tmp 3) = .pointer (some ⟨w.heap.size, 0, none⟩) := hL 3 (by decide +kernel)
                  have l0 := hC.1.n0
                  have l1 := hC.1.n1
                  have l2 := hC.1.n2
                  simp [go_sem, hc, hf, e3, l0, l1, l2]
                  exact ⟨Below.refl _ _, rfl⟩
                refine gSt (gStep_on 4 36 true rfl rfl (by decide +kernel) (fun v w h => h) ?_) ?_
                · intro ρ W hC hc hf hL
                  have b40 := hL 40 (by decide +kernel)
                  have e41 : ρ (.tmp 41) = .agg #[.bool neg, .slice ao l ca, .int .i64 z] := hL 41 (by decide +kernel)
                  simp [go_sem, hc, hf, e41]
                  refine (HSZ.out _ W b40 hC.1.num).mono ?_
                  rintro e w' ⟨rfl, hb⟩
                  exact ⟨_, rfl, by first | exact hb | (subst hb; exact Below.refl _ _), rfl⟩
                refine gSt (gStep_on 4 36 true rfl rfl (by decide +kernel) (fun v w h => h) ?_) ?_
                · intro ρ W hC hc hf hL
                  have e42 : ρ (.tmp 42) = .int .i64 sz := hL 42 (by decide +kernel)
                  simp [go_sem, hc, hf, e42, hsz, hsz2]
                  exact ⟨Below.refl _ _, rfl⟩
                refine gSt (gStep_run rfl (gRun_pickT 36 43 44 _ rfl rfl (by decide +kernel) (by decide +kernel) (fun v w h => h) (fun v w h => h))) ?_
                exact gSt0
              · intro W hC
                refine gFi 32 rfl ?_
                rintro _ rfl
                refine gFi 33 rfl ?_
                rintro _ rfl
                refine gFi 34 rfl ?_
                rintro _ rfl
                refine gFi 35 rfl ?_
                rintro _ rfl
                refine gFi 36 rfl ?_
                rintro _ rfl
                refine gFi 37 rfl ?_
                rintro _ rfl
                refine gFi 38 rfl ?_
                rintro _ rfl
                refine gFi 39 rfl ?_
                rintro _ rfl
                refine gFi 40 rfl ?_
                rintro u40 b40
                refine gFi 41 rfl ?_
                rintro _ rfl
                refine gFi 42 rfl ?_
                rintro _ rfl
                refine gFi 43 rfl ?_
                rintro _ rfl
                refine gFi 44 rfl ?_
                rintro _ rfl
                refine gFi0 ?_
                simp only [List.drop_succ_cons, List.drop_zero, Act.put, List.setIfInBounds_toArray, List.set_cons_succ, List.set_cons_zero]
                have HS3 := hide hC.1
                clear hC h9
                have hw : IntKind.i64.wrap ((k : Int) - 1) = (k : Int) - 1 := by rw [IntKind.wrap_i64]; omega
                go_wp2
                go_roundw
                case rel => exact ⟨x, k, (k : Int) - 1, by omega, hide rfl, rfl, hide (HLV.out), HS3⟩
                case measure => first | (simp [intOf]; done) | (simp [intOf]; omega)
          · have HLV : Hid (FInv (takeB f s z) (mU f) k x) := by
              unfold Hid
              refine finv_leave HI.out HMO.out ?_
              rw [HYE.out]
              unfold takeB
              rw [decide_eq_false hc4, Bool.false_and]
            have hc5 : decide (4 ≤ clsU f y) = false := decide_eq_false hc4
            have hc6 : decide ((4 : Int) ≤ ((clsU f y : Nat) : Int)) = false := decide_eq_false (by omega)
            generalize clsU f y = cl at *
            refine wp_region_grow 13 [(32, .val (.int .i64 f)), (33, .val (.agg #[.int .u64 (dgl (y) 1 : Nat), .int .u64 (dgl (y) 0 : Nat)])), (34, .val (.int .i64 ((cl : Nat) : Int))), (35, .val (.bool false)), (36, .val (.bool false)), (37, .val (undef)), (38, .val (undef)), (39, .val (undef)), (40, .val (undef)), (41, .val (undef)), (42, .val (undef)), (43, .val (undef)), (44, .val (.bool false))]
              (fun W => FdSt neg z s ao l ca (x) w W ∧ WB W p7 (dgl y 1) (dgl y 0)) mixedOk (by kernel_rfl) (by kernel_rfl) (⟨h9.1.below (Below.refl _ _).drew, h9.2.below (Below.refl _ _).drew⟩) (fun W W' h hb => ⟨h.1.below hb, h.2.below hb⟩) ?_ ?_
            · refine gSt (gStep_run rfl (gRun_move 0 32 (.inl rfl) rfl (by decide +kernel) (fun v w h => h))) ?_
              refine gSt (gStep_run rfl ?_) ?_
              · intro ρ W hC hc hf hL
                have e7 : ρ (.tmp 7) = .pointer (some ⟨p7, 0, none⟩) := hL 7 (by decide +kernel)
                have l0 := hC.2.h
                have l1 := hC.2.l
                simp [go_sem, hc, hf, e7, l0, l1]
                exact ⟨Below.refl _ _, rfl⟩
              refine gSt (gStep_run rfl ?_) ?_
              · intro ρ W hC hc hf hL
                have e32 : ρ (.tmp 32) = .int .i64 f := hL 32 (by decide +kernel)
                have e33 : ρ (.tmp 33) = .agg #[.int .u64 (dgl (y) 1 : Nat), .int .u64 (dgl (y) 0 : Nat)] := hL 33 (by decide +kernel)
                simp [go_sem, hc, hf, e32, e33]
                refine (HCL.out W).mono ?_
                rintro e w' ⟨rfl, hb⟩
                exact ⟨_, rfl, by first | exact hb | (subst hb; exact Below.refl _ _), rfl⟩
              refine gSt (gStep_run rfl ?_) ?_
              · intro ρ W hC hc hf hL
                have e34 : ρ (.tmp 34) = .int .i64 ((cl : Nat) : Int) := hL 34 (by decide +kernel)
                simp [go_sem, hc, hf, e34, hc5, hc6]
                exact ⟨Below.refl _ _, rfl⟩
              refine gSt (gStep_run rfl (gRun_move 35 36 (.inl rfl) rfl (by decide +kernel) (fun v w h => h))) ?_
              refine gSt (gStep_off 4 36 true rfl rfl (by decide +kernel) (fun v w h => h) (fun w => rfl)) ?_
              refine gSt (gStep_off 4 36 true rfl rfl (by decide +kernel) (fun v w h => h) (fun w => rfl)) ?_
              refine gSt (gStep_off 4 36 true rfl rfl (by decide +kernel) (fun v w h => h) (fun w => rfl)) ?_
              refine gSt (gStep_off 4 36 true rfl rfl (by decide +kernel) (fun v w h => h) (fun w => rfl)) ?_
              refine gSt (gStep_off 4 36 true rfl rfl (by decide +kernel) (fun v w h => h) (fun w => rfl)) ?_
              refine gSt (gStep_off 4 36 true rfl rfl (by decide +kernel) (fun v w h => h) (fun w => rfl)) ?_
              refine gSt (gStep_off 4 36 true rfl rfl (by decide +kernel) (fun v w h => h) (fun w => rfl)) ?_
              refine gSt (gStep_run rfl (gRun_pickF 36 44 _ _ rfl rfl (by decide +kernel) (fun v w h => h) (fun w => rfl))) ?_
              exact gSt0
            · intro W hC
              refine gFi 32 rfl ?_
              rintro _ rfl
              refine gFi 33 rfl ?_
              rintro _ rfl
              refine gFi 34 rfl ?_
              rintro _ rfl
              refine gFi 35 rfl ?_
              rintro _ rfl
              refine gFi 36 rfl ?_
              rintro _ rfl
              refine gFi 37 rfl ?_
              rintro _ rfl
              refine gFi 38 rfl ?_
              rintro _ rfl
              refine gFi 39 rfl ?_
              rintro _ rfl
              refine gFi 40 rfl ?_
              rintro _ rfl
              refine gFi 41 rfl ?_
              rintro _ rfl
              refine gFi 42 rfl ?_
              rintro _ rfl
              refine gFi 43 rfl ?_
              rintro _ rfl
              refine gFi 44 rfl ?_
              rintro _ rfl
              refine gFi0 ?_
              simp only [List.drop_succ_cons, List.drop_zero, Act.put, List.setIfInBounds_toArray, List.set_cons_succ, List.set_cons_zero]
              have HS3 := hide hC.1
              clear hC h9
              have hw : IntKind.i64.wrap ((k : Int) - 1) = (k : Int) - 1 := by rw [IntKind.wrap_i64]; omega
              go_wp2
              go_roundw
              case rel => exact ⟨x, k, (k : Int) - 1, by omega, hide rfl, rfl, hide (HLV.out), HS3⟩
              case measure => first | (simp [intOf]; done) | (simp [intOf]; omega)
      · go_upto_region 8 with fail
        refine wp_gen (fun W => FdSt neg z s ao l ca (x) w W ∧ WB W wr.heap.size (dgl x 1) (dgl x 0) ∧ ∀ i, W.frozen? ⟨wr.heap.size, i, none⟩ = false) ⟨hst.out.below (below_allocs _ _), wb_new2 _ _ _ _, fun i => by simp [go_sem]⟩ ?_
        have HP7 := hide (show w.heap.size + 2 + 1 ≤ wr.heap.size by omega)
        clear hst r0 r1 rl HS0
        generalize wr.heap.size = p7 at *
        rintro W7 h7
        have HB := hide (bitW_low (c := k) (x := x) (by omega) HI.out.1)
        rw [HYE.out] at HB
        have HSH := hide (shl_wrap7 (e := k) (by omega))
        have HAD := hide (add_bit (a := dgl x 0) (e := k) (b := dgl y 0) (by omega) HB.out.1 (dgl_lt _ _))
        have HOT := hide HB.out.2
        clear HB
        refine wp_region_grow 6 [(26, .val (.pointer (some ⟨p7, 1, none⟩))), (27, .val (.int .u64 (dgl x 0 : Nat))), (28, .val (.int .i64 ((k : Nat) : Int))), (29, .val (.int .u64 ((2 : Int) ^ k))), (30, .val (.int .u64 (dgl y 0 : Nat))), (31, .val (.pointer (some ⟨p7, 1, none⟩)))]
          (fun W => FdSt neg z s ao l ca (x) w W ∧ WB W p7 (dgl x 1) (dgl x 0) ∧ ∀ i, W.frozen? ⟨p7, i, none⟩ = false) mixedOk (by kernel_rfl) (by kernel_rfl) (⟨h7.1.below (Below.refl _ _).drew, h7.2.1.below (Below.refl _ _).drew, fun i => ((Below.refl _ _).drew.frozen (p := ⟨p7, i, none⟩) h7.2.1.lt).trans (h7.2.2 i)⟩) (fun W W' h hb => ⟨h.1.below hb, h.2.1.below hb, fun i => (hb.frozen (p := ⟨p7, i, none⟩) h.2.1.lt).trans (h.2.2 i)⟩) ?_ ?_
        · refine gSt (gStep_run rfl ?_) ?_
          · intro ρ W hC hc hf hL
            have e7 : ρ (.tmp 7) = .pointer (some ⟨p7, 0, none⟩) := hL 7 (by decide +kernel)
            simp [go_sem, hc, hf, e7]
            exact ⟨Below.refl _ _, rfl⟩
          refine gSt (gStep_run rfl ?_) ?_
          · intro ρ W hC hc hf hL
            have e26 : ρ (.tmp 26) = .pointer (some ⟨p7, 1, none⟩) := hL 26 (by decide +kernel)
            have l0 := hC.2.1.l
            simp [go_sem, hc, hf, e26, l0]
            exact ⟨Below.refl _ _, rfl⟩
          refine gSt (gStep_run rfl (gRun_move 6 28 (.inl rfl) rfl (by decide +kernel) (fun v w h => h))) ?_
          refine gSt (gStep_run rfl ?_) ?_
          · intro ρ W hC hc hf hL
            have e28 : ρ (.tmp 28) = .int .i64 ((k : Nat) : Int) := hL 28 (by decide +kernel)
            have l0 := HSH.out
            have h0 : (0 : Int) ≤ (k : Int) := by omega
            have h6 : (k : Int) < 64 := by omega
            simp [go_sem, hc, hf, e28, l0, h0, h6]
            exact ⟨Below.refl _ _, rfl⟩
          refine gSt (gStep_run rfl ?_) ?_
          · intro ρ W hC hc hf hL
            have e27 : ρ (.tmp 27) = .int .u64 (dgl x 0 : Nat) := hL 27 (by decide +kernel)
            have e29 : ρ (.tmp 29) = .int .u64 ((2 : Int) ^ k) := hL 29 (by decide +kernel)
            have l0 := HAD.out
            simp [go_sem, hc, hf, e27, e29, l0]
            exact ⟨Below.refl _ _, rfl⟩
          refine gSt (gStep_run rfl ?_) ?_
          · intro ρ W hC hc hf hL
            have e7 : ρ (.tmp 7) = .pointer (some ⟨p7, 0, none⟩) := hL 7 (by decide +kernel)
            simp [go_sem, hc, hf, e7]
            exact ⟨Below.refl _ _, rfl⟩
          exact gSt0
        · intro W hC
          refine gFi 26 rfl ?_
          rintro _ rfl
          refine gFi 27 rfl ?_
          rintro _ rfl
          refine gFi 28 rfl ?_
          rintro _ rfl
          refine gFi 29 rfl ?_
          rintro _ rfl
          refine gFi 30 rfl ?_
          rintro _ rfl
          refine gFi 31 rfl ?_
          rintro _ rfl
          refine gFi0 ?_
          simp only [List.drop_succ_cons, List.drop_zero, Act.put, List.setIfInBounds_toArray, List.set_cons_succ, List.set_cons_zero]
          have l0 := hC.2.1.l
          have hf7 := hC.2.2
          have hl7 := hC.2.1.lt
          have HS2 := hide (show FdSt neg z s ao l ca (x) w (W.setCell ⟨p7, 1, none⟩ (.int .u64 (dgl y 0 : Nat))) ∧ WB (W.setCell ⟨p7, 1, none⟩ (.int .u64 (dgl y 0 : Nat))) p7 (dgl y 1) (dgl y 0) from
            ⟨hC.1.under ((Below.refl (w.heap.size + 2 + 1) W).setCell (p := ⟨p7, 1, none⟩) HP7.out _) (by omega), wb_setl hC.2.1 HOT.out⟩)
          clear hC h7
          go_upto_region 9 with fail
          refine wp_gen (fun W => FdSt neg z s ao l ca (x) w W ∧ WB W p7 (dgl y 1) (dgl y 0)) HS2.out ?_
          clear HS2 l0 hf7 hl7
          rintro W9 h9
          have HCL := hide (fun w => refCls_u f y HY.out w)
          by_cases hc4 : 4 ≤ clsU f y
          · have HVA := hide (fun w => rval_any f y HY.out (by omega) w)
            have HOF := hide (fun w => refOf7_any (negU f y) (expU f y) (sigU f y) (sigU_qq f y HF.out) w)
            have HSZ := hide (fun u w hu hv => refSize_any (negU f y) neg (sigU f y) s (expU f y) z u (.agg #[.bool neg, .slice ao l ca, .int .i64 z]) w hu hv (sigU_qq f y HF.out) HS.out (sz_bd f y) HZ.out)
            have hc5 : (4 : Int) ≤ ((clsU f y : Nat) : Int) := by omega
            have HTB := hide (show takeB f s z y = decide (sizeZ (sigU f y) (expU f y) s z ≤ 0) by unfold takeB; rw [decide_eq_true hc4, Bool.true_and])
            have HTK : Hid (takeB f s z y = true → FInv (takeB f s z) (mU f) k y) := fun h => by rw [← HYE.out] at h ⊢; exact finv_take HI.out (by omega) h
            have HLV : Hid (takeB f s z y = false → FInv (takeB f s z) (mU f) k x) := fun h => by rw [← HYE.out] at h; exact finv_leave HI.out HMO.out h
            generalize sizeZ (sigU f y) (expU f y) s z = sz at *
            generalize negU f y = ng at *
            generalize sigU f y = sg at *
            generalize expU f y = ex at *
            generalize clsU f y = cl at *
            by_cases hsz : sz ≤ 0
            · replace HTK := hide (HTK.out (HTB.out.trans (decide_eq_true hsz)))
              have hsz2 : decide (sz ≤ 0) = true := decide_eq_true hsz
              have HPY : Hid (y = y) := rfl
              clear HLV HTB
              refine wp_region_grow 13 [(32, .val (.int .i64 f)), (33, .val (.agg #[.int .u64 (dgl (y) 1 : Nat), .int .u64 (dgl (y) 0 : Nat)])), (34, .val (.int .i64 ((cl : Nat) : Int))), (35, .val (.bool true)), (36, .val (.bool true)), (37, .val (.int .i64 f)), (38, .val (.agg #[.int .u64 (dgl (y) 1 : Nat), .int .u64 (dgl (y) 0 : Nat)])), (39, .val (.agg #[.bool (ng), .int .i64 (ex), .int .u64 (dgl (sg) 0 : Nat), .int .u64 (dgl (sg) 1 : Nat), .int .u64 (dgl (sg) 2 : Nat), .int .u64 (dgl (sg) 3 : Nat), .int .u64 (dgl (sg) 4 : Nat), .int .u64 (dgl (sg) 5 : Nat), .int .u64 (dgl (sg) 6 : Nat), .int .u64 (dgl (sg) 7 : Nat)])), (40, .num ng ex sg 40), (41, .val (.agg #[.bool neg, .slice ao l ca, .int .i64 z])), (42, .val (.int .i64 sz)), (43, .val (.bool true)), (44, .val (.bool true))]
                (fun W => FdSt neg z s ao l ca (x) w W ∧ WB W p7 (dgl y 1) (dgl y 0)) mixedOk (by kernel_rfl) (by kernel_rfl) (⟨h9.1.below (Below.refl _ _).drew, h9.2.below (Below.refl _ _).drew⟩) (fun W W' h hb => ⟨h.1.below hb, h.2.below hb⟩) ?_ ?_
              · refine gSt (gStep_run rfl (gRun_move 0 32 (.inl rfl) rfl (by decide +kernel) (fun v w h => h))) ?_
                refine gSt (gStep_run rfl ?_) ?_
                · intro ρ W hC hc hf hL
                  have e7 : ρ (.tmp 7) = .pointer (some ⟨p7, 0, none⟩) := hL 7 (by decide +kernel)
                  have l0 := hC.2.h
                  have l1 := hC.2.l
                  simp [go_sem, hc, hf, e7, l0, l1]
                  exact ⟨Below.refl _ _, rfl⟩
                refine gSt (gStep_run rfl ?_) ?_
                · intro ρ W hC hc hf hL
                  have e32 : ρ (.tmp 32) = .int .i64 f := hL 32 (by decide +kernel)
                  have e33 : ρ (.tmp 33) = .agg #[.int .u64 (dgl (y) 1 : Nat), .int .u64 (dgl (y) 0 : Nat)] := hL 33 (by decide +kernel)
                  simp [go_sem, hc, hf, e32, e33]
                  refine (HCL.out W).mono ?_
                  rintro e w' ⟨rfl, hb⟩
                  exact ⟨_, rfl, by first | exact hb | (subst hb; exact Below.refl _ _), rfl⟩
                refine gSt (gStep_run rfl ?_) ?_
                · intro ρ W hC hc hf hL
                  have e34 : ρ (.tmp 34) = .int .i64 ((cl : Nat) : Int) := hL 34 (by decide +kernel)
                  simp [go_sem, hc, hf, e34, hc4, hc5]
                  exact ⟨Below.refl _ _, rfl⟩
                refine gSt (gStep_run rfl (gRun_move 35 36 (.inl rfl) rfl (by decide +kernel) (fun v w h => h))) ?_
                refine gSt (gStep_on 4 36 true rfl rfl (by decide +kernel) (fun v w h => h) (gRun_move 0 37 (.inl rfl) rfl (by decide +kernel) (fun v w h => h))) ?_
                refine gSt (gStep_on 4 36 true rfl rfl (by decide +kernel) (fun v w h => h) ?_) ?_
                · intro ρ W hC hc hf hL
                  have e7 : ρ (.tmp 7) = .pointer (some ⟨p7, 0, none⟩) := hL 7 (by decide +kernel)
                  have l0 := hC.2.h
                  have l1 := hC.2.l
                  simp [go_sem, hc, hf, e7, l0, l1]
                  exact ⟨Below.refl _ _, rfl⟩
                refine gSt (gStep_on 4 36 true rfl rfl (by decide +kernel) (fun v w h => h) ?_) ?_
                · intro ρ W hC hc hf hL
                  have e37 : ρ (.tmp 37) = .int .i64 f := hL 37 (by decide +kernel)
                  have e38 : ρ (.tmp 38) = .agg #[.int .u64 (dgl (y) 1 : Nat), .int .u64 (dgl (y) 0 : Nat)] := hL 38 (by decide +kernel)
                  simp [go_sem, hc, hf, e37, e38]
                  refine (HVA.out W).mono ?_
                  rintro e w' ⟨rfl, hb⟩
                  exact ⟨_, rfl, by first | exact hb | (subst hb; exact Below.refl _ _), rfl⟩
                refine gSt (gStep_on 4 36 true rfl rfl (by decide +kernel) (fun v w h => h) ?_) ?_
                · intro ρ W hC hc hf hL
                  have e39 : ρ (.tmp 39) = .agg #[.bool (ng), .int .i64 (ex), .int .u64 (dgl (sg) 0 : Nat), .int .u64 (dgl (sg) 1 : Nat), .int .u64 (dgl (sg) 2 : Nat), .int .u64 (dgl (sg) 3 : Nat), .int .u64 (dgl (sg) 4 : Nat), .int .u64 (dgl (sg) 5 : Nat), .int .u64 (dgl (sg) 6 : Nat), .int .u64 (dgl (sg) 7 : Nat)] := hL 39 (by decide +kernel)
                  simp [go_sem, hc, hf, e39]
                  refine (HOF.out W).mono ?_
                  rintro e w' ⟨v, rfl, hv, hb⟩
                  exact ⟨_, rfl, hb, hv⟩
                refine gSt (gStep_on 4 36 true rfl rfl (by decide +kernel) (fun v w h => h) ?_) ?_
                · intro ρ W hC hc hf hL
                  have e3 : ρ (.tmp 3) = .pointer (some ⟨w.heap.size, 0, none⟩) := hL 3 (by decide +kernel)
                  have l0 := hC.1.n0
                  have l1 := hC.1.n1
                  have l2 := hC.1.n2
                  simp [go_sem, hc, hf, e3, l0, l1, l2]
                  exact ⟨Below.refl _ _, rfl⟩
                refine gSt (gStep_on 4 36 true rfl rfl (by decide +kernel) (fun v w h => h) ?_) ?_
                · intro ρ W hC hc hf hL
                  have b40 := hL 40 (by decide +kernel)
                  have e41 : ρ (.tmp 41) = .agg #[.bool neg, .slice ao l ca, .int .i64 z] := hL 41 (by decide +kernel)
                  simp [go_sem, hc, hf, e41]
                  refine (HSZ.out _ W b40 hC.1.num).mono ?_
                  rintro e w' ⟨rfl, hb⟩
                  exact ⟨_, rfl, by first | exact hb | (subst hb; exact Below.refl _ _), rfl⟩
                refine gSt (gStep_on 4 36 true rfl rfl (by decide +kernel) (fun v w h => h) ?_) ?_
                · intro ρ W hC hc hf hL
                  have e42 : ρ (.tmp 42) = .int .i64 sz := hL 42 (by decide +kernel)
                  simp [go_sem, hc, hf, e42, hsz, hsz2]
                  exact ⟨Below.refl _ _, rfl⟩
                refine gSt (gStep_run rfl (gRun_pickT 36 43 44 _ rfl rfl (by decide +kernel) (by decide +kernel) (fun v w h => h) (fun v w h => h))) ?_
                exact gSt0
              · intro W hC
                refine gFi 32 rfl ?_
                rintro _ rfl
                refine gFi 33 rfl ?_
                rintro _ rfl
                refine gFi 34 rfl ?_
                rintro _ rfl
                refine gFi 35 rfl ?_
                rintro _ rfl
                refine gFi 36 rfl ?_
                rintro _ rfl
                refine gFi 37 rfl ?_
                rintro _ rfl
                refine gFi 38 rfl ?_
                rintro _ rfl
                refine gFi 39 rfl ?_
                rintro _ rfl
                refine gFi 40 rfl ?_
                rintro u40 b40
                refine gFi 41 rfl ?_
                rintro _ rfl
                refine gFi 42 rfl ?_
                rintro _ rfl
                refine gFi 43 rfl ?_
                rintro _ rfl
                refine gFi 44 rfl ?_
                rintro _ rfl
                refine gFi0 ?_
                simp only [List.drop_succ_cons, List.drop_zero, Act.put, List.setIfInBounds_toArray, List.set_cons_succ, List.set_cons_zero]
                have l0 := hC.2.h
                have l1 := hC.2.l
                have r0 := hC.1.o.h
                have r1 := hC.1.o.l
                have rf := hC.1.fo
                have rl := hC.1.o.lt
                have HS3 := hide hC.1
                clear hC h9
                have hw : IntKind.i64.wrap ((k : Int) - 1) = (k : Int) - 1 := by rw [IntKind.wrap_i64]; omega
                go_wp2
                go_roundw
                case rel => exact ⟨y, k, (k : Int) - 1, by omega, hide rfl, rfl, hide (HTK.out), by rw [HPY.out]; exact HS3.out.set y⟩
                case measure => first | (simp [intOf]; done) | (simp [intOf]; omega)
            · replace HLV := hide (HLV.out (HTB.out.trans (decide_eq_false hsz)))
              have hsz2 : decide (sz ≤ 0) = false := decide_eq_false hsz
              clear HTK HTB
              refine wp_region_grow 13 [(32, .val (.int .i64 f)), (33, .val (.agg #[.int .u64 (dgl (y) 1 : Nat), .int .u64 (dgl (y) 0 : Nat)])), (34, .val (.int .i64 ((cl : Nat) : Int))), (35, .val (.bool true)), (36, .val (.bool true)), (37, .val (.int .i64 f)), (38, .val (.agg #[.int .u64 (dgl (y) 1 : Nat), .int .u64 (dgl (y) 0 : Nat)])), (39, .val (.agg #[.bool (ng), .int .i64 (ex), .int .u64 (dgl (sg) 0 : Nat), .int .u64 (dgl (sg) 1 : Nat), .int .u64 (dgl (sg) 2 : Nat), .int .u64 (dgl (sg) 3 : Nat), .int .u64 (dgl (sg) 4 : Nat), .int .u64 (dgl (sg) 5 : Nat), .int .u64 (dgl (sg) 6 : Nat), .int .u64 (dgl (sg) 7 : Nat)])), (40, .num ng ex sg 40), (41, .val (.agg #[.bool neg, .slice ao l ca, .int .i64 z])), (42, .val (.int .i64 sz)), (43, .val (.bool false)), (44, .val (.bool false))]
                (fun W => FdSt neg z s ao l ca (x) w W ∧ WB W p7 (dgl y 1) (dgl y 0)) mixedOk (by kernel_rfl) (by kernel_rfl) (⟨h9.1.below (Below.refl _ _).drew, h9.2.below (Below.refl _ _).drew⟩) (fun W W' h hb => ⟨h.1.below hb, h.2.below hb⟩) ?_ ?_
              · refine gSt (gStep_run rfl (gRun_move 0 32 (.inl rfl) rfl (by decide +kernel) (fun v w h => h))) ?_
                refine gSt (gStep_run rfl ?_) ?_
                · intro ρ W hC hc hf hL
                  have e7 : ρ (.tmp 7) = .pointer (some ⟨p7, 0, none⟩) := hL 7 (by decide +kernel)
                  have l0 := hC.2.h
                  have l1 := hC.2.l
                  simp [go_sem, hc, hf, e7, l0, l1]
                  exact ⟨Below.refl _ _, rfl⟩
                refine gSt (gStep_run rfl ?_) ?_
                · intro ρ W hC hc hf hL
                  have e32 : ρ (.tmp 32) = .int .i64 f := hL 32 (by decide +kernel)
                  have e33 : ρ (.tmp 33) = .agg #[.int .u64 (dgl (y) 1 : Nat), .int .u64 (dgl (y) 0 : Nat)] := hL 33 (by decide +kernel)
                  simp [go_sem, hc, hf, e32, e33]
                  refine (HCL.out W).mono ?_
                  rintro e w' ⟨rfl, hb⟩
                  exact ⟨_, rfl, by first | exact hb | (subst hb; exact Below.refl _ _), rfl⟩
                refine gSt (gStep_run rfl ?_) ?_
                · intro ρ W hC hc hf hL
                  have e34 : ρ (.tmp 34) = .int .i64 ((cl : Nat) : Int) := hL 34 (by decide +kernel)
                  simp [go_sem, hc, hf, e34, hc4, hc5]
                  exact ⟨Below.refl _ _, rfl⟩
                refine gSt (gStep_run rfl (gRun_move 35 36 (.inl rfl) rfl (by decide +kernel) (fun v w h => h))) ?_
                refine gSt (gStep_on 4 36 true rfl rfl (by decide +kernel) (fun v w h => h) (gRun_move 0 37 (.inl rfl) rfl (by decide +kernel) (fun v w h => h))) ?_
                refine gSt (gStep_on 4 36 true rfl rfl (by decide +kernel) (fun v w h => h) ?_) ?_
                · intro ρ W hC hc hf hL
                  have e7 : ρ (.tmp 7) = .pointer (some ⟨p7, 0, none⟩) := hL 7 (by decide +kernel)
                  have l0 := hC.2.h
                  have l1 := hC.2.l
                  simp [go_sem, hc, hf, e7, l0, l1]
                  exact ⟨Below.refl _ _, rfl⟩
                refine gSt (gStep_on 4 36 true rfl rfl (by decide +kernel) (fun v w h => h) ?_) ?_
                · intro ρ W hC hc hf hL
                  have e37 : ρ (.tmp 37) = .int .i64 f := hL 37 (by decide +kernel)
                  have e38 : ρ (.tmp 38) = .agg #[.int .u64 (dgl (y) 1 : Nat), .int .u64 (dgl (y) 0 : Nat)] := hL 38 (by decide +kernel)
                  simp [go_sem, hc, hf, e37, e38]
                  refine (HVA.out W).mono ?_
                  rintro e w' ⟨rfl, hb⟩
                  exact ⟨_, rfl, by first | exact hb | (subst hb; exact Below.refl _ _), rfl⟩
                refine gSt (gStep_on 4 36 true rfl rfl (by decide +kernel) (fun v w h => h) ?_) ?_
                · intro ρ W hC hc hf hL
                  have e39 : ρ (.tmp 39) = .agg #[.bool (ng), .int .i64 (ex), .int .u64 (dgl (sg) 0 : Nat), .int .u64 (dgl (sg) 1 : Nat), .int .u64 (dgl (sg) 2 : Nat), .int .u64 (dgl (sg) 3 : Nat), .int .u64 (dgl (sg) 4 : Nat), .int .u64 (dgl (sg) 5 : Nat), .int .u64 (dgl (sg) 6 : Nat), .int .u64 (dgl (sg) 7 : Nat)] := hL 39 (by decide +kernel)
                  simp [go_sem, hc, hf, e39]
                  refine (HOF.out W).mono ?_
                  rintro e w' ⟨v, rfl, hv, hb⟩
                  exact ⟨_, rfl, hb, hv⟩
                refine gSt (gStep_on 4 36 true rfl rfl (by decide +kernel) (fun v w h => h) ?_) ?_
                · intro ρ W hC hc hf hL
                  have e3 : ρ (.tmp 3) = .pointer (some ⟨w.heap.size, 0, none⟩) := hL 3 (by decide +kernel)
                  have l0 := hC.1.n0
                  have l1 := hC.1.n1
                  have l2 := hC.1.n2
                  simp [go_sem, hc, hf, e3, l0, l1, l2]
                  exact ⟨Below.refl _ _, rfl⟩
                refine gSt (gStep_on 4 36 true rfl rfl (by decide +kernel) (fun v w h => h) ?_) ?_
                · intro ρ W hC hc hf hL
                  have b40 := hL 40 (by decide +kernel)
                  have e41 : ρ (.tmp 41) = .agg #[.bool neg, .slice ao l ca, .int .i64 z] := hL 41 (by decide +kernel)
                  simp [go_sem, hc, hf, e41]
                  refine (HSZ.out _ W b40 hC.1.num).mono ?_
                  rintro e w' ⟨rfl, hb⟩
                  exact ⟨_, rfl, by first | exact hb | (subst hb; exact Below.refl _ _), rfl⟩
                refine gSt (gStep_on 4 36 true rfl rfl (by decide +kernel) (fun v w h => h) ?_) ?_
                · intro ρ W hC hc hf hL
                  have e42 : ρ (.tmp 42) = .int .i64 sz := hL 42 (by decide +kernel)
                  simp [go_sem, hc, hf, e42, hsz, hsz2]
                  exact ⟨Below.refl _ _, rfl⟩
                refine gSt (gStep_run rfl (gRun_pickT 36 43 44 _ rfl rfl (by decide +kernel) (by decide +kernel) (fun v w h => h) (fun v w h => h))) ?_
                exact gSt0
              · intro W hC
                refine gFi 32 rfl ?_
                rintro _ rfl
                refine gFi 33 rfl ?_
                rintro _ rfl
                refine gFi 34 rfl ?_
                rintro _ rfl
                refine gFi 35 rfl ?_
                rintro _ rfl
                refine gFi 36 rfl ?_
                rintro _ rfl
                refine gFi 37 rfl ?_
                rintro _ rfl
                refine gFi 38 rfl ?_
                rintro _ rfl
                refine gFi 39 rfl ?_
                rintro _ rfl
                refine gFi 40 rfl ?_
                rintro u40 b40
                refine gFi 41 rfl ?_
                rintro _ rfl
                refine gFi 42 rfl ?_
                rintro _ rfl
                refine gFi 43 rfl ?_
                rintro _ rfl
                refine gFi 44 rfl ?_
                rintro _ rfl
                refine gFi0 ?_
                simp only [List.drop_succ_cons, List.drop_zero, Act.put, List.setIfInBounds_toArray, List.set_cons_succ, List.set_cons_zero]
                have HS3 := hide hC.1
                clear hC h9
                have hw : IntKind.i64.wrap ((k : Int) - 1) = (k : Int) - 1 := by rw [IntKind.wrap_i64]; omega
                go_wp2
                go_roundw
                case rel => exact ⟨x, k, (k : Int) - 1, by omega, hide rfl, rfl, hide (HLV.out), HS3⟩
                case measure => first | (simp [intOf]; done) | (simp [intOf]; omega)
          · have HLV : Hid (FInv (takeB f s z) (mU f) k x) := by
              unfold Hid
              refine finv_leave HI.out HMO.out ?_
              rw [HYE.out]
              unfold takeB
              rw [decide_eq_false hc4, Bool.false_and]
            have hc5 : decide (4 ≤ clsU f y) = false := decide_eq_false hc4
            have hc6 : decide ((4 : Int) ≤ ((clsU f y : Nat) : Int)) = false := decide_eq_false (by omega)
            generalize clsU f y = cl at *
            refine wp_region_grow 13 [(32, .val (.int .i64 f)), (33, .val (.agg #[.int .u64 (dgl (y) 1 : Nat), .int .u64 (dgl (y) 0 : Nat)])), (34, .val (.int .i64 ((cl : Nat) : Int))), (35, .val (.bool false)), (36, .val (.bool false)), (37, .val (undef)), (38, .val (undef)), (39, .val (undef)), (40, .val (undef)), (41, .val (undef)), (42, .val (undef)), (43, .val (undef)), (44, .val (.bool false))]
              (fun W => FdSt neg z s ao l ca (x) w W ∧ WB W p7 (dgl y 1) (dgl y 0)) mixedOk (by kernel_rfl) (by kernel_rfl) (⟨h9.1.below (Below.refl _ _).drew, h9.2.below (Below.refl _ _).drew⟩) (fun W W' h hb => ⟨h.1.below hb, h.2.below hb⟩) ?_ ?_
            · refine gSt (gStep_run rfl (gRun_move 0 32 (.inl rfl) rfl (by decide +kernel) (fun v w h => h))) ?_
              refine gSt (gStep_run rfl ?_) ?_
              · intro ρ W hC hc hf hL
                have e7 : ρ (.tmp 7) = .pointer (some ⟨p7, 0, none⟩) := hL 7 (by decide +kernel)
                have l0 := hC.2.h
                have l1 := hC.2.l
                simp [go_sem, hc, hf, e7, l0, l1]
                exact ⟨Below.refl _ _, rfl⟩
              refine gSt (gStep_run rfl ?_) ?_
              · intro ρ W hC hc hf hL
                have e32 : ρ (.tmp 32) = .int .i64 f := hL 32 (by decide +kernel)
                have e33 : ρ (.tmp 33) = .agg #[.int .u64 (dgl (y) 1 : Nat), .int .u64 (dgl (y) 0 : Nat)] := hL 33 (by decide +kernel)
                simp [go_sem, hc, hf, e32, e33]
                refine (HCL.out W).mono ?_
                rintro e w' ⟨rfl, hb⟩
                exact ⟨_, rfl, by first | exact hb | (subst hb; exact Below.refl _ _), rfl⟩
              refine gSt (gStep_run rfl ?_) ?_
              · intro ρ W hC hc hf hL
                have e34 : ρ (.tmp 34) = .int .i64 ((cl : Nat) : Int) := hL 34 (by decide +kernel)
                simp [go_sem, hc, hf, e34, hc5, hc6]
                exact ⟨Below.refl _ _, rfl⟩
              refine gSt (gStep_run rfl (gRun_move 35 36 (.inl rfl) rfl (by decide +kernel) (fun v w h => h))) ?_
              refine gSt (gStep_off 4 36 true rfl rfl (by decide +kernel) (fun v w h => h) (fun w => rfl)) ?_
              refine gSt (gStep_off 4 36 true rfl rfl (by decide +kernel) (fun v w h => h) (fun w => rfl)) ?_
              refine gSt (gStep_off 4 36 true rfl rfl (by decide +kernel) (fun v w h => h) (fun w => rfl)) ?_
              refine gSt (gStep_off 4 36 true rfl rfl (by decide +kernel) (fun v w h => h) (fun w => rfl)) ?_
              refine gSt (gStep_off 4 36 true rfl rfl (by decide +kernel) (fun v w h => h) (fun w => rfl)) ?_
              refine gSt (gStep_off 4 36 true rfl rfl (by decide +kernel) (fun v w h => h) (fun w => rfl)) ?_
              refine gSt (gStep_off 4 36 true rfl rfl (by decide +kernel) (fun v w h => h) (fun w => rfl)) ?_
              refine gSt (gStep_run rfl (gRun_pickF 36 44 _ _ rfl rfl (by decide +kernel) (fun v w h => h) (fun w => rfl))) ?_
              exact gSt0
            · intro W hC
              refine gFi 32 rfl ?_
              rintro _ rfl
              refine gFi 33 rfl ?_
              rintro _ rfl
              refine gFi 34 rfl ?_
              rintro _ rfl
              refine gFi 35 rfl ?_
              rintro _ rfl
              refine gFi 36 rfl ?_
              rintro _ rfl
              refine gFi 37 rfl ?_
              rintro _ rfl
              refine gFi 38 rfl ?_
              rintro _ rfl
              refine gFi 39 rfl ?_
              rintro _ rfl
              refine gFi 40 rfl ?_
              rintro _ rfl
              refine gFi 41 rfl ?_
              rintro _ rfl
              refine gFi 42 rfl ?_
              rintro _ rfl
              refine gFi 43 rfl ?_
              rintro _ rfl
              refine gFi 44 rfl ?_
              rintro _ rfl
              refine gFi0 ?_
              simp only [List.drop_succ_cons, List.drop_zero, Act.put, List.setIfInBounds_toArray, List.set_cons_succ, List.set_cons_zero]
              have HS3 := hide hC.1
              clear hC h9
              have hw : IntKind.i64.wrap ((k : Int) - 1) = (k : Int) - 1 := by rw [IntKind.wrap_i64]; omega
              go_wp2
              go_roundw
              case rel => exact ⟨x, k, (k : Int) - 1, by omega, hide rfl, rfl, hide (HLV.out), HS3⟩
              case measure => first | (simp [intOf]; done) | (simp [intOf]; omega)
    · obtain rfl : zi = -1 := by have := hzi.out; omega
      obtain rfl : c = 0 := by have := hzi.out; omega
      obtain rfl := finv_uniq HI.out HXX.out
      have r0 := hst.out.o.h
      have r1 := hst.out.o.l
      have q0 := hst.out.r.h
      have q1 := hst.out.r.l
      have ql := hst.out.r.lt
      have qf := hst.out.fr
      have HBE := hide hst.out.bel
      clear hst HS0 HI0 hzi
      go_wp2
      exact bodyPost_ret (v := .agg #[.int .u64 (dgl (x) 1 : Nat), .int .u64 (dgl (x) 0 : Nat)]) (by simp [results, Tryz.results40, go_sem, q0, q1, ql]) rfl ⟨rfl, (HBE.out.setCell (p := ⟨w.heap.size + 1, 0, none⟩) (Nat.le_succ _) _).setCell (p := ⟨w.heap.size + 1, 1, none⟩) (Nat.le_succ _) _⟩

end Go.Proofs.YtpcjdllijkjdkaaGreatDoor

/- Contracts: the document's Exact. -/
set_option linter.unusedVariables false
set_option linter.unusedSimpArgs false
set_option maxRecDepth 8000
namespace Go.Proofs.YtpcjdllijkjdkaaGreatDoor
open Go.RowKit Plain

theorem sgn_N {B P F a : Nat} (neg : Bool) (hB : B = P + F) (hP : 0 < P) (h : clsN B P F a ≠ 0) :
    sgnN B neg a < 2 ^ B ∧ negN B (sgnN B neg a) = neg ∧ fldN B P F (sgnN B neg a) = fldN B P F a ∧ frcN B P (sgnN B neg a) = frcN B P a ∧ clsN B P F (sgnN B neg a) = clsN B P F a := by
  have ha := cls_fit h
  subst hB
  have h1 : 2 ^ (P + F) = 2 * 2 ^ (P + F - 1) := pow_half (P + F) (by omega)
  have hm : sgnN (P + F) neg a % 2 ^ (P + F - 1) = a % 2 ^ (P + F - 1) := by
    unfold sgnN
    rw [Nat.mul_comm, Nat.mul_add_mod, Nat.mod_mod]
  have hr : a % 2 ^ (P + F - 1) < 2 ^ (P + F - 1) := Nat.mod_lt _ (Nat.two_pow_pos _)
  have hs : sgnN (P + F) neg a < 2 ^ (P + F) := by
    unfold sgnN
    cases neg
    · show 0 * _ + _ < _; omega
    · show 1 * _ + _ < _; omega
  have hd : sgnN (P + F) neg a / 2 ^ (P + F - 1) = neg.toNat := by
    unfold sgnN
    rw [Nat.mul_comm, Nat.mul_add_div (Nat.two_pow_pos _), Nat.div_eq_of_lt hr, Nat.add_zero]
  have e : P + F - 1 = P - 1 + F := by omega
  refine ⟨hs, ?_, ?_, ?_, cls_mod hP hs ha hm⟩
  · unfold negN
    rw [decide_eq_true hs, Bool.true_and, hd]
    cases neg <;> rfl
  · rw [show fldN (P + F) P F (sgnN (P + F) neg a) = sgnN (P + F) neg a / 2 ^ (P - 1) % 2 ^ F from if_pos hs, show fldN (P + F) P F a = a / 2 ^ (P - 1) % 2 ^ F from if_pos ha, fld_mod, fld_mod a, ← e, hm]
  · rw [show frcN (P + F) P (sgnN (P + F) neg a) = sgnN (P + F) neg a % 2 ^ (P - 1) from if_pos hs, show frcN (P + F) P a = a % 2 ^ (P - 1) from if_pos ha, frc_mod _ (P - 1) F, frc_mod a (P - 1) F, ← e, hm]
theorem sgn_U {f : Int} {a : Nat} (neg : Bool) (h : clsU f a ≠ 0) : sgnU f neg a < 2 ^ 128 ∧ negU f (sgnU f neg a) = neg ∧ fldU f (sgnU f neg a) = fldU f a ∧ frcU f (sgnU f neg a) = frcU f a ∧ clsU f (sgnU f neg a) = clsU f a := by
  rcases f_cases f with rfl | rfl | rfl | rfl | h0
  · have e0 : sgnU 1 neg a = sgnN 16 neg a := tU_1 _ _ _ _ _
    have e1 : ∀ x, negU 1 x = negN 16 x := fun x => tU_1 _ _ _ _ _
    have e2 : ∀ x, fldU 1 x = fldN 16 11 5 x := fun x => tU_1 _ _ _ _ _
    have e3 : ∀ x, frcU 1 x = frcN 16 11 x := fun x => tU_1 _ _ _ _ _
    have e4 : ∀ x, clsU 1 x = clsN 16 11 5 x := fun x => tU_1 _ _ _ _ _
    rw [e4] at h
    obtain ⟨h1, h2⟩ := sgn_N (B := 16) (P := 11) (F := 5) neg rfl (by decide) h
    rw [e0, e1, e2, e2, e3, e3, e4, e4]
    exact ⟨Nat.lt_of_lt_of_le h1 (Nat.pow_le_pow_right (by decide) (by decide)), h2⟩
  · have e0 : sgnU 2 neg a = sgnN 32 neg a := tU_2 _ _ _ _ _
    have e1 : ∀ x, negU 2 x = negN 32 x := fun x => tU_2 _ _ _ _ _
    have e2 : ∀ x, fldU 2 x = fldN 32 24 8 x := fun x => tU_2 _ _ _ _ _
    have e3 : ∀ x, frcU 2 x = frcN 32 24 x := fun x => tU_2 _ _ _ _ _
    have e4 : ∀ x, clsU 2 x = clsN 32 24 8 x := fun x => tU_2 _ _ _ _ _
    rw [e4] at h
    obtain ⟨h1, h2⟩ := sgn_N (B := 32) (P := 24) (F := 8) neg rfl (by decide) h
    rw [e0, e1, e2, e2, e3, e3, e4, e4]
    exact ⟨Nat.lt_of_lt_of_le h1 (Nat.pow_le_pow_right (by decide) (by decide)), h2⟩
  · have e0 : sgnU 3 neg a = sgnN 64 neg a := tU_3 _ _ _ _ _
    have e1 : ∀ x, negU 3 x = negN 64 x := fun x => tU_3 _ _ _ _ _
    have e2 : ∀ x, fldU 3 x = fldN 64 53 11 x := fun x => tU_3 _ _ _ _ _
    have e3 : ∀ x, frcU 3 x = frcN 64 53 x := fun x => tU_3 _ _ _ _ _
    have e4 : ∀ x, clsU 3 x = clsN 64 53 11 x := fun x => tU_3 _ _ _ _ _
    rw [e4] at h
    obtain ⟨h1, h2⟩ := sgn_N (B := 64) (P := 53) (F := 11) neg rfl (by decide) h
    rw [e0, e1, e2, e2, e3, e3, e4, e4]
    exact ⟨Nat.lt_of_lt_of_le h1 (Nat.pow_le_pow_right (by decide) (by decide)), h2⟩
  · have e0 : sgnU 4 neg a = sgnN 128 neg a := tU_4 _ _ _ _ _
    have e1 : ∀ x, negU 4 x = negN 128 x := fun x => tU_4 _ _ _ _ _
    have e2 : ∀ x, fldU 4 x = fldN 128 113 15 x := fun x => tU_4 _ _ _ _ _
    have e3 : ∀ x, frcU 4 x = frcN 128 113 x := fun x => tU_4 _ _ _ _ _
    have e4 : ∀ x, clsU 4 x = clsN 128 113 15 x := fun x => tU_4 _ _ _ _ _
    rw [e4] at h
    obtain ⟨h1, h2⟩ := sgn_N (B := 128) (P := 113) (F := 15) neg rfl (by decide) h
    rw [e0, e1, e2, e2, e3, e3, e4, e4]
    exact ⟨Nat.lt_of_lt_of_le h1 (Nat.pow_le_pow_right (by decide) (by decide)), h2⟩
  · exact absurd (tU_none f h0 _ _ _ _ _) h
theorem sgn_sig {f : Int} {a : Nat} (neg : Bool) (h : clsU f a ≠ 0) : sigU f (sgnU f neg a) = sigU f a ∧ expU f (sgnU f neg a) = expU f a := by
  obtain ⟨-, -, h1, h2, -⟩ := sgn_U neg h
  unfold sigU expU
  rw [h1, h2]
  exact ⟨rfl, rfl⟩
theorem take_zero (f : Int) (hf : 1 ≤ f ∧ f ≤ 4) (s : Nat) (z : Int) : takeB f s z 0 = true := by
  have h4 : 4 ≤ clsU f 0 ∧ sigU f 0 = 0 := by
    rcases f_cases f with rfl | rfl | rfl | rfl | h0
    · exact ⟨by decide +kernel, by decide +kernel⟩
    · exact ⟨by decide +kernel, by decide +kernel⟩
    · exact ⟨by decide +kernel, by decide +kernel⟩
    · exact ⟨by decide +kernel, by decide +kernel⟩
    · omega
  unfold takeB
  rw [decide_eq_true h4.1, Bool.true_and, decide_eq_true_iff, h4.2]
  refine (sizeZ_le _ _ _ _ (min (expU f 0) z) (by omega) (by omega)).2 ?_
  rw [vl_zero]
  exact Nat.zero_le _
/-- The greatest finite word that isn't above a number. -/
theorem find_ex (f : Int) (hf : 1 ≤ f ∧ f ≤ 4) (s : Nat) (z : Int) : ∃ X, FInv (takeB f s z) (mU f) 0 X := by
  obtain ⟨X, h⟩ := finv_ex (takeB_mono hf s z) (take_zero f hf s z) (mU f) (Nat.le_refl _)
  rw [Nat.sub_self] at h
  exact ⟨X, h⟩
theorem take_fin {f : Int} {s X : Nat} {z : Int} (h : takeB f s z X = true) : 4 ≤ clsU f X ∧ sizeZ (sigU f X) (expU f X) s z ≤ 0 := by
  unfold takeB at h
  rw [Bool.and_eq_true, decide_eq_true_iff, decide_eq_true_iff] at h
  exact h
/-- If a finite word stands for a number without its sign, the greatest one that isn't above it does. -/
theorem find_hit {f : Int} (hf : 1 ≤ f ∧ f ≤ 4) {s X a : Nat} {z : Int} (h : FInv (takeB f s z) (mU f) 0 X) (h4 : 4 ≤ clsU f a) (hz : sizeZ (sigU f a) (expU f a) s z = 0) : sizeZ (sigU f X) (expU f X) s z = 0 := by
  obtain ⟨-, x2, x3, x4⟩ := h
  have hc : clsU f a ≠ 0 := by omega
  obtain ⟨b1, b2, b3, b4, b5⟩ := sgn_U false hc
  obtain ⟨c1, c2⟩ := sgn_sig false hc
  rw [sgn_abs f a hc] at b1 b2 b3 b4 b5 c1 c2
  have hb := absU_lt a hf
  generalize absU f a = b at *
  have hx := take_fin x3
  have hle : b ≤ X := by
    rcases Nat.lt_or_ge X b with h1 | h1
    · have h2 := x4 b (by rw [Nat.pow_zero]; omega) hb
      unfold takeB at h2
      rw [c1, c2, b5, decide_eq_true h4, hz] at h2
      cases h2
    · exact h1
  rw [← c1, ← c2] at hz
  have lb := loU_le f b
  have lx := loU_le f X
  have e1 := (sizeZ_spec (sigU f b) s (expU f b) z (min (loU f) z) (by omega) (by omega)).2.1 hz
  have e2 := (sizeZ_le (sigU f X) s (expU f X) z (min (loU f) z) (by omega) (by omega)).1 hx.2
  refine (sizeZ_spec (sigU f X) s (expU f X) z (min (loU f) z) (by omega) (by omega)).2.2 (Nat.le_antisymm e2 ?_)
  rw [← e1, vl_up (m := loU f) (k := min (loU f) z) (by omega) lb, vl_up (m := loU f) (k := min (loU f) z) (by omega) lx, vl_word hf hb, vl_word hf x2]
  refine Nat.mul_le_mul_right _ ?_
  rcases Nat.lt_or_eq_of_le hle with h2 | h2
  · exact Nat.le_of_lt (valW_lt (Nat.two_pow_pos _) h2)
  · rw [h2]; exact Nat.le_refl _
end Go.Proofs.YtpcjdllijkjdkaaGreatDoor

