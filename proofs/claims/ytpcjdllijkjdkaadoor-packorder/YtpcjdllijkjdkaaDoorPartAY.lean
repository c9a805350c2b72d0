/- Contracts and laws: UnpO, UnpP, UnpJa, UnpQ, UnpR, UnpS. -/
import Derived.Test.YtpcjdllijkjdkaaDoorPartAX
import Derived.Test.YtpcjdllijkjdkaaDoorPartAW
/- Contracts: the document's Value, at any format. -/
set_option linter.unusedVariables false
set_option linter.unusedSimpArgs false
set_option maxRecDepth 8000
namespace Go.Proofs.YtpcjdllijkjdkaaDoor
open Go.RowKit Plain

def enU (f : Int) : Int := tU f (-14) (-126) (-1022) (-16382) 0
theorem prec_u (f : Int) (h : 1 ≤ f ∧ f ≤ 4) (w : World) : Calls Tryd.prog 34 #[.int .i64 f] w fun e w' => e = .returned (.int .i64 (prU f : Nat)) ∧ w' = w := by
  rcases f_cases f with rfl | rfl | rfl | rfl | h0
  · exact prec_1 w
  · exact prec_2 w
  · exact prec_3 w
  · exact prec_4 w
  · omega
theorem enU_eq (f : Int) (h : 1 ≤ f ∧ f ≤ 4) : enU f - (prU f : Int) + 1 = loU f ∧ -20000 ≤ enU f ∧ enU f ≤ 0 := by
  rcases f_cases f with rfl | rfl | rfl | rfl | h0
  · decide
  · decide
  · decide
  · decide
  · omega
theorem len_shift {x : Nat} (k : Nat) (h : x ≠ 0) : Go.bitLen (x * 2 ^ k) = Go.bitLen x + k := by
  have h1 := len_lt x
  have h2 := len_ge h
  have h3 := len_pos h
  have a1 : Go.bitLen (x * 2 ^ k) ≤ Go.bitLen x + k := (len_le _ _).2 (by rw [Nat.pow_add]; exact Nat.mul_lt_mul_of_pos_right h1 (Nat.two_pow_pos _))
  have a2 : ¬ Go.bitLen (x * 2 ^ k) ≤ Go.bitLen x + k - 1 := fun h4 => by
    have h5 := (len_le _ _).1 h4
    rw [show Go.bitLen x + k - 1 = Go.bitLen x - 1 + k by omega, Nat.pow_add] at h5
    have h6 := Nat.lt_of_mul_lt_mul_right h5
    omega
  omega
end Go.Proofs.YtpcjdllijkjdkaaDoor

/- Contracts: unpack.Exact at a number that no word stands for. -/
set_option linter.unusedVariables false
set_option linter.unusedSimpArgs false
set_option maxRecDepth 8000
namespace Go.Proofs.YtpcjdllijkjdkaaDoor
open Go.RowKit Plain

theorem cls_finN {B P F a : Nat} (h0 : clsN B P F a ≠ 0) (h : fldN B P F a + 2 ≤ 2 ^ F) : 4 ≤ clsN B P F a := by
  have hb := cls_fit h0
  rw [show fldN B P F a = a / 2 ^ (P - 1) % 2 ^ F from if_pos hb] at h
  unfold clsN clsP
  rw [if_pos hb, if_neg (by omega)]
  repeat' split
  all_goals omega
theorem cls_fin {f : Int} {a : Nat} (h0 : clsU f a ≠ 0) (h : (fldU f a : Int) ≤ 2 * emU f) : 4 ≤ clsU f a := by
  have hf := cls_form h0
  rcases f_cases f with rfl | rfl | rfl | rfl | h1
  · exact cls_finN (B := 16) (P := 11) (F := 5) h0 (by have h2 : ((fldN 16 11 5 a : Nat) : Int) ≤ 2 * 15 := h; omega)
  · exact cls_finN (B := 32) (P := 24) (F := 8) h0 (by have h2 : ((fldN 32 24 8 a : Nat) : Int) ≤ 2 * 127 := h; omega)
  · exact cls_finN (B := 64) (P := 53) (F := 11) h0 (by have h2 : ((fldN 64 53 11 a : Nat) : Int) ≤ 2 * 1023 := h; omega)
  · exact cls_finN (B := 128) (P := 113) (F := 15) h0 (by have h2 : ((fldN 128 113 15 a : Nat) : Int) ≤ 2 * 16383 := h; omega)
  · omega
theorem emU_nn (f : Int) (hf : 1 ≤ f ∧ f ≤ 4) : 0 ≤ emU f := by
  rcases f_cases f with rfl | rfl | rfl | rfl | h0
  · decide
  · decide
  · decide
  · decide
  · omega
/-- The word of a field and a fraction. -/
theorem parts_word (f : Int) (hf : 1 ≤ f ∧ f ≤ 4) (neg : Bool) (z : Int) (b : Nat) (h1 : 0 ≤ z) (h2 : z ≤ 2 * emU f) (h3 : b < 2 ^ (prU f - 1)) : ∃ a, a < 2 ^ 128 ∧ 4 ≤ clsU f a ∧ negU f a = neg ∧ ((fldU f a : Nat) : Int) = z ∧ frcU f a = b := by
  have hc : tU f (0 ≤ z ∧ z < 2 ^ 5 ∧ b < 2 ^ 10) (0 ≤ z ∧ z < 2 ^ 8 ∧ b < 2 ^ 23) (0 ≤ z ∧ z < 2 ^ 11 ∧ b < 2 ^ 52) (0 ≤ z ∧ z < 2 ^ 15 ∧ b < 2 ^ 112) False := by
    rcases f_cases f with rfl | rfl | rfl | rfl | h0
    · rw [tU_1]
      have h4 : z ≤ 2 * 15 := h2
      exact ⟨h1, by omega, h3⟩
    · rw [tU_2]
      have h4 : z ≤ 2 * 127 := h2
      exact ⟨h1, by omega, h3⟩
    · rw [tU_3]
      have h4 : z ≤ 2 * 1023 := h2
      exact ⟨h1, by omega, h3⟩
    · rw [tU_4]
      have h4 : z ≤ 2 * 16383 := h2
      exact ⟨h1, by omega, h3⟩
    · omega
  obtain ⟨a, ha, e1, e2, e3, -, e4, -⟩ := makeYes_u f neg z b hc
  exact ⟨a, ha, cls_fin e4 (by omega), e1, e2, e3⟩
/-- The word of a Sig and an Exp that fit. -/
theorem word_of (f : Int) (hf : 1 ≤ f ∧ f ≤ 4) (neg : Bool) (u : Nat) (la : Int) (h1 : Go.bitLen u ≤ prU f) (h2 : loU f ≤ la) (h3 : Go.bitLen u < prU f → la = loU f) (h4 : la + (Go.bitLen u : Int) - 1 ≤ emU f) :
    ∃ a, a < 2 ^ 128 ∧ 4 ≤ clsU f a ∧ negU f a = neg ∧ sigU f a = u ∧ expU f a = la := by
  have hp := prU_bd f hf
  have hle := loU_eq f hf
  have hem := emU_nn f hf
  by_cases h5 : Go.bitLen u < prU f
  · obtain ⟨a, ha, e1, e2, e3, e4⟩ := parts_word f hf neg 0 u (by omega) (by omega) ((len_le u (prU f - 1)).1 (by omega))
    have e5 : fldU f a = 0 := by omega
    exact ⟨a, ha, e1, e2, by unfold sigU; rw [if_pos e5]; exact e4, by unfold expU; rw [if_pos e5]; exact (h3 h5).symm⟩
  · have h6 := (len_le u (prU f)).1 h1
    have h7 : ¬ u < 2 ^ (prU f - 1) := fun h => by
      have := (len_le u (prU f - 1)).2 h
      omega
    have h8 : 2 ^ prU f = 2 * 2 ^ (prU f - 1) := by rw [← Nat.pow_succ']; congr 1; omega
    obtain ⟨a, ha, e1, e2, e3, e4⟩ := parts_word f hf neg (la - loU f + 1) (u - 2 ^ (prU f - 1)) (by omega) (by omega) (by omega)
    have e5 : fldU f a ≠ 0 := by omega
    exact ⟨a, ha, e1, e2, by unfold sigU; rw [if_neg e5, e4]; omega, by unfold expU; rw [if_neg e5]; omega⟩
end Go.Proofs.YtpcjdllijkjdkaaDoor

/- The words of a format, without their signs, rise as their numbers do. -/
set_option linter.unusedVariables false
set_option linter.unusedSimpArgs false
set_option maxRecDepth 8000
namespace Go.Proofs.YtpcjdllijkjdkaaDoor
open Go.RowKit Plain

/-- What a word's number without a sign stands for, in units of the format's least place. -/
def valW (H x : Nat) : Nat := if x / H = 0 then x % H else (H + x % H) * 2 ^ (x / H - 1)
theorem valW_step (H x : Nat) (hH : 0 < H) : valW H x < valW H (x + 1) := by
  unfold valW
  have hm := Nat.mod_lt x hH
  have hd := Nat.div_add_mod x H
  rcases Nat.lt_or_ge (x % H + 1) H with h | h
  · have e1 : (x + 1) / H = x / H := by
      refine Nat.div_eq_of_lt_le ?_ ?_
      · rw [Nat.mul_comm]; omega
      · rw [Nat.succ_mul, Nat.mul_comm]; omega
    have e2 : (x + 1) % H = x % H + 1 := by
      have := Nat.div_add_mod (x + 1) H
      rw [e1] at this
      omega
    rw [e1, e2]
    split
    · omega
    · rw [← Nat.add_assoc, Nat.succ_mul]
      have := Nat.two_pow_pos (x / H - 1)
      omega
  · have e0 : x + 1 = H * (x / H + 1) := by rw [Nat.mul_succ]; omega
    have e1 : (x + 1) / H = x / H + 1 := by rw [e0, Nat.mul_div_cancel_left _ hH]
    have e2 : (x + 1) % H = 0 := by rw [e0, Nat.mul_mod_right]
    rw [e1, e2, if_neg (Nat.succ_ne_zero _), Nat.add_zero, Nat.add_sub_cancel]
    split
    · rename_i h0
      rw [h0, Nat.pow_zero]
      omega
    · rename_i h0
      obtain ⟨k, hk⟩ := Nat.exists_eq_succ_of_ne_zero h0
      rw [Nat.succ_eq_add_one] at hk
      rw [hk, Nat.add_sub_cancel, Nat.pow_succ, Nat.mul_comm (2 ^ k) 2, ← Nat.mul_assoc]
      exact Nat.mul_lt_mul_of_pos_right (by omega) (Nat.two_pow_pos k)
theorem valW_lt {H x y : Nat} (hH : 0 < H) (h : x < y) : valW H x < valW H y := by
  induction y with
  | zero => omega
  | succ y ih =>
    have h1 := valW_step H y hH
    rcases Nat.lt_or_ge x y with h2 | h2
    · have := ih h2
      omega
    · obtain rfl : x = y := by omega
      exact h1
theorem valW_iff {H x y : Nat} (hH : 0 < H) : (valW H x < valW H y ↔ x < y) ∧ (valW H x = valW H y ↔ x = y) := by
  rcases Nat.lt_trichotomy x y with h | h | h
  · have := valW_lt hH h
    exact ⟨by omega, by omega⟩
  · subst h
    exact ⟨by omega, by omega⟩
  · have := valW_lt hH h
    exact ⟨by omega, by omega⟩

/-- A format's bits without the sign's. -/
def mU (f : Int) : Nat := tU f 15 31 63 127 0
theorem fldN_low {B P F a : Nat} (hB : B = P + F) (hP : 0 < P) (h : a < 2 ^ (B - 1)) : fldN B P F a = a / 2 ^ (P - 1) ∧ frcN B P a = a % 2 ^ (P - 1) := by
  have h2 : 2 ^ (B - 1) ≤ 2 ^ B := Nat.pow_le_pow_right (by decide) (by omega)
  unfold fldN frcN
  rw [if_pos (by omega), if_pos (by omega)]
  refine ⟨Nat.mod_eq_of_lt ?_, rfl⟩
  rw [Nat.div_lt_iff_lt_mul (Nat.two_pow_pos _), ← Nat.pow_add, show F + (P - 1) = B - 1 by omega]
  exact h
theorem fldU_low {f : Int} {a : Nat} (hf : 1 ≤ f ∧ f ≤ 4) (h : a < 2 ^ mU f) : fldU f a = a / 2 ^ (prU f - 1) ∧ frcU f a = a % 2 ^ (prU f - 1) := by
  rcases f_cases f with rfl | rfl | rfl | rfl | h0
  · exact fldN_low (B := 16) (P := 11) (F := 5) rfl (by decide) h
  · exact fldN_low (B := 32) (P := 24) (F := 8) rfl (by decide) h
  · exact fldN_low (B := 64) (P := 53) (F := 11) rfl (by decide) h
  · exact fldN_low (B := 128) (P := 113) (F := 15) rfl (by decide) h
  · omega
theorem absU_lt {f : Int} (a : Nat) (hf : 1 ≤ f ∧ f ≤ 4) : absU f a < 2 ^ mU f := by
  rcases f_cases f with rfl | rfl | rfl | rfl | h0
  · show absN 16 a < 2 ^ 15
    unfold absN; split
    · exact Nat.mod_lt _ (by decide)
    · decide
  · show absN 32 a < 2 ^ 31
    unfold absN; split
    · exact Nat.mod_lt _ (by decide)
    · decide
  · show absN 64 a < 2 ^ 63
    unfold absN; split
    · exact Nat.mod_lt _ (by decide)
    · decide
  · show absN 128 a < 2 ^ 127
    unfold absN; split
    · exact Nat.mod_lt _ (by decide)
    · decide
  · omega
theorem loU_le (f : Int) (a : Nat) : loU f ≤ expU f a := by unfold expU; split <;> omega
theorem vl_word {f : Int} {a : Nat} (hf : 1 ≤ f ∧ f ≤ 4) (h : a < 2 ^ mU f) : vl (sigU f a) (expU f a) (loU f) = valW (2 ^ (prU f - 1)) a := by
  obtain ⟨h1, h2⟩ := fldU_low hf h
  unfold vl sigU expU valW
  rw [h1, h2]
  by_cases h0 : a / 2 ^ (prU f - 1) = 0
  · rw [if_pos h0, if_pos h0, if_pos h0, show (loU f - loU f).toNat = 0 by omega, Nat.pow_zero, Nat.mul_one]
  · rw [if_neg h0, if_neg h0, if_neg h0, Nat.add_comm, show (loU f + (((a / 2 ^ (prU f - 1) : Nat) : Int) - 1) - loU f).toNat = a / 2 ^ (prU f - 1) - 1 by omega]

end Go.Proofs.YtpcjdllijkjdkaaDoor

/- Numbers for the document's Find: the greatest word that isn't above a number, bit by bit. -/
set_option linter.unusedVariables false
set_option linter.unusedSimpArgs false
set_option maxRecDepth 8000
namespace Go.Proofs.YtpcjdllijkjdkaaDoor
open Go.RowKit Plain

/-- What stands behind the bits from c on: out has no lower bit, is taken, and nothing from out + 2^c on is. -/
def FInv (p : Nat → Bool) (M c x : Nat) : Prop := x % 2 ^ c = 0 ∧ x < 2 ^ M ∧ p x = true ∧ ∀ y, x + 2 ^ c ≤ y → y < 2 ^ M → p y = false
theorem finv_fit {p : Nat → Bool} {M c x : Nat} (h : FInv p M (c + 1) x) (hc : c + 1 ≤ M) : x + 2 ^ c < 2 ^ M := by
  obtain ⟨h1, h2, -, -⟩ := h
  obtain ⟨k, hk⟩ := Nat.dvd_of_mod_eq_zero h1
  have e : 2 ^ M = 2 ^ (c + 1) * 2 ^ (M - (c + 1)) := by rw [← Nat.pow_add]; congr 1; omega
  rw [hk, e] at h2
  have h3 : k < 2 ^ (M - (c + 1)) := Nat.lt_of_mul_lt_mul_left h2
  have h4 : 2 ^ (c + 1) * (k + 1) ≤ 2 ^ (c + 1) * 2 ^ (M - (c + 1)) := Nat.mul_le_mul_left _ h3
  have h5 := Nat.two_pow_pos c
  rw [hk, e]
  rw [Nat.mul_succ] at h4
  rw [Nat.pow_succ] at h4 ⊢
  omega
theorem finv_take {p : Nat → Bool} {M c x : Nat} (h : FInv p M (c + 1) x) (hc : c + 1 ≤ M) (hp : p (x + 2 ^ c) = true) : FInv p M c (x + 2 ^ c) := by
  have hf := finv_fit h hc
  obtain ⟨h1, h2, h3, h4⟩ := h
  refine ⟨?_, hf, hp, fun y hy hm => h4 y ?_ hm⟩
  · obtain ⟨k, hk⟩ := Nat.dvd_of_mod_eq_zero h1
    rw [Nat.add_mod_right, hk, Nat.pow_succ, Nat.mul_assoc, Nat.mul_mod_right]
  · rw [Nat.pow_succ]
    omega
theorem finv_leave {p : Nat → Bool} {M c x : Nat} (h : FInv p M (c + 1) x) (hm : ∀ a b, a ≤ b → b < 2 ^ M → p b = true → p a = true) (hp : p (x + 2 ^ c) = false) : FInv p M c x := by
  obtain ⟨h1, h2, h3, h4⟩ := h
  refine ⟨?_, h2, h3, fun y hy hy2 => ?_⟩
  · obtain ⟨k, hk⟩ := Nat.dvd_of_mod_eq_zero h1
    rw [hk, Nat.pow_succ, Nat.mul_assoc, Nat.mul_mod_right]
  · cases hpy : p y
    · rfl
    · have := hm _ _ hy hy2 hpy
      rw [hp] at this
      cases this
/-- Is a word finite, and not above a number? -/
def takeB (f : Int) (s : Nat) (z : Int) (x : Nat) : Bool := decide (4 ≤ clsU f x) && decide (sizeZ (sigU f x) (expU f x) s z ≤ 0)
theorem inf_low {B P F a : Nat} (hB : B = P + F) (hP : 0 < P) (h : a < 2 ^ (B - 1)) : 4 ≤ clsN B P F a ↔ a / 2 ^ (P - 1) + 2 ≤ 2 ^ F := by
  have h1 := (fldN_low hB hP h).1
  have h2 : 2 ^ (B - 1) ≤ 2 ^ B := Nat.pow_le_pow_right (by decide) (by omega)
  rw [← h1]
  exact ⟨fin_fldN, fun h3 => cls_finN (clsN_ne (by omega)) h3⟩
/-- Words below a finite one are finite. -/
theorem fin_down {f : Int} {a b : Nat} (hf : 1 ≤ f ∧ f ≤ 4) (h : a ≤ b) (hb : b < 2 ^ mU f) (hc : 4 ≤ clsU f b) : 4 ≤ clsU f a := by
  have ha : a < 2 ^ mU f := by omega
  have key : ∀ {P : Nat}, a / 2 ^ (P - 1) ≤ b / 2 ^ (P - 1) := fun {P} => Nat.div_le_div_right h
  rcases f_cases f with rfl | rfl | rfl | rfl | h0
  · have h1 := (inf_low (B := 16) (P := 11) (F := 5) rfl (by decide) hb).1 hc
    exact (inf_low (B := 16) (P := 11) (F := 5) rfl (by decide) ha).2 (by have := key (P := 11); omega)
  · have h1 := (inf_low (B := 32) (P := 24) (F := 8) rfl (by decide) hb).1 hc
    exact (inf_low (B := 32) (P := 24) (F := 8) rfl (by decide) ha).2 (by have := key (P := 24); omega)
  · have h1 := (inf_low (B := 64) (P := 53) (F := 11) rfl (by decide) hb).1 hc
    exact (inf_low (B := 64) (P := 53) (F := 11) rfl (by decide) ha).2 (by have := key (P := 53); omega)
  · have h1 := (inf_low (B := 128) (P := 113) (F := 15) rfl (by decide) hb).1 hc
    exact (inf_low (B := 128) (P := 113) (F := 15) rfl (by decide) ha).2 (by have := key (P := 113); omega)
  · omega
/-- Which of two is the lesser, whatever exponent both are brought to. -/
theorem sizeZ_le (a b : Nat) (ea eb m : Int) (h1 : m ≤ ea) (h2 : m ≤ eb) : sizeZ a ea b eb ≤ 0 ↔ vl a ea m ≤ vl b eb m := by
  have h := sizeZ_spec a b ea eb m h1 h2
  constructor
  · intro h3
    rcases Int.lt_or_eq_of_le h3 with h4 | h4
    · exact Nat.le_of_lt (h.1.1 h4)
    · exact Nat.le_of_eq (h.2.1 h4)
  · intro h3
    rcases Nat.lt_or_eq_of_le h3 with h4 | h4
    · exact Int.le_of_lt (h.1.2 h4)
    · exact Int.le_of_eq (h.2.2 h4)
theorem takeB_mono {f : Int} (hf : 1 ≤ f ∧ f ≤ 4) (s : Nat) (z : Int) (a b : Nat) (h : a ≤ b) (hb : b < 2 ^ mU f) (ht : takeB f s z b = true) : takeB f s z a = true := by
  unfold takeB at ht ⊢
  rw [Bool.and_eq_true, decide_eq_true_iff, decide_eq_true_iff] at ht ⊢
  refine ⟨fin_down hf h hb ht.1, ?_⟩
  have la := loU_le f a
  have lb := loU_le f b
  have h1 := (sizeZ_le _ _ _ _ (min (loU f) z) (by omega) (by omega)).1 ht.2
  refine (sizeZ_le _ _ _ _ (min (loU f) z) (by omega) (by omega)).2 (Nat.le_trans ?_ h1)
  rw [vl_up (m := loU f) (k := min (loU f) z) (by omega) la, vl_up (m := loU f) (k := min (loU f) z) (by omega) lb, vl_word hf (by omega), vl_word hf hb]
  refine Nat.mul_le_mul_right _ ?_
  rcases Nat.lt_or_eq_of_le h with h2 | h2
  · exact Nat.le_of_lt (valW_lt (Nat.two_pow_pos _) h2)
  · rw [h2]; exact Nat.le_refl _

end Go.Proofs.YtpcjdllijkjdkaaDoor

/- Contracts: the document's Find: the greatest word that isn't above a number. -/
set_option linter.unusedVariables false
set_option linter.unusedSimpArgs false
set_option maxRecDepth 8000
namespace Go.Proofs.YtpcjdllijkjdkaaDoor
open Go.RowKit Plain

theorem finv_ex {p : Nat → Bool} {M : Nat} (hm : ∀ a b, a ≤ b → b < 2 ^ M → p b = true → p a = true) (h0 : p 0 = true) (c : Nat) (hc : c ≤ M) : ∃ x, FInv p M (M - c) x := by
  induction c with
  | zero => exact ⟨0, Nat.zero_mod _, Nat.two_pow_pos _, h0, fun y h1 h2 => by rw [Nat.sub_zero] at h1; omega⟩
  | succ c ih =>
    obtain ⟨x, hx⟩ := ih (by omega)
    rw [show M - c = M - (c + 1) + 1 by omega] at hx
    cases hp : p (x + 2 ^ (M - (c + 1)))
    · exact ⟨x, finv_leave hx hm hp⟩
    · exact ⟨_, finv_take hx (by omega) hp⟩
section
variable {neg : Bool} {z : Int} {s : Nat} {ao : Option Addr} {l ca x : Nat} {w W W' : World}
end
theorem wb_new2 (w : World) (x y : Nat) (e : TypeId) : WB (w.alloc (.cells #[.int .u64 (x : Nat), .int .u64 (y : Nat)] e)) w.heap.size x y :=
  ⟨by simp [go_sem], by simp [go_sem], by simp⟩
end Go.Proofs.YtpcjdllijkjdkaaDoor

/- Contracts: the document's Exact. -/
set_option linter.unusedVariables false
set_option linter.unusedSimpArgs false
set_option maxRecDepth 8000
namespace Go.Proofs.YtpcjdllijkjdkaaDoor
open Go.RowKit Plain

theorem sgn_N {B P F a : Nat} (neg : Bool) (hB : B = P + F) (hP : 0 < P) (h : clsN B P F a ≠ 0) :
    sgnN B neg a < 2 ^ B ∧ negN B (sgnN B neg a) = neg ∧ fldN B P F (sgnN B neg a) = fldN B P F a ∧ frcN B P (sgnN B neg a) = frcN B P a ∧ clsN B P F (sgnN B neg a) = clsN B P F a := by
  have ha := cls_fit h
  subst hB
  have h1 : 2 ^ (P + F) = 2 * 2 ^ (P + F - 1) := pow_half (P + F) (by omega)
  have hm : sgnN (P + F) neg a % 2 ^ (P + F - 1) = a % 2 ^ (P + F - 1) := by
    unfold sgnN
    rw [Nat.mul_comm, Nat.mul_add_mod, Nat.mod_mod]
  have hr : a % 2 ^ (P + F - 1) < 2 ^ (P + F - 1) := Nat.mod_lt _ (Nat.two_pow_pos _)
  have hs : sgnN (P + F) neg a < 2 ^ (P + F) := by
    unfold sgnN
    cases neg
    · show 0 * _ + _ < _; omega
    · show 1 * _ + _ < _; omega
  have hd : sgnN (P + F) neg a / 2 ^ (P + F - 1) = neg.toNat := by
    unfold sgnN
    rw [Nat.mul_comm, Nat.mul_add_div (Nat.two_pow_pos _), Nat.div_eq_of_lt hr, Nat.add_zero]
  have e : P + F - 1 = P - 1 + F := by omega
  refine ⟨hs, ?_, ?_, ?_, cls_mod hP hs ha hm⟩
  · unfold negN
    rw [decide_eq_true hs, Bool.true_and, hd]
    cases neg <;> rfl
  · rw [show fldN (P + F) P F (sgnN (P + F) neg a) = sgnN (P + F) neg a / 2 ^ (P - 1) % 2 ^ F from if_pos hs, show fldN (P + F) P F a = a / 2 ^ (P - 1) % 2 ^ F from if_pos ha, fld_mod, fld_mod a, ← e, hm]
  · rw [show frcN (P + F) P (sgnN (P + F) neg a) = sgnN (P + F) neg a % 2 ^ (P - 1) from if_pos hs, show frcN (P + F) P a = a % 2 ^ (P - 1) from if_pos ha, frc_mod _ (P - 1) F, frc_mod a (P - 1) F, ← e, hm]
theorem sgn_U {f : Int} {a : Nat} (neg : Bool) (h : clsU f a ≠ 0) : sgnU f neg a < 2 ^ 128 ∧ negU f (sgnU f neg a) = neg ∧ fldU f (sgnU f neg a) = fldU f a ∧ frcU f (sgnU f neg a) = frcU f a ∧ clsU f (sgnU f neg a) = clsU f a := by
  rcases f_cases f with rfl | rfl | rfl | rfl | h0
  · have e0 : sgnU 1 neg a = sgnN 16 neg a := tU_1 _ _ _ _ _
    have e1 : ∀ x, negU 1 x = negN 16 x := fun x => tU_1 _ _ _ _ _
    have e2 : ∀ x, fldU 1 x = fldN 16 11 5 x := fun x => tU_1 _ _ _ _ _
    have e3 : ∀ x, frcU 1 x = frcN 16 11 x := fun x => tU_1 _ _ _ _ _
    have e4 : ∀ x, clsU 1 x = clsN 16 11 5 x := fun x => tU_1 _ _ _ _ _
    rw [e4] at h
    obtain ⟨h1, h2⟩ := sgn_N (B := 16) (P := 11) (F := 5) neg rfl (by decide) h
    rw [e0, e1, e2, e2, e3, e3, e4, e4]
    exact ⟨Nat.lt_of_lt_of_le h1 (Nat.pow_le_pow_right (by decide) (by decide)), h2⟩
  · have e0 : sgnU 2 neg a = sgnN 32 neg a := tU_2 _ _ _ _ _
    have e1 : ∀ x, negU 2 x = negN 32 x := fun x => tU_2 _ _ _ _ _
    have e2 : ∀ x, fldU 2 x = fldN 32 24 8 x := fun x => tU_2 _ _ _ _ _
    have e3 : ∀ x, frcU 2 x = frcN 32 24 x := fun x => tU_2 _ _ _ _ _
    have e4 : ∀ x, clsU 2 x = clsN 32 24 8 x := fun x => tU_2 _ _ _ _ _
    rw [e4] at h
    obtain ⟨h1, h2⟩ := sgn_N (B := 32) (P := 24) (F := 8) neg rfl (by decide) h
    rw [e0, e1, e2, e2, e3, e3, e4, e4]
    exact ⟨Nat.lt_of_lt_of_le h1 (Nat.pow_le_pow_right (by decide) (by decide)), h2⟩
  · have e0 : sgnU 3 neg a = sgnN 64 neg a := tU_3 _ _ _ _ _
    have e1 : ∀ x, negU 3 x = negN 64 x := fun x => tU_3 _ _ _ _ _
    have e2 : ∀ x, fldU 3 x = fldN 64 53 11 x := fun x => tU_3 _ _ _ _ _
    have e3 : ∀ x, frcU 3 x = frcN 64 53 x := fun x => tU_3 _ _ _ _ _
    have e4 : ∀ x, clsU 3 x = clsN 64 53 11 x := fun x => tU_3 _ _ _ _ _
    rw [e4] at h
    obtain ⟨h1, h2⟩ := sgn_N (B := 64) (P := 53) (F := 11) neg rfl (by decide) h
    rw [e0, e1, e2, e2, e3, e3, e4, e4]
    exact ⟨Nat.lt_of_lt_of_le h1 (Nat.pow_le_pow_right (by decide) (by decide)), h2⟩
  · have e0 : sgnU 4 neg a = sgnN 128 neg a := tU_4 _ _ _ _ _
    have e1 : ∀ x, negU 4 x = negN 128 x := fun x => tU_4 _ _ _ _ _
    have e2 : ∀ x, fldU 4 x = fldN 128 113 15 x := fun x => tU_4 _ _ _ _ _
    have e3 : ∀ x, frcU 4 x = frcN 128 113 x := fun x => tU_4 _ _ _ _ _
    have e4 : ∀ x, clsU 4 x = clsN 128 113 15 x := fun x => tU_4 _ _ _ _ _
    rw [e4] at h
    obtain ⟨h1, h2⟩ := sgn_N (B := 128) (P := 113) (F := 15) neg rfl (by decide) h
    rw [e0, e1, e2, e2, e3, e3, e4, e4]
    exact ⟨Nat.lt_of_lt_of_le h1 (Nat.pow_le_pow_right (by decide) (by decide)), h2⟩
  · exact absurd (tU_none f h0 _ _ _ _ _) h
theorem sgn_sig {f : Int} {a : Nat} (neg : Bool) (h : clsU f a ≠ 0) : sigU f (sgnU f neg a) = sigU f a ∧ expU f (sgnU f neg a) = expU f a := by
  obtain ⟨-, -, h1, h2, -⟩ := sgn_U neg h
  unfold sigU expU
  rw [h1, h2]
  exact ⟨rfl, rfl⟩
theorem take_zero (f : Int) (hf : 1 ≤ f ∧ f ≤ 4) (s : Nat) (z : Int) : takeB f s z 0 = true := by
  have h4 : 4 ≤ clsU f 0 ∧ sigU f 0 = 0 := by
    rcases f_cases f with rfl | rfl | rfl | rfl | h0
    · exact ⟨by decide +kernel, by decide +kernel⟩
    · exact ⟨by decide +kernel, by decide +kernel⟩
    · exact ⟨by decide +kernel, by decide +kernel⟩
    · exact ⟨by decide +kernel, by decide +kernel⟩
    · omega
  unfold takeB
  rw [decide_eq_true h4.1, Bool.true_and, decide_eq_true_iff, h4.2]
  refine (sizeZ_le _ _ _ _ (min (expU f 0) z) (by omega) (by omega)).2 ?_
  rw [vl_zero]
  exact Nat.zero_le _
/-- The greatest finite word that isn't above a number. -/
theorem find_ex (f : Int) (hf : 1 ≤ f ∧ f ≤ 4) (s : Nat) (z : Int) : ∃ X, FInv (takeB f s z) (mU f) 0 X := by
  obtain ⟨X, h⟩ := finv_ex (takeB_mono hf s z) (take_zero f hf s z) (mU f) (Nat.le_refl _)
  rw [Nat.sub_self] at h
  exact ⟨X, h⟩
theorem take_fin {f : Int} {s X : Nat} {z : Int} (h : takeB f s z X = true) : 4 ≤ clsU f X ∧ sizeZ (sigU f X) (expU f X) s z ≤ 0 := by
  unfold takeB at h
  rw [Bool.and_eq_true, decide_eq_true_iff, decide_eq_true_iff] at h
  exact h
/-- If a finite word stands for a number without its sign, the greatest one that isn't above it does. -/
theorem find_hit {f : Int} (hf : 1 ≤ f ∧ f ≤ 4) {s X a : Nat} {z : Int} (h : FInv (takeB f s z) (mU f) 0 X) (h4 : 4 ≤ clsU f a) (hz : sizeZ (sigU f a) (expU f a) s z = 0) : sizeZ (sigU f X) (expU f X) s z = 0 := by
  obtain ⟨-, x2, x3, x4⟩ := h
  have hc : clsU f a ≠ 0 := by omega
  obtain ⟨b1, b2, b3, b4, b5⟩ := sgn_U false hc
  obtain ⟨c1, c2⟩ := sgn_sig false hc
  rw [sgn_abs f a hc] at b1 b2 b3 b4 b5 c1 c2
  have hb := absU_lt a hf
  generalize absU f a = b at *
  have hx := take_fin x3
  have hle : b ≤ X := by
    rcases Nat.lt_or_ge X b with h1 | h1
    · have h2 := x4 b (by rw [Nat.pow_zero]; omega) hb
      unfold takeB at h2
      rw [c1, c2, b5, decide_eq_true h4, hz] at h2
      cases h2
    · exact h1
  rw [← c1, ← c2] at hz
  have lb := loU_le f b
  have lx := loU_le f X
  have e1 := (sizeZ_spec (sigU f b) s (expU f b) z (min (loU f) z) (by omega) (by omega)).2.1 hz
  have e2 := (sizeZ_le (sigU f X) s (expU f X) z (min (loU f) z) (by omega) (by omega)).1 hx.2
  refine (sizeZ_spec (sigU f X) s (expU f X) z (min (loU f) z) (by omega) (by omega)).2.2 (Nat.le_antisymm e2 ?_)
  rw [← e1, vl_up (m := loU f) (k := min (loU f) z) (by omega) lb, vl_up (m := loU f) (k := min (loU f) z) (by omega) lx, vl_word hf hb, vl_word hf x2]
  refine Nat.mul_le_mul_right _ ?_
  rcases Nat.lt_or_eq_of_le hle with h2 | h2
  · exact Nat.le_of_lt (valW_lt (Nat.two_pow_pos _) h2)
  · rw [h2]; exact Nat.le_refl _
end Go.Proofs.YtpcjdllijkjdkaaDoor

