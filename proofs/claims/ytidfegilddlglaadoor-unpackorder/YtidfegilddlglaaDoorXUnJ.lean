/- Contracts and laws: UnpJ. -/
import Derived.Test.YtidfegilddlglaaDoorXUnI
/- The words of a format, without their signs, rise as their numbers do; == on words. -/
set_option linter.unusedVariables false
set_option linter.unusedSimpArgs false
set_option maxRecDepth 8000
namespace Go.Proofs.YtidfegilddlglaaDoor
open Go.RowKit Plain

/-- What a word's number without a sign stands for, in units of the format's least place. -/
def valW (H x : Nat) : Nat := if x / H = 0 then x % H else (H + x % H) * 2 ^ (x / H - 1)
theorem valW_step (H x : Nat) (hH : 0 < H) : valW H x < valW H (x + 1) := by
  unfold valW
  have hm := Nat.mod_lt x hH
  have hd := Nat.div_add_mod x H
  rcases Nat.lt_or_ge (x % H + 1) H with h | h
  · have e1 : (x + 1) / H = x / H := by
      refine Nat.div_eq_of_lt_le ?_ ?_
      · rw [Nat.mul_comm]; omega
      · rw [Nat.succ_mul, Nat.mul_comm]; omega
    have e2 : (x + 1) % H = x % H + 1 := by
      have := Nat.div_add_mod (x + 1) H
      rw [e1] at this
      omega
    rw [e1, e2]
    split
    · omega
    · rw [← Nat.add_assoc, Nat.succ_mul]
      have := Nat.two_pow_pos (x / H - 1)
      omega
  · have e0 : x + 1 = H * (x / H + 1) := by rw [Nat.mul_succ]; omega
    have e1 : (x + 1) / H = x / H + 1 := by rw [e0, Nat.mul_div_cancel_left _ hH]
    have e2 : (x + 1) % H = 0 := by rw [e0, Nat.mul_mod_right]
    rw [e1, e2, if_neg (Nat.succ_ne_zero _), Nat.add_zero, Nat.add_sub_cancel]
    split
    · rename_i h0
      rw [h0, Nat.pow_zero]
      omega
    · rename_i h0
      obtain ⟨k, hk⟩ := Nat.exists_eq_succ_of_ne_zero h0
      rw [Nat.succ_eq_add_one] at hk
      rw [hk, Nat.add_sub_cancel, Nat.pow_succ, Nat.mul_comm (2 ^ k) 2, ← Nat.mul_assoc]
      exact Nat.mul_lt_mul_of_pos_right (by omega) (Nat.two_pow_pos k)
theorem valW_lt {H x y : Nat} (hH : 0 < H) (h : x < y) : valW H x < valW H y := by
  induction y with
  | zero => omega
  | succ y ih =>
    have h1 := valW_step H y hH
    rcases Nat.lt_or_ge x y with h2 | h2
    · have := ih h2
      omega
    · obtain rfl : x = y := by omega
      exact h1
theorem valW_iff {H x y : Nat} (hH : 0 < H) : (valW H x < valW H y ↔ x < y) ∧ (valW H x = valW H y ↔ x = y) := by
  rcases Nat.lt_trichotomy x y with h | h | h
  · have := valW_lt hH h
    exact ⟨by omega, by omega⟩
  · subst h
    exact ⟨by omega, by omega⟩
  · have := valW_lt hH h
    exact ⟨by omega, by omega⟩

/-- A format's bits without the sign's. -/
def mU (f : Int) : Nat := tU f 15 31 63 127 0
theorem fldN_low {B P F a : Nat} (hB : B = P + F) (hP : 0 < P) (h : a < 2 ^ (B - 1)) : fldN B P F a = a / 2 ^ (P - 1) ∧ frcN B P a = a % 2 ^ (P - 1) := by
  have h2 : 2 ^ (B - 1) ≤ 2 ^ B := Nat.pow_le_pow_right (by decide) (by omega)
  unfold fldN frcN
  rw [if_pos (by omega), if_pos (by omega)]
  refine ⟨Nat.mod_eq_of_lt ?_, rfl⟩
  rw [Nat.div_lt_iff_lt_mul (Nat.two_pow_pos _), ← Nat.pow_add, show F + (P - 1) = B - 1 by omega]
  exact h
theorem fldU_low {f : Int} {a : Nat} (hf : 1 ≤ f ∧ f ≤ 4) (h : a < 2 ^ mU f) : fldU f a = a / 2 ^ (prU f - 1) ∧ frcU f a = a % 2 ^ (prU f - 1) := by
  rcases f_cases f with rfl | rfl | rfl | rfl | h0
  · exact fldN_low (B := 16) (P := 11) (F := 5) rfl (by decide) h
  · exact fldN_low (B := 32) (P := 24) (F := 8) rfl (by decide) h
  · exact fldN_low (B := 64) (P := 53) (F := 11) rfl (by decide) h
  · exact fldN_low (B := 128) (P := 113) (F := 15) rfl (by decide) h
  · omega
theorem absU_lt {f : Int} (a : Nat) (hf : 1 ≤ f ∧ f ≤ 4) : absU f a < 2 ^ mU f := by
  rcases f_cases f with rfl | rfl | rfl | rfl | h0
  · show absN 16 a < 2 ^ 15
    unfold absN; split
    · exact Nat.mod_lt _ (by decide)
    · decide
  · show absN 32 a < 2 ^ 31
    unfold absN; split
    · exact Nat.mod_lt _ (by decide)
    · decide
  · show absN 64 a < 2 ^ 63
    unfold absN; split
    · exact Nat.mod_lt _ (by decide)
    · decide
  · show absN 128 a < 2 ^ 127
    unfold absN; split
    · exact Nat.mod_lt _ (by decide)
    · decide
  · omega
theorem loU_le (f : Int) (a : Nat) : loU f ≤ expU f a := by unfold expU; split <;> omega
theorem vl_word {f : Int} {a : Nat} (hf : 1 ≤ f ∧ f ≤ 4) (h : a < 2 ^ mU f) : vl (sigU f a) (expU f a) (loU f) = valW (2 ^ (prU f - 1)) a := by
  obtain ⟨h1, h2⟩ := fldU_low hf h
  unfold vl sigU expU valW
  rw [h1, h2]
  by_cases h0 : a / 2 ^ (prU f - 1) = 0
  · rw [if_pos h0, if_pos h0, if_pos h0, show (loU f - loU f).toNat = 0 by omega, Nat.pow_zero, Nat.mul_one]
  · rw [if_neg h0, if_neg h0, if_neg h0, Nat.add_comm, show (loU f + (((a / 2 ^ (prU f - 1) : Nat) : Int) - 1) - loU f).toNat = a / 2 ^ (prU f - 1) - 1 by omega]
theorem cZ_pos (a b : Nat) (ea eb m : Int) (h1 : m ≤ ea) (h2 : m ≤ eb) : cZ false a ea false b eb = cmpN (vl a ea m) (vl b eb m) := by
  rw [← cmpV_any a b ea eb m h1 h2]
  have s1 := sgn_cases false a
  have s2 := sgn_cases false b
  unfold cZ
  by_cases ha : a = 0
  · by_cases hb : b = 0
    · subst ha; subst hb
      rw [if_pos rfl, cmpV_zero, Int.mul_zero]
    · have e1 : sgnZ false a = 0 := by omega
      have e2 : sgnZ false b = 1 := by simp_all
      subst ha
      rw [e1, e2, if_neg (by decide)]
      unfold cmpV
      rw [vl_zero]
      have := vl_pos eb (min ea eb) hb
      unfold cmpN
      rw [if_pos this]
      rfl
  · have e1 : sgnZ false a = 1 := by simp_all
    by_cases hb : b = 0
    · have e2 : sgnZ false b = 0 := by omega
      subst hb
      rw [e1, e2, if_neg (by decide)]
      unfold cmpV
      rw [vl_zero]
      have := vl_pos ea (min ea eb) ha
      unfold cmpN
      rw [if_neg (by omega), if_pos this]
      rfl
    · have e2 : sgnZ false b = 1 := by simp_all
      rw [e1, e2, if_pos rfl, Int.one_mul]
/-- Finite words without signs stand as their numbers do. -/
theorem words_cmp {f : Int} {a b : Nat} (hf : 1 ≤ f ∧ f ≤ 4) (ha : a < 2 ^ mU f) (hb : b < 2 ^ mU f) : cZ false (sigU f a) (expU f a) false (sigU f b) (expU f b) = cmpN a b := by
  rw [cZ_pos _ _ _ _ (loU f) (loU_le f a) (loU_le f b), vl_word hf ha, vl_word hf hb]
  have h := valW_iff (H := 2 ^ (prU f - 1)) (x := a) (y := b) (Nat.two_pow_pos _)
  have h' := valW_iff (H := 2 ^ (prU f - 1)) (x := b) (y := a) (Nat.two_pow_pos _)
  unfold cmpN
  simp only [h.1, h'.1]

theorem word_eq {a b : Nat} (ha : a < 2 ^ 128) (hb : b < 2 ^ 128) (w : World) : (Op.equalIn 10000 24 (.agg #[.int .u64 (dgl (a) 1 : Nat), .int .u64 (dgl (a) 0 : Nat)]) (.agg #[.int .u64 (dgl (b) 1 : Nat), .int .u64 (dgl (b) 0 : Nat)])).run Tryd.prog w = .ok (decide (a = b)) w := by
  have u3 := Tryd.underlying22
  have uw := Tryd.underlying24
  have e1 := word_back a ha
  have e2 := word_back b hb
  have hk : a = b ↔ (dgl a 1 = dgl b 1 ∧ dgl a 0 = dgl b 0) := by
    constructor
    · intro h; subst h; exact ⟨rfl, rfl⟩
    · rintro ⟨h1, h2⟩
      rw [← e1, ← e2, h1, h2]
  rw [show decide (a = b) = decide (dgl a 1 = dgl b 1 ∧ dgl a 0 = dgl b 0) from decide_eq_decide.2 hk]
  generalize dgl a 1 = x1
  generalize dgl a 0 = x0
  generalize dgl b 1 = y1
  generalize dgl b 0 = y0
  rw [show (10000 : Nat) = 9999 + 1 from rfl]
  go_simp
  simp only [Int.ofNat_inj]
  by_cases h1 : x1 = y1
  · by_cases h2 : x0 = y0
    · simp [h1, h2]
    · simp [h1, h2]
  · simp [h1]

end Go.Proofs.YtidfegilddlglaaDoor

