/- Contracts and laws: ClsS. -/
import Derived.Test.YtidfegilddlglaaDoorXClsO
import Derived.Test.YtidfegilddlglaaDoorBaseZ
/- Contracts: class.Make at any format, with what the word is made of; an argument of the law's type Parts. -/
set_option linter.unusedVariables false
set_option linter.unusedSimpArgs false
set_option maxRecDepth 8000
namespace Go.Proofs.YtidfegilddlglaaDoor
open Go.RowKit Plain

theorem tU_1 {α : Type} (x1 x2 x3 x4 d : α) : tU 1 x1 x2 x3 x4 d = x1 := if_pos rfl
theorem tU_2 {α : Type} (x1 x2 x3 x4 d : α) : tU 2 x1 x2 x3 x4 d = x2 := by unfold tU; rw [if_neg (by decide), if_pos rfl]
theorem tU_3 {α : Type} (x1 x2 x3 x4 d : α) : tU 3 x1 x2 x3 x4 d = x3 := by unfold tU; rw [if_neg (by decide), if_neg (by decide), if_pos rfl]
theorem tU_4 {α : Type} (x1 x2 x3 x4 d : α) : tU 4 x1 x2 x3 x4 d = x4 := by unfold tU; rw [if_neg (by decide), if_neg (by decide), if_neg (by decide), if_pos rfl]
/-- A word's number of its parts, and back. -/
theorem partsN {P F x b : Nat} (s : Bool) (hP : 0 < P) (hx : x < 2 ^ F) (hb : b < 2 ^ (P - 1)) : x * 2 ^ (P - 1) + b + (bif s then 2 ^ (P + F - 1) else 0) < 2 ^ (P + F) ∧ (x * 2 ^ (P - 1) + b + (bif s then 2 ^ (P + F - 1) else 0)) / 2 ^ (P - 1) % 2 ^ F = x ∧
    (x * 2 ^ (P - 1) + b + (bif s then 2 ^ (P + F - 1) else 0)) % 2 ^ (P - 1) = b ∧ ((x * 2 ^ (P - 1) + b + (bif s then 2 ^ (P + F - 1) else 0)) / 2 ^ (P + F - 1) % 2 == 1) = s := by
  have h2 := pow_half (P + F) (by omega)
  have e1 : 2 ^ (P + F - 1) = 2 ^ (P - 1) * 2 ^ F := by rw [← Nat.pow_add]; congr 1; omega
  have hH := Nat.two_pow_pos (P - 1)
  have hG := Nat.two_pow_pos F
  rw [h2, e1]
  generalize 2 ^ (P - 1) = H at *
  generalize 2 ^ F = G at *
  clear h2 e1
  obtain ⟨t, ht, hs⟩ : ∃ t : Nat, (bif s then H * G else 0) = H * (G * t) ∧ t = s.toNat := by
    cases s
    · exact ⟨0, by simp, rfl⟩
    · exact ⟨1, by simp, rfl⟩
  rw [ht]
  have e : x * H + b + H * (G * t) = b + H * (x + G * t) := by rw [Nat.mul_add, Nat.mul_comm x H]; omega
  rw [e]
  have d1 : (b + H * (x + G * t)) / H = x + G * t := by rw [Nat.add_mul_div_left _ _ hH, Nat.div_eq_of_lt hb, Nat.zero_add]
  have m1 : (b + H * (x + G * t)) % H = b := by rw [Nat.add_mul_mod_self_left, Nat.mod_eq_of_lt hb]
  have d2 : (x + G * t) / G = t := by rw [Nat.add_mul_div_left _ _ hG, Nat.div_eq_of_lt hx, Nat.zero_add]
  have m2 : (x + G * t) % G = x := by rw [Nat.add_mul_mod_self_left, Nat.mod_eq_of_lt hx]
  have ht1 : t ≤ 1 := by rw [hs]; cases s <;> decide
  refine ⟨?_, by rw [d1, m2], m1, ?_⟩
  · have h5 : H * (x + G * t) + H ≤ 2 * (H * G) := by
      have h6 : x + G * t + 1 ≤ 2 * G := by
        have : G * t ≤ G * 1 := Nat.mul_le_mul_left _ ht1
        omega
      have h7 := Nat.mul_le_mul_left H h6
      rw [Nat.mul_add, Nat.mul_one] at h7
      rw [show 2 * (H * G) = H * (2 * G) by rw [Nat.mul_left_comm]]
      exact h7
    omega
  · rw [← Nat.div_div_eq_div_mul, d1, d2, hs]
    cases s <;> rfl
theorem clsN_some {B P F a : Nat} (h : a < 2 ^ B) : clsN B P F a ≠ 0 := by
  unfold clsN clsP
  rw [if_pos h]
  split
  · split
    · decide
    · split <;> decide
  · split
    · split <;> decide
    · decide
theorem partsM {P F x b : Nat} (s : Bool) (hP : 0 < P) (hx : x < 2 ^ F) (hb : b < 2 ^ (P - 1)) : x * 2 ^ (P - 1) + b + (bif s then 2 ^ (P + F - 1) else 0) < 2 ^ (P + F) ∧ negN (P + F) (x * 2 ^ (P - 1) + b + (bif s then 2 ^ (P + F - 1) else 0)) = s ∧
    fldN (P + F) P F (x * 2 ^ (P - 1) + b + (bif s then 2 ^ (P + F - 1) else 0)) = x ∧ frcN (P + F) P (x * 2 ^ (P - 1) + b + (bif s then 2 ^ (P + F - 1) else 0)) = b ∧ clsN (P + F) P F (x * 2 ^ (P - 1) + b + (bif s then 2 ^ (P + F - 1) else 0)) ≠ 0 := by
  obtain ⟨h1, h2, h3, h4⟩ := partsN (P := P) (F := F) (x := x) (b := b) s hP hx hb
  generalize x * 2 ^ (P - 1) + b + (bif s then 2 ^ (P + F - 1) else 0) = a at *
  refine ⟨h1, ?_, (if_pos h1).trans h2, (if_pos h1).trans h3, clsN_some h1⟩
  unfold negN
  rw [decide_eq_true h1, Bool.true_and]
  exact h4
theorem ownN {P F a : Nat} (hP : 0 < P) (ha : a < 2 ^ (P + F)) : a / 2 ^ (P - 1) % 2 ^ F * 2 ^ (P - 1) + a % 2 ^ (P - 1) + (bif (a / 2 ^ (P + F - 1) % 2 == 1) then 2 ^ (P + F - 1) else 0) = a := by
  have h2 := pow_half (P + F) (by omega)
  have e1 : 2 ^ (P + F - 1) = 2 ^ (P - 1) * 2 ^ F := by rw [← Nat.pow_add]; congr 1; omega
  have hH := Nat.two_pow_pos (P - 1)
  have hG := Nat.two_pow_pos F
  rw [h2, e1] at ha
  rw [e1, ← Nat.div_div_eq_div_mul]
  generalize 2 ^ (P - 1) = H at *
  generalize 2 ^ F = G at *
  clear h2 e1
  have d1 := Nat.div_add_mod a H
  have d2 := Nat.div_add_mod (a / H) G
  have hq : a / H / G < 2 := by
    rw [Nat.div_div_eq_div_mul]
    exact Nat.div_lt_of_lt_mul (by rw [Nat.mul_comm]; exact ha)
  rw [Nat.mod_eq_of_lt hq]
  generalize a / H / G = t at *
  generalize a / H = q at *
  generalize q % G = x at *
  have e : H * q = H * (G * t) + x * H := by rw [← d2, Nat.mul_add, Nat.mul_comm x H]
  have ht : t = 0 ∨ t = 1 := by omega
  rcases ht with rfl | rfl
  · simp at e ⊢
    omega
  · simp at e ⊢
    omega

/-- Where there is a word of the parts: it has them. -/
theorem makeYes_u (f : Int) (neg : Bool) (z : Int) (b : Nat) (h : tU f (0 ≤ z ∧ z < 2 ^ 5 ∧ b < 2 ^ 10) (0 ≤ z ∧ z < 2 ^ 8 ∧ b < 2 ^ 23) (0 ≤ z ∧ z < 2 ^ 11 ∧ b < 2 ^ 52) (0 ≤ z ∧ z < 2 ^ 15 ∧ b < 2 ^ 112) False) :
    ∃ a, a < 2 ^ 128 ∧ negU f a = neg ∧ ((fldU f a : Nat) : Int) = z ∧ frcU f a = b ∧ fitU f a = true ∧ clsU f a ≠ 0 ∧ ∀ w, FmtG w → Calls Tryd.prog 26 #[.int .i64 f, .bool neg, .int .i64 z, .agg #[.int .u64 (dgl (b) 0 : Nat), .int .u64 (dgl (b) 1 : Nat), .int .u64 (dgl (b) 2 : Nat), .int .u64 (dgl (b) 3 : Nat), .int .u64 (dgl (b) 4 : Nat), .int .u64 (dgl (b) 5 : Nat), .int .u64 (dgl (b) 6 : Nat), .int .u64 (dgl (b) 7 : Nat)]] w fun e w' => e = .returned (.tuple #[.agg #[.int .u64 (dgl (a) 1 : Nat), .int .u64 (dgl (a) 0 : Nat)], .bool true]) ∧ Below w.heap.size w w' := by
  rcases f_cases f with rfl | rfl | rfl | rfl | h0
  · rw [tU_1] at h
    obtain ⟨x, rfl⟩ := Int.eq_ofNat_of_zero_le h.1
    have hx : x < 2 ^ 5 := by omega
    obtain ⟨h1, h2, h3, h4, h5⟩ := partsM (P := 11) (F := 5) (x := x) (b := b) neg (by decide) hx h.2.2
    have hm := fun w hg => makeYes_1 neg x b hx h.2.2 x rfl w hg
    have e0 : (2 : Nat) ^ (11 + 5 - 1) = 32768 := by decide +kernel
    rw [e0, show (11 - 1 : Nat) = 10 from rfl] at h1 h2 h3 h4 h5
    generalize x * 2 ^ 10 + b + (bif neg then 32768 else 0) = a at *
    have f1 : negU 1 a = neg := (tU_1 _ _ _ _ _).trans h2
    have f2 : fldU 1 a = x := (tU_1 _ _ _ _ _).trans h3
    have f3 : frcU 1 a = b := (tU_1 _ _ _ _ _).trans h4
    have f4 : clsU 1 a = clsN 16 11 5 a := tU_1 _ _ _ _ _
    have f5 : fitU 1 a = decide (a < 2 ^ 16) := tU_1 _ _ _ _ _
    refine ⟨a, Nat.lt_of_lt_of_le h1 (Nat.pow_le_pow_right (by decide) (by decide)), f1, by rw [f2], f3, ?_, ?_, hm⟩
    · rw [f5]
      exact decide_eq_true h1
    · rw [f4]
      exact h5
  · rw [tU_2] at h
    obtain ⟨x, rfl⟩ := Int.eq_ofNat_of_zero_le h.1
    have hx : x < 2 ^ 8 := by omega
    obtain ⟨h1, h2, h3, h4, h5⟩ := partsM (P := 24) (F := 8) (x := x) (b := b) neg (by decide) hx h.2.2
    have hm := fun w hg => makeYes_2 neg x b hx h.2.2 x rfl w hg
    have e0 : (2 : Nat) ^ (24 + 8 - 1) = 2147483648 := by decide +kernel
    rw [e0, show (24 - 1 : Nat) = 23 from rfl] at h1 h2 h3 h4 h5
    generalize x * 2 ^ 23 + b + (bif neg then 2147483648 else 0) = a at *
    have f1 : negU 2 a = neg := (tU_2 _ _ _ _ _).trans h2
    have f2 : fldU 2 a = x := (tU_2 _ _ _ _ _).trans h3
    have f3 : frcU 2 a = b := (tU_2 _ _ _ _ _).trans h4
    have f4 : clsU 2 a = clsN 32 24 8 a := tU_2 _ _ _ _ _
    have f5 : fitU 2 a = decide (a < 2 ^ 32) := tU_2 _ _ _ _ _
    refine ⟨a, Nat.lt_of_lt_of_le h1 (Nat.pow_le_pow_right (by decide) (by decide)), f1, by rw [f2], f3, ?_, ?_, hm⟩
    · rw [f5]
      exact decide_eq_true h1
    · rw [f4]
      exact h5
  · rw [tU_3] at h
    obtain ⟨x, rfl⟩ := Int.eq_ofNat_of_zero_le h.1
    have hx : x < 2 ^ 11 := by omega
    obtain ⟨h1, h2, h3, h4, h5⟩ := partsM (P := 53) (F := 11) (x := x) (b := b) neg (by decide) hx h.2.2
    have hm := fun w hg => makeYes_3 neg x b hx h.2.2 x rfl w hg
    have e0 : (2 : Nat) ^ (53 + 11 - 1) = 9223372036854775808 := by decide +kernel
    rw [e0, show (53 - 1 : Nat) = 52 from rfl] at h1 h2 h3 h4 h5
    generalize x * 2 ^ 52 + b + (bif neg then 9223372036854775808 else 0) = a at *
    have f1 : negU 3 a = neg := (tU_3 _ _ _ _ _).trans h2
    have f2 : fldU 3 a = x := (tU_3 _ _ _ _ _).trans h3
    have f3 : frcU 3 a = b := (tU_3 _ _ _ _ _).trans h4
    have f4 : clsU 3 a = clsN 64 53 11 a := tU_3 _ _ _ _ _
    have f5 : fitU 3 a = decide (a < 2 ^ 64) := tU_3 _ _ _ _ _
    refine ⟨a, Nat.lt_of_lt_of_le h1 (Nat.pow_le_pow_right (by decide) (by decide)), f1, by rw [f2], f3, ?_, ?_, hm⟩
    · rw [f5]
      exact decide_eq_true h1
    · rw [f4]
      exact h5
  · rw [tU_4] at h
    obtain ⟨x, rfl⟩ := Int.eq_ofNat_of_zero_le h.1
    have hx : x < 2 ^ 15 := by omega
    obtain ⟨h1, h2, h3, h4, h5⟩ := partsM (P := 113) (F := 15) (x := x) (b := b) neg (by decide) hx h.2.2
    have hm := fun w hg => makeYes_4 neg x b hx h.2.2 x rfl w hg
    have e0 : (2 : Nat) ^ (113 + 15 - 1) = 170141183460469231731687303715884105728 := by decide +kernel
    rw [e0, show (113 - 1 : Nat) = 112 from rfl] at h1 h2 h3 h4 h5
    generalize x * 2 ^ 112 + b + (bif neg then 170141183460469231731687303715884105728 else 0) = a at *
    have f1 : negU 4 a = neg := (tU_4 _ _ _ _ _).trans h2
    have f2 : fldU 4 a = x := (tU_4 _ _ _ _ _).trans h3
    have f3 : frcU 4 a = b := (tU_4 _ _ _ _ _).trans h4
    have f4 : clsU 4 a = clsN 128 113 15 a := tU_4 _ _ _ _ _
    have f5 : fitU 4 a = decide (a < 2 ^ 128) := tU_4 _ _ _ _ _
    refine ⟨a, Nat.lt_of_lt_of_le h1 (Nat.pow_le_pow_right (by decide) (by decide)), f1, by rw [f2], f3, ?_, ?_, hm⟩
    · rw [f5]
      exact decide_eq_true h1
    · rw [f4]
      exact h5
  · rw [tU_none f h0] at h
    exact h.elim
/-- Where there is none. -/
theorem makeNo_u (f : Int) (neg : Bool) (z : Int) (b : Nat) (hb : b < QQ) (h : ¬ tU f (0 ≤ z ∧ z < 2 ^ 5 ∧ b < 2 ^ 10) (0 ≤ z ∧ z < 2 ^ 8 ∧ b < 2 ^ 23) (0 ≤ z ∧ z < 2 ^ 11 ∧ b < 2 ^ 52) (0 ≤ z ∧ z < 2 ^ 15 ∧ b < 2 ^ 112) False) (w : World) (hg : FmtG w) :
    Calls Tryd.prog 26 #[.int .i64 f, .bool neg, .int .i64 z, .agg #[.int .u64 (dgl (b) 0 : Nat), .int .u64 (dgl (b) 1 : Nat), .int .u64 (dgl (b) 2 : Nat), .int .u64 (dgl (b) 3 : Nat), .int .u64 (dgl (b) 4 : Nat), .int .u64 (dgl (b) 5 : Nat), .int .u64 (dgl (b) 6 : Nat), .int .u64 (dgl (b) 7 : Nat)]] w fun e w' => e = .returned (.tuple #[.agg #[.int .u64 0, .int .u64 0], .bool false]) ∧ Below w.heap.size w w' := by
  rcases f_cases f with rfl | rfl | rfl | rfl | h0
  · exact makeNo_1 neg z b hb h w hg
  · exact makeNo_2 neg z b hb h w hg
  · exact makeNo_3 neg z b hb h w hg
  · exact makeNo_4 neg z b hb h w hg
  · exact makeNone_any f h0 neg z b w hg
/-- A word's own parts. -/
theorem makeOwn_u (f : Int) (a : Nat) (h : clsU f a ≠ 0) (w : World) (hg : FmtG w) :
    Calls Tryd.prog 26 #[.int .i64 f, .bool (negU f a), .int .i64 (fldU f a : Nat), .agg #[.int .u64 (dgl (frcU f a) 0 : Nat), .int .u64 (dgl (frcU f a) 1 : Nat), .int .u64 (dgl (frcU f a) 2 : Nat), .int .u64 (dgl (frcU f a) 3 : Nat), .int .u64 (dgl (frcU f a) 4 : Nat), .int .u64 (dgl (frcU f a) 5 : Nat), .int .u64 (dgl (frcU f a) 6 : Nat), .int .u64 (dgl (frcU f a) 7 : Nat)]] w fun e w' => e = .returned (.tuple #[.agg #[.int .u64 (dgl (a) 1 : Nat), .int .u64 (dgl (a) 0 : Nat)], .bool true]) ∧ Below w.heap.size w w' := by
  rcases f_cases f with rfl | rfl | rfl | rfl | h0
  · have ha : a < 2 ^ (11 + 5) := cls_fit (B := 16) (P := 11) (F := 5) h
    have e1 : fldU 1 a = a / 2 ^ 10 % 2 ^ 5 := if_pos ha
    have e2 : frcU 1 a = a % 2 ^ 10 := if_pos ha
    have e3 : negU 1 a = (a / 2 ^ (11 + 5 - 1) % 2 == 1) := by
      show (decide (a < 2 ^ 16) && (a / 2 ^ (16 - 1) % 2 == 1)) = _
      rw [decide_eq_true ha, Bool.true_and]
    have ho := ownN (P := 11) (F := 5) (a := a) (by decide) ha
    have hm := makeYes_1 (a / 2 ^ (11 + 5 - 1) % 2 == 1) (a / 2 ^ 10 % 2 ^ 5) (a % 2 ^ 10) (Nat.mod_lt _ (Nat.two_pow_pos _)) (Nat.mod_lt _ (Nat.two_pow_pos _)) _ rfl w hg
    have e0 : (2 : Nat) ^ (11 + 5 - 1) = 32768 := by decide +kernel
    rw [e0, show (11 - 1 : Nat) = 10 from rfl] at ho
    rw [e0] at hm e3
    rw [ho] at hm
    rw [e1, e2, e3]
    exact hm
  · have ha : a < 2 ^ (24 + 8) := cls_fit (B := 32) (P := 24) (F := 8) h
    have e1 : fldU 2 a = a / 2 ^ 23 % 2 ^ 8 := if_pos ha
    have e2 : frcU 2 a = a % 2 ^ 23 := if_pos ha
    have e3 : negU 2 a = (a / 2 ^ (24 + 8 - 1) % 2 == 1) := by
      show (decide (a < 2 ^ 32) && (a / 2 ^ (32 - 1) % 2 == 1)) = _
      rw [decide_eq_true ha, Bool.true_and]
    have ho := ownN (P := 24) (F := 8) (a := a) (by decide) ha
    have hm := makeYes_2 (a / 2 ^ (24 + 8 - 1) % 2 == 1) (a / 2 ^ 23 % 2 ^ 8) (a % 2 ^ 23) (Nat.mod_lt _ (Nat.two_pow_pos _)) (Nat.mod_lt _ (Nat.two_pow_pos _)) _ rfl w hg
    have e0 : (2 : Nat) ^ (24 + 8 - 1) = 2147483648 := by decide +kernel
    rw [e0, show (24 - 1 : Nat) = 23 from rfl] at ho
    rw [e0] at hm e3
    rw [ho] at hm
    rw [e1, e2, e3]
    exact hm
  · have ha : a < 2 ^ (53 + 11) := cls_fit (B := 64) (P := 53) (F := 11) h
    have e1 : fldU 3 a = a / 2 ^ 52 % 2 ^ 11 := if_pos ha
    have e2 : frcU 3 a = a % 2 ^ 52 := if_pos ha
    have e3 : negU 3 a = (a / 2 ^ (53 + 11 - 1) % 2 == 1) := by
      show (decide (a < 2 ^ 64) && (a / 2 ^ (64 - 1) % 2 == 1)) = _
      rw [decide_eq_true ha, Bool.true_and]
    have ho := ownN (P := 53) (F := 11) (a := a) (by decide) ha
    have hm := makeYes_3 (a / 2 ^ (53 + 11 - 1) % 2 == 1) (a / 2 ^ 52 % 2 ^ 11) (a % 2 ^ 52) (Nat.mod_lt _ (Nat.two_pow_pos _)) (Nat.mod_lt _ (Nat.two_pow_pos _)) _ rfl w hg
    have e0 : (2 : Nat) ^ (53 + 11 - 1) = 9223372036854775808 := by decide +kernel
    rw [e0, show (53 - 1 : Nat) = 52 from rfl] at ho
    rw [e0] at hm e3
    rw [ho] at hm
    rw [e1, e2, e3]
    exact hm
  · have ha : a < 2 ^ (113 + 15) := cls_fit (B := 128) (P := 113) (F := 15) h
    have e1 : fldU 4 a = a / 2 ^ 112 % 2 ^ 15 := if_pos ha
    have e2 : frcU 4 a = a % 2 ^ 112 := if_pos ha
    have e3 : negU 4 a = (a / 2 ^ (113 + 15 - 1) % 2 == 1) := by
      show (decide (a < 2 ^ 128) && (a / 2 ^ (128 - 1) % 2 == 1)) = _
      rw [decide_eq_true ha, Bool.true_and]
    have ho := ownN (P := 113) (F := 15) (a := a) (by decide) ha
    have hm := makeYes_4 (a / 2 ^ (113 + 15 - 1) % 2 == 1) (a / 2 ^ 112 % 2 ^ 15) (a % 2 ^ 112) (Nat.mod_lt _ (Nat.two_pow_pos _)) (Nat.mod_lt _ (Nat.two_pow_pos _)) _ rfl w hg
    have e0 : (2 : Nat) ^ (113 + 15 - 1) = 170141183460469231731687303715884105728 := by decide +kernel
    rw [e0, show (113 - 1 : Nat) = 112 from rfl] at ho
    rw [e0] at hm e3
    rw [ho] at hm
    rw [e1, e2, e3]
    exact hm
  · exact absurd (tU_none f h0 _ _ _ _ _) h

theorem parts_open {H : Type} {enc : TypeId × Value → H} {W : World} {r : Reach} {b0 base : Nat} {sp : Nat → Bool} {held : Bool} {v : Value} {d : DataW H} {ps : List MemPlace}
    (hval : Value.okWide Tryd.prog W r b0 34 v) (hd : DataW.Trod enc Tryd.prog W base sp held 34 v d ps) : ∃ (f : Int) (neg : Bool) (z : Int) (b : Nat), b < QQ ∧ v = .agg (#[.int .i64 f, .bool neg, .int .i64 z] ++ #[.int .u64 (dgl (b) 0 : Nat), .int .u64 (dgl (b) 1 : Nat), .int .u64 (dgl (b) 2 : Nat), .int .u64 (dgl (b) 3 : Nat), .int .u64 (dgl (b) 4 : Nat), .int .u64 (dgl (b) 5 : Nat), .int .u64 (dgl (b) 6 : Nat), .int .u64 (dgl (b) 7 : Nat)]) := by
  obtain ⟨cs, rfl, hsz⟩ := Go.WideShapes.okWide_struct Tryd.underlying34 hval
  have hC : Tryd.prog.cellsOf 34 = 11 := by kernel_rfl
  have c1 : Tryd.prog.cellsOf 3 = 1 := by kernel_rfl
  have cb : Tryd.prog.cellsOf 4 = 1 := by kernel_rfl
  have c8 : Tryd.prog.cellsOf 28 = 8 := by kernel_rfl
  have cu : Tryd.prog.cellsOf 22 = 1 := by kernel_rfl
  rw [hC] at hsz
  obtain ⟨fuel, hf⟩ := hd
  obtain ⟨xs, n, _, hx, hl, hlen, hfs⟩ := DataW.trod_struct Tryd.underlying34 hf
  clear hx hl
  obtain ⟨l⟩ := cs
  replace hsz : l.length = 11 := hsz
  match l, hsz with
  | k0 :: k1 :: k2 :: t, hsz =>
    have hl8 : t.length = 8 := by simpa using hsz
    match xs, hlen with
    | [y0, y1, y2, y3], _ =>
      have g0 : DataW.trod enc Tryd.prog W base sp held n 3 [k0] = some y0 := hfs 0 _ rfl
      have g1 : DataW.trod enc Tryd.prog W base sp held n 4 [k1] = some y1 := hfs 1 _ rfl
      have g2 : DataW.trod enc Tryd.prog W base sp held n 3 [k2] = some y2 := hfs 2 _ rfl
      have gw : DataW.trod enc Tryd.prog W base sp held n 28 (t.take 8) = some y3 := hfs 3 _ rfl
      rw [List.take_of_length_le (by omega)] at gw
      obtain ⟨zs, m, _, _, _, hzl, hget⟩ := DataW.trod_array Tryd.underlying28 gw
      rw [cu] at hget
      obtain ⟨x, hx, e⟩ := wide_of_cells t.toArray (by simpa using hl8) (fun i hi => by
        have h1 := hget i hi
        rw [List.getElem?_eq_getElem (by omega)] at h1
        obtain ⟨a, ea, _, wa⟩ := DataW.trod_int Tryd.underlying22 h1
        obtain ⟨q, rfl, hq⟩ := u64_nat wa
        refine ⟨q, hq, ?_⟩
        simp only [Nat.mul_one] at ea
        have := congrArg (fun l => l[0]?) ea
        simpa [List.getElem?_take, List.getElem?_drop] using this)
      have et : t = #[.int .u64 (dgl (x) 0 : Nat), .int .u64 (dgl (x) 1 : Nat), .int .u64 (dgl (x) 2 : Nat), .int .u64 (dgl (x) 3 : Nat), .int .u64 (dgl (x) 4 : Nat), .int .u64 (dgl (x) 5 : Nat), .int .u64 (dgl (x) 6 : Nat), .int .u64 (dgl (x) 7 : Nat)].toList := by
        have := congrArg Array.toList e
        simpa using this
      subst et
      obtain ⟨a0, e0, _, wa0⟩ := DataW.trod_int Tryd.underlying3 g0
      simp at e0
      subst e0
      obtain ⟨a1, e1, _⟩ := DataW.trod_bool Tryd.underlying4 g1
      simp at e1
      subst e1
      obtain ⟨a2, e2, _, wa2⟩ := DataW.trod_int Tryd.underlying3 g2
      simp at e2
      subst e2
      exact ⟨a0, a1, a2, x, hx, rfl⟩

theorem number_open {H : Type} {enc : TypeId × Value → H} {W : World} {r : Reach} {b0 base : Nat} {sp : Nat → Bool} {held : Bool} {v : Value} {d : DataW H} {ps : List MemPlace}
    (hval : Value.okWide Tryd.prog W r b0 49 v) (hd : DataW.Trod enc Tryd.prog W base sp held 49 v d ps) : ∃ (neg : Bool) (z : Int) (b : Nat), ((-9223372036854775808 ≤ z ∧ z ≤ 9223372036854775807) ∧ b < QQ) ∧ v = .agg (#[.bool neg, .int .i64 z] ++ #[.int .u64 (dgl (b) 0 : Nat), .int .u64 (dgl (b) 1 : Nat), .int .u64 (dgl (b) 2 : Nat), .int .u64 (dgl (b) 3 : Nat), .int .u64 (dgl (b) 4 : Nat), .int .u64 (dgl (b) 5 : Nat), .int .u64 (dgl (b) 6 : Nat), .int .u64 (dgl (b) 7 : Nat)]) := by
  obtain ⟨cs, rfl, hsz⟩ := Go.WideShapes.okWide_struct Tryd.underlying49 hval
  have hC : Tryd.prog.cellsOf 49 = 10 := by kernel_rfl
  have c1 : Tryd.prog.cellsOf 3 = 1 := by kernel_rfl
  have cb : Tryd.prog.cellsOf 4 = 1 := by kernel_rfl
  have c8 : Tryd.prog.cellsOf 28 = 8 := by kernel_rfl
  have cu : Tryd.prog.cellsOf 22 = 1 := by kernel_rfl
  rw [hC] at hsz
  obtain ⟨fuel, hf⟩ := hd
  obtain ⟨xs, n, _, hx, hl, hlen, hfs⟩ := DataW.trod_struct Tryd.underlying49 hf
  clear hx hl
  obtain ⟨l⟩ := cs
  replace hsz : l.length = 10 := hsz
  match l, hsz with
  | k0 :: k1 :: t, hsz =>
    have hl8 : t.length = 8 := by simpa using hsz
    match xs, hlen with
    | [y0, y1, y2], _ =>
      have g0 : DataW.trod enc Tryd.prog W base sp held n 4 [k0] = some y0 := hfs 0 _ rfl
      have g1 : DataW.trod enc Tryd.prog W base sp held n 3 [k1] = some y1 := hfs 1 _ rfl
      have gw : DataW.trod enc Tryd.prog W base sp held n 28 (t.take 8) = some y2 := hfs 2 _ rfl
      rw [List.take_of_length_le (by omega)] at gw
      obtain ⟨zs, m, _, _, _, hzl, hget⟩ := DataW.trod_array Tryd.underlying28 gw
      rw [cu] at hget
      obtain ⟨x, hx, e⟩ := wide_of_cells t.toArray (by simpa using hl8) (fun i hi => by
        have h1 := hget i hi
        rw [List.getElem?_eq_getElem (by omega)] at h1
        obtain ⟨a, ea, _, wa⟩ := DataW.trod_int Tryd.underlying22 h1
        obtain ⟨q, rfl, hq⟩ := u64_nat wa
        refine ⟨q, hq, ?_⟩
        simp only [Nat.mul_one] at ea
        have := congrArg (fun l => l[0]?) ea
        simpa [List.getElem?_take, List.getElem?_drop] using this)
      have et : t = #[.int .u64 (dgl (x) 0 : Nat), .int .u64 (dgl (x) 1 : Nat), .int .u64 (dgl (x) 2 : Nat), .int .u64 (dgl (x) 3 : Nat), .int .u64 (dgl (x) 4 : Nat), .int .u64 (dgl (x) 5 : Nat), .int .u64 (dgl (x) 6 : Nat), .int .u64 (dgl (x) 7 : Nat)].toList := by
        have := congrArg Array.toList e
        simpa using this
      subst et
      obtain ⟨a0, e0, _⟩ := DataW.trod_bool Tryd.underlying4 g0
      simp at e0
      subst e0
      obtain ⟨a1, e1, _, wa1⟩ := DataW.trod_int Tryd.underlying3 g1
      simp at e1
      subst e1
      exact ⟨a0, a1, x, ⟨i64_bd wa1, hx⟩, rfl⟩

end Go.Proofs.YtidfegilddlglaaDoor

