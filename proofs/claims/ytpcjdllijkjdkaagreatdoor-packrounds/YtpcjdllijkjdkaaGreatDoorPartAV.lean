/- Contracts and laws: ClsS, UnpA, UnpB, UnpC, UnpD. -/
import Derived.Test.YtpcjdllijkjdkaaGreatDoorPartAT
import Derived.Test.YtpcjdllijkjdkaaGreatDoorPartAU
import Derived.Test.YtpcjdllijkjdkaaGreatDoorPartAO
/- Contracts: class.Make at any format, with what the word is made of; an argument of the law's type Parts. -/
set_option linter.unusedVariables false
set_option linter.unusedSimpArgs false
set_option maxRecDepth 8000
namespace Go.Proofs.YtpcjdllijkjdkaaGreatDoor
open Go.RowKit Plain

theorem tU_1 {α : Type} (x1 x2 x3 x4 d : α) : tU 1 x1 x2 x3 x4 d = x1 := if_pos rfl
theorem tU_2 {α : Type} (x1 x2 x3 x4 d : α) : tU 2 x1 x2 x3 x4 d = x2 := by unfold tU; rw [if_neg (by decide), if_pos rfl]
theorem tU_3 {α : Type} (x1 x2 x3 x4 d : α) : tU 3 x1 x2 x3 x4 d = x3 := by unfold tU; rw [if_neg (by decide), if_neg (by decide), if_pos rfl]
theorem tU_4 {α : Type} (x1 x2 x3 x4 d : α) : tU 4 x1 x2 x3 x4 d = x4 := by unfold tU; rw [if_neg (by decide), if_neg (by decide), if_neg (by decide), if_pos rfl]
/-- A word's number of its parts, and back. -/
theorem partsN {P F x b : Nat} (s : Bool) (hP : 0 < P) (hx : x < 2 ^ F) (hb : b < 2 ^ (P - 1)) : x * 2 ^ (P - 1) + b + (bif s then 2 ^ (P + F - 1) else 0) < 2 ^ (P + F) ∧ (x * 2 ^ (P - 1) + b + (bif s then 2 ^ (P + F - 1) else 0)) / 2 ^ (P - 1) % 2 ^ F = x ∧
    (x * 2 ^ (P - 1) + b + (bif s then 2 ^ (P + F - 1) else 0)) % 2 ^ (P - 1) = b ∧ ((x * 2 ^ (P - 1) + b + (bif s then 2 ^ (P + F - 1) else 0)) / 2 ^ (P + F - 1) % 2 == 1) = s := by
  have h2 := pow_half (P + F) (by omega)
  have e1 : 2 ^ (P + F - 1) = 2 ^ (P - 1) * 2 ^ F := by rw [← Nat.pow_add]; congr 1; omega
  have hH := Nat.two_pow_pos (P - 1)
  have hG := Nat.two_pow_pos F
  rw [h2, e1]
  generalize 2 ^ (P - 1) = H at *
  generalize 2 ^ F = G at *
  clear h2 e1
  obtain ⟨t, ht, hs⟩ : ∃ t : Nat, (bif s then H * G else 0) = H * (G * t) ∧ t = s.toNat := by
    cases s
    · exact ⟨0, by simp, rfl⟩
    · exact ⟨1, by simp, rfl⟩
  rw [ht]
  have e : x * H + b + H * (G * t) = b + H * (x + G * t) := by rw [Nat.mul_add, Nat.mul_comm x H]; omega
  rw [e]
  have d1 : (b + H * (x + G * t)) / H = x + G * t := by rw [Nat.add_mul_div_left _ _ hH, Nat.div_eq_of_lt hb, Nat.zero_add]
  have m1 : (b + H * (x + G * t)) % H = b := by rw [Nat.add_mul_mod_self_left, Nat.mod_eq_of_lt hb]
  have d2 : (x + G * t) / G = t := by rw [Nat.add_mul_div_left _ _ hG, Nat.div_eq_of_lt hx, Nat.zero_add]
  have m2 : (x + G * t) % G = x := by rw [Nat.add_mul_mod_self_left, Nat.mod_eq_of_lt hx]
  have ht1 : t ≤ 1 := by rw [hs]; cases s <;> decide
  refine ⟨?_, by rw [d1, m2], m1, ?_⟩
  · have h5 : H * (x + G * t) + H ≤ 2 * (H * G) := by
      have h6 : x + G * t + 1 ≤ 2 * G := by
        have : G * t ≤ G * 1 := Nat.mul_le_mul_left _ ht1
        omega
      have h7 := Nat.mul_le_mul_left H h6
      rw [Nat.mul_add, Nat.mul_one] at h7
      rw [show 2 * (H * G) = H * (2 * G) by rw [Nat.mul_left_comm]]
      exact h7
    omega
  · rw [← Nat.div_div_eq_div_mul, d1, d2, hs]
    cases s <;> rfl
theorem clsN_some {B P F a : Nat} (h : a < 2 ^ B) : clsN B P F a ≠ 0 := by
  unfold clsN clsP
  rw [if_pos h]
  split
  · split
    · decide
    · split <;> decide
  · split
    · split <;> decide
    · decide
theorem partsM {P F x b : Nat} (s : Bool) (hP : 0 < P) (hx : x < 2 ^ F) (hb : b < 2 ^ (P - 1)) : x * 2 ^ (P - 1) + b + (bif s then 2 ^ (P + F - 1) else 0) < 2 ^ (P + F) ∧ negN (P + F) (x * 2 ^ (P - 1) + b + (bif s then 2 ^ (P + F - 1) else 0)) = s ∧
    fldN (P + F) P F (x * 2 ^ (P - 1) + b + (bif s then 2 ^ (P + F - 1) else 0)) = x ∧ frcN (P + F) P (x * 2 ^ (P - 1) + b + (bif s then 2 ^ (P + F - 1) else 0)) = b ∧ clsN (P + F) P F (x * 2 ^ (P - 1) + b + (bif s then 2 ^ (P + F - 1) else 0)) ≠ 0 := by
  obtain ⟨h1, h2, h3, h4⟩ := partsN (P := P) (F := F) (x := x) (b := b) s hP hx hb
  generalize x * 2 ^ (P - 1) + b + (bif s then 2 ^ (P + F - 1) else 0) = a at *
  refine ⟨h1, ?_, (if_pos h1).trans h2, (if_pos h1).trans h3, clsN_some h1⟩
  unfold negN
  rw [decide_eq_true h1, Bool.true_and]
  exact h4
theorem ownN {P F a : Nat} (hP : 0 < P) (ha : a < 2 ^ (P + F)) : a / 2 ^ (P - 1) % 2 ^ F * 2 ^ (P - 1) + a % 2 ^ (P - 1) + (bif (a / 2 ^ (P + F - 1) % 2 == 1) then 2 ^ (P + F - 1) else 0) = a := by
  have h2 := pow_half (P + F) (by omega)
  have e1 : 2 ^ (P + F - 1) = 2 ^ (P - 1) * 2 ^ F := by rw [← Nat.pow_add]; congr 1; omega
  have hH := Nat.two_pow_pos (P - 1)
  have hG := Nat.two_pow_pos F
  rw [h2, e1] at ha
  rw [e1, ← Nat.div_div_eq_div_mul]
  generalize 2 ^ (P - 1) = H at *
  generalize 2 ^ F = G at *
  clear h2 e1
  have d1 := Nat.div_add_mod a H
  have d2 := Nat.div_add_mod (a / H) G
  have hq : a / H / G < 2 := by
    rw [Nat.div_div_eq_div_mul]
    exact Nat.div_lt_of_lt_mul (by rw [Nat.mul_comm]; exact ha)
  rw [Nat.mod_eq_of_lt hq]
  generalize a / H / G = t at *
  generalize a / H = q at *
  generalize q % G = x at *
  have e : H * q = H * (G * t) + x * H := by rw [← d2, Nat.mul_add, Nat.mul_comm x H]
  have ht : t = 0 ∨ t = 1 := by omega
  rcases ht with rfl | rfl
  · simp at e ⊢
    omega
  · simp at e ⊢
    omega

/-- Where there is a word of the parts: it has them. -/
theorem makeYes_u (f : Int) (neg : Bool) (z : Int) (b : Nat) (h : tU f (0 ≤ z ∧ z < 2 ^ 5 ∧ b < 2 ^ 10) (0 ≤ z ∧ z < 2 ^ 8 ∧ b < 2 ^ 23) (0 ≤ z ∧ z < 2 ^ 11 ∧ b < 2 ^ 52) (0 ≤ z ∧ z < 2 ^ 15 ∧ b < 2 ^ 112) False) :
    ∃ a, a < 2 ^ 128 ∧ negU f a = neg ∧ ((fldU f a : Nat) : Int) = z ∧ frcU f a = b ∧ fitU f a = true ∧ clsU f a ≠ 0 ∧ ∀ w, FmtG w → Calls Tryz.prog 56 #[.int .i64 f, .bool neg, .int .i64 z, .agg #[.int .u64 (dgl (b) 0 : Nat), .int .u64 (dgl (b) 1 : Nat), .int .u64 (dgl (b) 2 : Nat), .int .u64 (dgl (b) 3 : Nat), .int .u64 (dgl (b) 4 : Nat), .int .u64 (dgl (b) 5 : Nat), .int .u64 (dgl (b) 6 : Nat), .int .u64 (dgl (b) 7 : Nat)]] w fun e w' => e = .returned (.tuple #[.agg #[.int .u64 (dgl (a) 1 : Nat), .int .u64 (dgl (a) 0 : Nat)], .bool true]) ∧ Below w.heap.size w w' := by
  rcases f_cases f with rfl | rfl | rfl | rfl | h0
  · rw [tU_1] at h
    obtain ⟨x, rfl⟩ := Int.eq_ofNat_of_zero_le h.1
    have hx : x < 2 ^ 5 := by omega
    obtain ⟨h1, h2, h3, h4, h5⟩ := partsM (P := 11) (F := 5) (x := x) (b := b) neg (by decide) hx h.2.2
    have hm := fun w hg => makeYes_1 neg x b hx h.2.2 x rfl w hg
    have e0 : (2 : Nat) ^ (11 + 5 - 1) = 32768 := by decide +kernel
    rw [e0, show (11 - 1 : Nat) = 10 from rfl] at h1 h2 h3 h4 h5
    generalize x * 2 ^ 10 + b + (bif neg then 32768 else 0) = a at *
    have f1 : negU 1 a = neg := (tU_1 _ _ _ _ _).trans h2
    have f2 : fldU 1 a = x := (tU_1 _ _ _ _ _).trans h3
    have f3 : frcU 1 a = b := (tU_1 _ _ _ _ _).trans h4
    have f4 : clsU 1 a = clsN 16 11 5 a := tU_1 _ _ _ _ _
    have f5 : fitU 1 a = decide (a < 2 ^ 16) := tU_1 _ _ _ _ _
    refine ⟨a, Nat.lt_of_lt_of_le h1 (Nat.pow_le_pow_right (by decide) (by decide)), f1, by rw [f2], f3, ?_, ?_, hm⟩
    · rw [f5]
      exact decide_eq_true h1
    · rw [f4]
      exact h5
  · rw [tU_2] at h
    obtain ⟨x, rfl⟩ := Int.eq_ofNat_of_zero_le h.1
    have hx : x < 2 ^ 8 := by omega
    obtain ⟨h1, h2, h3, h4, h5⟩ := partsM (P := 24) (F := 8) (x := x) (b := b) neg (by decide) hx h.2.2
    have hm := fun w hg => makeYes_2 neg x b hx h.2.2 x rfl w hg
    have e0 : (2 : Nat) ^ (24 + 8 - 1) = 2147483648 := by decide +kernel
    rw [e0, show (24 - 1 : Nat) = 23 from rfl] at h1 h2 h3 h4 h5
    generalize x * 2 ^ 23 + b + (bif neg then 2147483648 else 0) = a at *
    have f1 : negU 2 a = neg := (tU_2 _ _ _ _ _).trans h2
    have f2 : fldU 2 a = x := (tU_2 _ _ _ _ _).trans h3
    have f3 : frcU 2 a = b := (tU_2 _ _ _ _ _).trans h4
    have f4 : clsU 2 a = clsN 32 24 8 a := tU_2 _ _ _ _ _
    have f5 : fitU 2 a = decide (a < 2 ^ 32) := tU_2 _ _ _ _ _
    refine ⟨a, Nat.lt_of_lt_of_le h1 (Nat.pow_le_pow_right (by decide) (by decide)), f1, by rw [f2], f3, ?_, ?_, hm⟩
    · rw [f5]
      exact decide_eq_true h1
    · rw [f4]
      exact h5
  · rw [tU_3] at h
    obtain ⟨x, rfl⟩ := Int.eq_ofNat_of_zero_le h.1
    have hx : x < 2 ^ 11 := by omega
    obtain ⟨h1, h2, h3, h4, h5⟩ := partsM (P := 53) (F := 11) (x := x) (b := b) neg (by decide) hx h.2.2
    have hm := fun w hg => makeYes_3 neg x b hx h.2.2 x rfl w hg
    have e0 : (2 : Nat) ^ (53 + 11 - 1) = 9223372036854775808 := by decide +kernel
    rw [e0, show (53 - 1 : Nat) = 52 from rfl] at h1 h2 h3 h4 h5
    generalize x * 2 ^ 52 + b + (bif neg then 9223372036854775808 else 0) = a at *
    have f1 : negU 3 a = neg := (tU_3 _ _ _ _ _).trans h2
    have f2 : fldU 3 a = x := (tU_3 _ _ _ _ _).trans h3
    have f3 : frcU 3 a = b := (tU_3 _ _ _ _ _).trans h4
    have f4 : clsU 3 a = clsN 64 53 11 a := tU_3 _ _ _ _ _
    have f5 : fitU 3 a = decide (a < 2 ^ 64) := tU_3 _ _ _ _ _
    refine ⟨a, Nat.lt_of_lt_of_le h1 (Nat.pow_le_pow_right (by decide) (by decide)), f1, by rw [f2], f3, ?_, ?_, hm⟩
    · rw [f5]
      exact decide_eq_true h1
    · rw [f4]
      exact h5
  · rw [tU_4] at h
    obtain ⟨x, rfl⟩ := Int.eq_ofNat_of_zero_le h.1
    have hx : x < 2 ^ 15 := by omega
    obtain ⟨h1, h2, h3, h4, h5⟩ := partsM (P := 113) (F := 15) (x := x) (b := b) neg (by decide) hx h.2.2
    have hm := fun w hg => makeYes_4 neg x b hx h.2.2 x rfl w hg
    have e0 : (2 : Nat) ^ (113 + 15 - 1) = 170141183460469231731687303715884105728 := by decide +kernel
    rw [e0, show (113 - 1 : Nat) = 112 from rfl] at h1 h2 h3 h4 h5
    generalize x * 2 ^ 112 + b + (bif neg then 170141183460469231731687303715884105728 else 0) = a at *
    have f1 : negU 4 a = neg := (tU_4 _ _ _ _ _).trans h2
    have f2 : fldU 4 a = x := (tU_4 _ _ _ _ _).trans h3
    have f3 : frcU 4 a = b := (tU_4 _ _ _ _ _).trans h4
    have f4 : clsU 4 a = clsN 128 113 15 a := tU_4 _ _ _ _ _
    have f5 : fitU 4 a = decide (a < 2 ^ 128) := tU_4 _ _ _ _ _
    refine ⟨a, Nat.lt_of_lt_of_le h1 (Nat.pow_le_pow_right (by decide) (by decide)), f1, by rw [f2], f3, ?_, ?_, hm⟩
    · rw [f5]
      exact decide_eq_true h1
    · rw [f4]
      exact h5
  · rw [tU_none f h0] at h
    exact h.elim
/-- A word's own parts. -/
theorem makeOwn_u (f : Int) (a : Nat) (h : clsU f a ≠ 0) (w : World) (hg : FmtG w) :
    Calls Tryz.prog 56 #[.int .i64 f, .bool (negU f a), .int .i64 (fldU f a : Nat), .agg #[.int .u64 (dgl (frcU f a) 0 : Nat), .int .u64 (dgl (frcU f a) 1 : Nat), .int .u64 (dgl (frcU f a) 2 : Nat), .int .u64 (dgl (frcU f a) 3 : Nat), .int .u64 (dgl (frcU f a) 4 : Nat), .int .u64 (dgl (frcU f a) 5 : Nat), .int .u64 (dgl (frcU f a) 6 : Nat), .int .u64 (dgl (frcU f a) 7 : Nat)]] w fun e w' => e = .returned (.tuple #[.agg #[.int .u64 (dgl (a) 1 : Nat), .int .u64 (dgl (a) 0 : Nat)], .bool true]) ∧ Below w.heap.size w w' := by
  rcases f_cases f with rfl | rfl | rfl | rfl | h0
  · have ha : a < 2 ^ (11 + 5) := cls_fit (B := 16) (P := 11) (F := 5) h
    have e1 : fldU 1 a = a / 2 ^ 10 % 2 ^ 5 := if_pos ha
    have e2 : frcU 1 a = a % 2 ^ 10 := if_pos ha
    have e3 : negU 1 a = (a / 2 ^ (11 + 5 - 1) % 2 == 1) := by
      show (decide (a < 2 ^ 16) && (a / 2 ^ (16 - 1) % 2 == 1)) = _
      rw [decide_eq_true ha, Bool.true_and]
    have ho := ownN (P := 11) (F := 5) (a := a) (by decide) ha
    have hm := makeYes_1 (a / 2 ^ (11 + 5 - 1) % 2 == 1) (a / 2 ^ 10 % 2 ^ 5) (a % 2 ^ 10) (Nat.mod_lt _ (Nat.two_pow_pos _)) (Nat.mod_lt _ (Nat.two_pow_pos _)) _ rfl w hg
    have e0 : (2 : Nat) ^ (11 + 5 - 1) = 32768 := by decide +kernel
    rw [e0, show (11 - 1 : Nat) = 10 from rfl] at ho
    rw [e0] at hm e3
    rw [ho] at hm
    rw [e1, e2, e3]
    exact hm
  · have ha : a < 2 ^ (24 + 8) := cls_fit (B := 32) (P := 24) (F := 8) h
    have e1 : fldU 2 a = a / 2 ^ 23 % 2 ^ 8 := if_pos ha
    have e2 : frcU 2 a = a % 2 ^ 23 := if_pos ha
    have e3 : negU 2 a = (a / 2 ^ (24 + 8 - 1) % 2 == 1) := by
      show (decide (a < 2 ^ 32) && (a / 2 ^ (32 - 1) % 2 == 1)) = _
      rw [decide_eq_true ha, Bool.true_and]
    have ho := ownN (P := 24) (F := 8) (a := a) (by decide) ha
    have hm := makeYes_2 (a / 2 ^ (24 + 8 - 1) % 2 == 1) (a / 2 ^ 23 % 2 ^ 8) (a % 2 ^ 23) (Nat.mod_lt _ (Nat.two_pow_pos _)) (Nat.mod_lt _ (Nat.two_pow_pos _)) _ rfl w hg
    have e0 : (2 : Nat) ^ (24 + 8 - 1) = 2147483648 := by decide +kernel
    rw [e0, show (24 - 1 : Nat) = 23 from rfl] at ho
    rw [e0] at hm e3
    rw [ho] at hm
    rw [e1, e2, e3]
    exact hm
  · have ha : a < 2 ^ (53 + 11) := cls_fit (B := 64) (P := 53) (F := 11) h
    have e1 : fldU 3 a = a / 2 ^ 52 % 2 ^ 11 := if_pos ha
    have e2 : frcU 3 a = a % 2 ^ 52 := if_pos ha
    have e3 : negU 3 a = (a / 2 ^ (53 + 11 - 1) % 2 == 1) := by
      show (decide (a < 2 ^ 64) && (a / 2 ^ (64 - 1) % 2 == 1)) = _
      rw [decide_eq_true ha, Bool.true_and]
    have ho := ownN (P := 53) (F := 11) (a := a) (by decide) ha
    have hm := makeYes_3 (a / 2 ^ (53 + 11 - 1) % 2 == 1) (a / 2 ^ 52 % 2 ^ 11) (a % 2 ^ 52) (Nat.mod_lt _ (Nat.two_pow_pos _)) (Nat.mod_lt _ (Nat.two_pow_pos _)) _ rfl w hg
    have e0 : (2 : Nat) ^ (53 + 11 - 1) = 9223372036854775808 := by decide +kernel
    rw [e0, show (53 - 1 : Nat) = 52 from rfl] at ho
    rw [e0] at hm e3
    rw [ho] at hm
    rw [e1, e2, e3]
    exact hm
  · have ha : a < 2 ^ (113 + 15) := cls_fit (B := 128) (P := 113) (F := 15) h
    have e1 : fldU 4 a = a / 2 ^ 112 % 2 ^ 15 := if_pos ha
    have e2 : frcU 4 a = a % 2 ^ 112 := if_pos ha
    have e3 : negU 4 a = (a / 2 ^ (113 + 15 - 1) % 2 == 1) := by
      show (decide (a < 2 ^ 128) && (a / 2 ^ (128 - 1) % 2 == 1)) = _
      rw [decide_eq_true ha, Bool.true_and]
    have ho := ownN (P := 113) (F := 15) (a := a) (by decide) ha
    have hm := makeYes_4 (a / 2 ^ (113 + 15 - 1) % 2 == 1) (a / 2 ^ 112 % 2 ^ 15) (a % 2 ^ 112) (Nat.mod_lt _ (Nat.two_pow_pos _)) (Nat.mod_lt _ (Nat.two_pow_pos _)) _ rfl w hg
    have e0 : (2 : Nat) ^ (113 + 15 - 1) = 170141183460469231731687303715884105728 := by decide +kernel
    rw [e0, show (113 - 1 : Nat) = 112 from rfl] at ho
    rw [e0] at hm e3
    rw [ho] at hm
    rw [e1, e2, e3]
    exact hm
  · exact absurd (tU_none f h0 _ _ _ _ _) h

theorem number_open {H : Type} {enc : TypeId × Value → H} {W : World} {r : Reach} {b0 base : Nat} {sp : Nat → Bool} {held : Bool} {v : Value} {d : DataW H} {ps : List MemPlace}
    (hval : Value.okWide Tryz.prog W r b0 27 v) (hd : DataW.Trod enc Tryz.prog W base sp held 27 v d ps) : ∃ (neg : Bool) (z : Int) (b : Nat), ((-9223372036854775808 ≤ z ∧ z ≤ 9223372036854775807) ∧ b < QQ) ∧ v = .agg (#[.bool neg, .int .i64 z] ++ #[.int .u64 (dgl (b) 0 : Nat), .int .u64 (dgl (b) 1 : Nat), .int .u64 (dgl (b) 2 : Nat), .int .u64 (dgl (b) 3 : Nat), .int .u64 (dgl (b) 4 : Nat), .int .u64 (dgl (b) 5 : Nat), .int .u64 (dgl (b) 6 : Nat), .int .u64 (dgl (b) 7 : Nat)]) := by
  obtain ⟨cs, rfl, hsz⟩ := Go.WideShapes.okWide_struct Tryz.underlying27 hval
  have hC : Tryz.prog.cellsOf 27 = 10 := by kernel_rfl
  have c1 : Tryz.prog.cellsOf 3 = 1 := by kernel_rfl
  have cb : Tryz.prog.cellsOf 4 = 1 := by kernel_rfl
  have c8 : Tryz.prog.cellsOf 25 = 8 := by kernel_rfl
  have cu : Tryz.prog.cellsOf 23 = 1 := by kernel_rfl
  rw [hC] at hsz
  obtain ⟨fuel, hf⟩ := hd
  obtain ⟨xs, n, _, hx, hl, hlen, hfs⟩ := DataW.trod_struct Tryz.underlying27 hf
  clear hx hl
  obtain ⟨l⟩ := cs
  replace hsz : l.length = 10 := hsz
  match l, hsz with
  | k0 :: k1 :: t, hsz =>
    have hl8 : t.length = 8 := by simpa using hsz
    match xs, hlen with
    | [y0, y1, y2], _ =>
      have g0 : DataW.trod enc Tryz.prog W base sp held n 4 [k0] = some y0 := hfs 0 _ rfl
      have g1 : DataW.trod enc Tryz.prog W base sp held n 3 [k1] = some y1 := hfs 1 _ rfl
      have gw : DataW.trod enc Tryz.prog W base sp held n 25 (t.take 8) = some y2 := hfs 2 _ rfl
      rw [List.take_of_length_le (by omega)] at gw
      obtain ⟨zs, m, _, _, _, hzl, hget⟩ := DataW.trod_array Tryz.underlying25 gw
      rw [cu] at hget
      obtain ⟨x, hx, e⟩ := wide_of_cells t.toArray (by simpa using hl8) (fun i hi => by
        have h1 := hget i hi
        rw [List.getElem?_eq_getElem (by omega)] at h1
        obtain ⟨a, ea, _, wa⟩ := DataW.trod_int Tryz.underlying23 h1
        obtain ⟨q, rfl, hq⟩ := u64_nat wa
        refine ⟨q, hq, ?_⟩
        simp only [Nat.mul_one] at ea
        have := congrArg (fun l => l[0]?) ea
        simpa [List.getElem?_take, List.getElem?_drop] using this)
      have et : t = #[.int .u64 (dgl (x) 0 : Nat), .int .u64 (dgl (x) 1 : Nat), .int .u64 (dgl (x) 2 : Nat), .int .u64 (dgl (x) 3 : Nat), .int .u64 (dgl (x) 4 : Nat), .int .u64 (dgl (x) 5 : Nat), .int .u64 (dgl (x) 6 : Nat), .int .u64 (dgl (x) 7 : Nat)].toList := by
        have := congrArg Array.toList e
        simpa using this
      subst et
      obtain ⟨a0, e0, _⟩ := DataW.trod_bool Tryz.underlying4 g0
      simp at e0
      subst e0
      obtain ⟨a1, e1, _, wa1⟩ := DataW.trod_int Tryz.underlying3 g1
      simp at e1
      subst e1
      exact ⟨a0, a1, x, ⟨i64_bd wa1, hx⟩, rfl⟩

end Go.Proofs.YtpcjdllijkjdkaaGreatDoor

/- Contracts: unpack.Right, lowest; the document's Right; numbers that lie in a block; == on numbers. -/
set_option linter.unusedVariables false
set_option linter.unusedSimpArgs false
set_option maxRecDepth 8000
namespace Go.Proofs.YtpcjdllijkjdkaaGreatDoor
open Go.RowKit Plain

/-- A number lies in a block. -/
structure NB (W : World) (p : Nat) (neg : Bool) (z : Int) (s : Nat) : Prop where
  n : W.cell? ⟨p, 0, none⟩ = some (.bool neg)
  e : W.cell? ⟨p, 1, none⟩ = some (.int .i64 z)
  x0 : W.cell? ⟨p, 2, none⟩ = some (.int .u64 (dgl s 0 : Nat))
  x1 : W.cell? ⟨p, 3, none⟩ = some (.int .u64 (dgl s 1 : Nat))
  x2 : W.cell? ⟨p, 4, none⟩ = some (.int .u64 (dgl s 2 : Nat))
  x3 : W.cell? ⟨p, 5, none⟩ = some (.int .u64 (dgl s 3 : Nat))
  x4 : W.cell? ⟨p, 6, none⟩ = some (.int .u64 (dgl s 4 : Nat))
  x5 : W.cell? ⟨p, 7, none⟩ = some (.int .u64 (dgl s 5 : Nat))
  x6 : W.cell? ⟨p, 8, none⟩ = some (.int .u64 (dgl s 6 : Nat))
  x7 : W.cell? ⟨p, 9, none⟩ = some (.int .u64 (dgl s 7 : Nat))
  lt : p < W.heap.size
theorem NB.under {W W' : World} {p : Nat} {neg : Bool} {z : Int} {s : Nat} (h : NB W p neg z s) {C : Nat} (hb : Below C W W') (hc : p < C) : NB W' p neg z s :=
  ⟨(hb.cell (p := ⟨p, 0, none⟩) hc).trans h.n, (hb.cell (p := ⟨p, 1, none⟩) hc).trans h.e, (hb.cell (p := ⟨p, 2, none⟩) hc).trans h.x0, (hb.cell (p := ⟨p, 3, none⟩) hc).trans h.x1, (hb.cell (p := ⟨p, 4, none⟩) hc).trans h.x2, (hb.cell (p := ⟨p, 5, none⟩) hc).trans h.x3, (hb.cell (p := ⟨p, 6, none⟩) hc).trans h.x4, (hb.cell (p := ⟨p, 7, none⟩) hc).trans h.x5, (hb.cell (p := ⟨p, 8, none⟩) hc).trans h.x6, (hb.cell (p := ⟨p, 9, none⟩) hc).trans h.x7, Nat.lt_of_lt_of_le h.lt hb.size⟩
theorem NB.below {W W' : World} {p : Nat} {neg : Bool} {z : Int} {s : Nat} (h : NB W p neg z s) (hb : Below W.heap.size W W') : NB W' p neg z s := h.under hb h.lt
theorem nb_new (w : World) (neg : Bool) (z : Int) (s : Nat) (e : TypeId) : NB (w.alloc (.cells #[.bool (neg), .int .i64 (z), .int .u64 (dgl (s) 0 : Nat), .int .u64 (dgl (s) 1 : Nat), .int .u64 (dgl (s) 2 : Nat), .int .u64 (dgl (s) 3 : Nat), .int .u64 (dgl (s) 4 : Nat), .int .u64 (dgl (s) 5 : Nat), .int .u64 (dgl (s) 6 : Nat), .int .u64 (dgl (s) 7 : Nat)] e)) w.heap.size neg z s :=
  ⟨by simp [go_sem], by simp [go_sem], by simp [go_sem], by simp [go_sem], by simp [go_sem], by simp [go_sem], by simp [go_sem], by simp [go_sem], by simp [go_sem], by simp [go_sem], by simp⟩
theorem nb_zero (w : World) (e : TypeId) : NB (w.alloc (.cells #[.bool false, .int .i64 0, .int .u64 0, .int .u64 0, .int .u64 0, .int .u64 0, .int .u64 0, .int .u64 0, .int .u64 0, .int .u64 0] e)) w.heap.size false 0 0 :=
  ⟨by simp [go_sem, dgl_zero], by simp [go_sem, dgl_zero], by simp [go_sem, dgl_zero], by simp [go_sem, dgl_zero], by simp [go_sem, dgl_zero], by simp [go_sem, dgl_zero], by simp [go_sem, dgl_zero], by simp [go_sem, dgl_zero], by simp [go_sem, dgl_zero], by simp [go_sem, dgl_zero], by simp⟩

/-- Is a number right? -/
def rgt (z : Int) : Bool := decide (-1048576 ≤ z) && decide (z ≤ 1048576)

theorem uRight_any (neg : Bool) (z : Int) (s : Nat) (w : World) : Calls Tryz.prog 43 #[.agg #[.bool (neg), .int .i64 (z), .int .u64 (dgl (s) 0 : Nat), .int .u64 (dgl (s) 1 : Nat), .int .u64 (dgl (s) 2 : Nat), .int .u64 (dgl (s) 3 : Nat), .int .u64 (dgl (s) 4 : Nat), .int .u64 (dgl (s) 5 : Nat), .int .u64 (dgl (s) 6 : Nat), .int .u64 (dgl (s) 7 : Nat)]] w fun e w' => e = .returned (.bool (rgt z)) ∧ Below w.heap.size w w' := by
  have HR : Hid (∀ b, decide (-1048576 ≤ z) = b → rgt z = (b && decide (z ≤ 1048576))) := fun b hb => by rw [← hb]; rfl
  have HB := hide (below_allocs w (.cells #[.bool (neg), .int .i64 (z), .int .u64 (dgl (s) 0 : Nat), .int .u64 (dgl (s) 1 : Nat), .int .u64 (dgl (s) 2 : Nat), .int .u64 (dgl (s) 3 : Nat), .int .u64 (dgl (s) 4 : Nat), .int .u64 (dgl (s) 5 : Nat), .int .u64 (dgl (s) 6 : Nat), .int .u64 (dgl (s) 7 : Nat)] 27))
  go_enter Tryz.func43, Tryz.ntmps43
  by_cases h : -1048576 ≤ z
  · have HF := hide (HR.out true (decide_eq_true h))
    go_wp2
    go_ret
    exact ⟨ret_bl HF.out.symm, HB.out⟩
  · have HF := hide (HR.out false (decide_eq_false h))
    go_wp2
    go_ret
    exact ⟨ret_bl HF.out.symm, HB.out⟩

theorem refRight_any (neg : Bool) (z : Int) (s : Nat) (w : World) : Calls Tryz.prog 25 #[.agg #[.bool (neg), .int .i64 (z), .int .u64 (dgl (s) 0 : Nat), .int .u64 (dgl (s) 1 : Nat), .int .u64 (dgl (s) 2 : Nat), .int .u64 (dgl (s) 3 : Nat), .int .u64 (dgl (s) 4 : Nat), .int .u64 (dgl (s) 5 : Nat), .int .u64 (dgl (s) 6 : Nat), .int .u64 (dgl (s) 7 : Nat)]] w fun e w' => e = .returned (.bool (rgt z)) ∧ Below w.heap.size w w' := by
  have HR : Hid (∀ b, decide (-1048576 ≤ z) = b → rgt z = (b && decide (z ≤ 1048576))) := fun b hb => by rw [← hb]; rfl
  have HB := hide (below_allocs w (.cells #[.bool (neg), .int .i64 (z), .int .u64 (dgl (s) 0 : Nat), .int .u64 (dgl (s) 1 : Nat), .int .u64 (dgl (s) 2 : Nat), .int .u64 (dgl (s) 3 : Nat), .int .u64 (dgl (s) 4 : Nat), .int .u64 (dgl (s) 5 : Nat), .int .u64 (dgl (s) 6 : Nat), .int .u64 (dgl (s) 7 : Nat)] 27))
  go_enter Tryz.func25, Tryz.ntmps25
  by_cases h : -1048576 ≤ z
  · have HF := hide (HR.out true (decide_eq_true h))
    go_wp2
    go_ret
    exact ⟨ret_bl HF.out.symm, HB.out⟩
  · have HF := hide (HR.out false (decide_eq_false h))
    go_wp2
    go_ret
    exact ⟨ret_bl HF.out.symm, HB.out⟩

theorem low_1 (w : World) : Calls Tryz.prog 54 #[.agg #[.int .i64 (16), .int .i64 (11), .int .i64 (15), .int .i64 (-14), .int .i64 (5)]] w fun e w' => e = .returned (.int .i64 (-24)) ∧ Below w.heap.size w w' := by
  go_enter Tryz.func54, Tryz.ntmps54
  go_wp2
  go_ret
  exact ⟨rfl, below_allocs _ _⟩

theorem low_2 (w : World) : Calls Tryz.prog 54 #[.agg #[.int .i64 (32), .int .i64 (24), .int .i64 (127), .int .i64 (-126), .int .i64 (8)]] w fun e w' => e = .returned (.int .i64 (-149)) ∧ Below w.heap.size w w' := by
  go_enter Tryz.func54, Tryz.ntmps54
  go_wp2
  go_ret
  exact ⟨rfl, below_allocs _ _⟩

theorem low_3 (w : World) : Calls Tryz.prog 54 #[.agg #[.int .i64 (64), .int .i64 (53), .int .i64 (1023), .int .i64 (-1022), .int .i64 (11)]] w fun e w' => e = .returned (.int .i64 (-1074)) ∧ Below w.heap.size w w' := by
  go_enter Tryz.func54, Tryz.ntmps54
  go_wp2
  go_ret
  exact ⟨rfl, below_allocs _ _⟩

theorem low_4 (w : World) : Calls Tryz.prog 54 #[.agg #[.int .i64 (128), .int .i64 (113), .int .i64 (16383), .int .i64 (-16382), .int .i64 (15)]] w fun e w' => e = .returned (.int .i64 (-16494)) ∧ Below w.heap.size w w' := by
  go_enter Tryz.func54, Tryz.ntmps54
  go_wp2
  go_ret
  exact ⟨rfl, below_allocs _ _⟩

end Go.Proofs.YtpcjdllijkjdkaaGreatDoor

/- Contracts: unpack.moved, over what its parts tell. -/
set_option linter.unusedVariables false
set_option linter.unusedSimpArgs false
set_option maxRecDepth 8000
namespace Go.Proofs.YtpcjdllijkjdkaaGreatDoor
open Go.RowKit Plain

theorem nb_set {W : World} {p : Nat} {n0 : Bool} {z0 : Int} {s0 : Nat} (h : NB W p n0 z0 s0) (n : Bool) (z : Int) (s : Nat) : NB ((((((((((W.setCell ⟨p, 0, none⟩ (.bool (n))).setCell ⟨p, 1, none⟩ (.int .i64 (z))).setCell ⟨p, 2, none⟩ (.int .u64 (dgl (s) 0 : Nat))).setCell ⟨p, 3, none⟩ (.int .u64 (dgl (s) 1 : Nat))).setCell ⟨p, 4, none⟩ (.int .u64 (dgl (s) 2 : Nat))).setCell ⟨p, 5, none⟩ (.int .u64 (dgl (s) 3 : Nat))).setCell ⟨p, 6, none⟩ (.int .u64 (dgl (s) 4 : Nat))).setCell ⟨p, 7, none⟩ (.int .u64 (dgl (s) 5 : Nat))).setCell ⟨p, 8, none⟩ (.int .u64 (dgl (s) 6 : Nat))).setCell ⟨p, 9, none⟩ (.int .u64 (dgl (s) 7 : Nat))) p n z s := by
  have ln := h.n
  have le := h.e
  have l0 := h.x0
  have l1 := h.x1
  have l2 := h.x2
  have l3 := h.x3
  have l4 := h.x4
  have l5 := h.x5
  have l6 := h.x6
  have l7 := h.x7
  have hl := h.lt
  exact ⟨by simp [go_sem, ln, le, l0, l1, l2, l3, l4, l5, l6, l7], by simp [go_sem, ln, le, l0, l1, l2, l3, l4, l5, l6, l7], by simp [go_sem, ln, le, l0, l1, l2, l3, l4, l5, l6, l7], by simp [go_sem, ln, le, l0, l1, l2, l3, l4, l5, l6, l7], by simp [go_sem, ln, le, l0, l1, l2, l3, l4, l5, l6, l7], by simp [go_sem, ln, le, l0, l1, l2, l3, l4, l5, l6, l7], by simp [go_sem, ln, le, l0, l1, l2, l3, l4, l5, l6, l7], by simp [go_sem, ln, le, l0, l1, l2, l3, l4, l5, l6, l7], by simp [go_sem, ln, le, l0, l1, l2, l3, l4, l5, l6, l7], by simp [go_sem, ln, le, l0, l1, l2, l3, l4, l5, l6, l7], by simpa [go_sem] using hl⟩
theorem below_set10 {B : Nat} {A W : World} (h : Below B A W) (p : Nat) (hb : B ≤ p) (n : Bool) (z : Int) (s : Nat) : Below B A ((((((((((W.setCell ⟨p, 0, none⟩ (.bool (n))).setCell ⟨p, 1, none⟩ (.int .i64 (z))).setCell ⟨p, 2, none⟩ (.int .u64 (dgl (s) 0 : Nat))).setCell ⟨p, 3, none⟩ (.int .u64 (dgl (s) 1 : Nat))).setCell ⟨p, 4, none⟩ (.int .u64 (dgl (s) 2 : Nat))).setCell ⟨p, 5, none⟩ (.int .u64 (dgl (s) 3 : Nat))).setCell ⟨p, 6, none⟩ (.int .u64 (dgl (s) 4 : Nat))).setCell ⟨p, 7, none⟩ (.int .u64 (dgl (s) 5 : Nat))).setCell ⟨p, 8, none⟩ (.int .u64 (dgl (s) 6 : Nat))).setCell ⟨p, 9, none⟩ (.int .u64 (dgl (s) 7 : Nat))) :=
  ((((((((((h.setCell (p := ⟨p, 0, none⟩) (hb) _).setCell (p := ⟨p, 1, none⟩) (hb) _).setCell (p := ⟨p, 2, none⟩) (hb) _).setCell (p := ⟨p, 3, none⟩) (hb) _).setCell (p := ⟨p, 4, none⟩) (hb) _).setCell (p := ⟨p, 5, none⟩) (hb) _).setCell (p := ⟨p, 6, none⟩) (hb) _).setCell (p := ⟨p, 7, none⟩) (hb) _).setCell (p := ⟨p, 8, none⟩) (hb) _).setCell (p := ⟨p, 9, none⟩) (hb) _)

end Go.Proofs.YtpcjdllijkjdkaaGreatDoor

/- Contracts: the closures of unpack.Value and Unpack; unpack.Value, Unpack, at any format. -/
set_option linter.unusedVariables false
set_option linter.unusedSimpArgs false
set_option maxRecDepth 8000
namespace Go.Proofs.YtpcjdllijkjdkaaGreatDoor
open Go.RowKit Plain

def kU (f : Int) : Nat → Int := tU f (fun i => ([16, 11, 15, -14, 5] : List Int).getD i 0) (fun i => ([32, 24, 127, -126, 8] : List Int).getD i 0) (fun i => ([64, 53, 1023, -1022, 11] : List Int).getD i 0) (fun i => ([128, 113, 16383, -16382, 15] : List Int).getD i 0) (fun _ => 0)
def prU (f : Int) : Nat := tU f 11 24 53 113 0
def loU (f : Int) : Int := tU f (-24) (-149) (-1074) (-16494) 0
def sigU (f : Int) (a : Nat) : Nat := if fldU f a = 0 then frcU f a else frcU f a + 2 ^ (prU f - 1)
def expU (f : Int) (a : Nat) : Int := if fldU f a = 0 then loU f else loU f + ((fldU f a : Int) - 1)
theorem of_u (f : Int) (h : 1 ≤ f ∧ f ≤ 4) (w : World) (hg : FmtG w) : Calls Tryz.prog 15 #[.int .i64 f] w fun e w' => e = .returned (.tuple #[.agg #[.int .i64 (kU f 0), .int .i64 (kU f 1), .int .i64 (kU f 2), .int .i64 (kU f 3), .int .i64 (kU f 4)], .bool true]) ∧ Below w.heap.size w w' := by
  rcases f_cases f with rfl | rfl | rfl | rfl | h0
  · exact of_1 w hg
  · exact of_2 w hg
  · exact of_3 w hg
  · exact of_4 w hg
  · omega
theorem low_u (f : Int) (h : 1 ≤ f ∧ f ≤ 4) (w : World) : Calls Tryz.prog 54 #[.agg #[.int .i64 (kU f 0), .int .i64 (kU f 1), .int .i64 (kU f 2), .int .i64 (kU f 3), .int .i64 (kU f 4)]] w fun e w' => e = .returned (.int .i64 (loU f)) ∧ Below w.heap.size w w' := by
  rcases f_cases f with rfl | rfl | rfl | rfl | h0
  · exact low_1 w
  · exact low_2 w
  · exact low_3 w
  · exact low_4 w
  · omega
theorem kU_1 (f : Int) (h : 1 ≤ f ∧ f ≤ 4) : kU f 1 = (prU f : Int) := by
  rcases f_cases f with rfl | rfl | rfl | rfl | h0
  · rfl
  · rfl
  · rfl
  · rfl
  · omega
theorem prU_bd (f : Int) (h : 1 ≤ f ∧ f ≤ 4) : 11 ≤ prU f ∧ prU f ≤ 113 := by
  rcases f_cases f with rfl | rfl | rfl | rfl | h0
  · decide
  · decide
  · decide
  · decide
  · omega
theorem loU_bd (f : Int) : -20000 ≤ loU f ∧ loU f ≤ 0 := by
  unfold loU tU
  repeat' split
  all_goals decide
theorem fldU_le (f : Int) (a : Nat) : fldU f a ≤ 32767 := by
  unfold fldU tU fldN
  repeat' split
  all_goals omega
theorem cls_form {f : Int} {a : Nat} (h : clsU f a ≠ 0) : 1 ≤ f ∧ f ≤ 4 := by
  refine Classical.byContradiction fun h0 => h ?_
  exact tU_none f (by omega) _ _ _ _ _
theorem frcU_lt (f : Int) (a : Nat) (h : 1 ≤ f ∧ f ≤ 4) : frcU f a < 2 ^ (prU f - 1) := by
  rcases f_cases f with rfl | rfl | rfl | rfl | h0
  · show frcN 16 11 a < 2 ^ 10
    unfold frcN; split
    · exact Nat.mod_lt _ (by decide)
    · decide
  · show frcN 32 24 a < 2 ^ 23
    unfold frcN; split
    · exact Nat.mod_lt _ (by decide)
    · decide
  · show frcN 64 53 a < 2 ^ 52
    unfold frcN; split
    · exact Nat.mod_lt _ (by decide)
    · decide
  · show frcN 128 113 a < 2 ^ 112
    unfold frcN; split
    · exact Nat.mod_lt _ (by decide)
    · decide
  · omega
theorem sigU_lt (f : Int) (a : Nat) (h : 1 ≤ f ∧ f ≤ 4) : sigU f a < 2 ^ prU f := by
  have h1 := frcU_lt f a h
  have h2 := (prU_bd f h).1
  have h3 : 2 ^ prU f = 2 * 2 ^ (prU f - 1) := by rw [← Nat.pow_succ']; congr 1; omega
  unfold sigU
  split <;> omega
theorem pow_qq (n : Nat) (h : n ≤ 200) : 2 ^ n < QQ := by
  have h1 : (2 : Nat) ^ n ≤ 2 ^ 200 := Nat.pow_le_pow_right (by decide) h
  have h2 : 2 ^ 200 < QQ := by decide +kernel
  omega
theorem sigU_qq (f : Int) (a : Nat) (h : 1 ≤ f ∧ f ≤ 4) : sigU f a < QQ := by
  have h1 := sigU_lt f a h
  have h2 := pow_qq (prU f) (by have := (prU_bd f h).2; omega)
  omega

theorem shl_num (s n : Nat) (h : n ≤ 512) (hs : s < QQ) (w : World) : Calls Tryz.prog 74 #[.agg #[.int .u64 (dgl (s) 0 : Nat), .int .u64 (dgl (s) 1 : Nat), .int .u64 (dgl (s) 2 : Nat), .int .u64 (dgl (s) 3 : Nat), .int .u64 (dgl (s) 4 : Nat), .int .u64 (dgl (s) 5 : Nat), .int .u64 (dgl (s) 6 : Nat), .int .u64 (dgl (s) 7 : Nat)], .int .i64 (n : Nat)] w fun e w' => e = .returned (.agg #[.int .u64 (dgl (s * 2 ^ n) 0 : Nat), .int .u64 (dgl (s * 2 ^ n) 1 : Nat), .int .u64 (dgl (s * 2 ^ n) 2 : Nat), .int .u64 (dgl (s * 2 ^ n) 3 : Nat), .int .u64 (dgl (s * 2 ^ n) 4 : Nat), .int .u64 (dgl (s * 2 ^ n) 5 : Nat), .int .u64 (dgl (s * 2 ^ n) 6 : Nat), .int .u64 (dgl (s * 2 ^ n) 7 : Nat)]) ∧ Below w.heap.size w w' := by
  have h1 := wideShl_any s (n : Int) hs w
  rw [show roomI (n : Int) = (n : Int) by unfold roomI; omega, sh_up] at h1
  exact h1

theorem pow_num (n : Nat) (x : Int) (h : n ≤ 512) (hx : x = (n : Int)) (w : World) : Calls Tryz.prog 58 #[.int .i64 x] w fun e w' => e = .returned (.agg #[.int .u64 (dgl (2 ^ n) 0 : Nat), .int .u64 (dgl (2 ^ n) 1 : Nat), .int .u64 (dgl (2 ^ n) 2 : Nat), .int .u64 (dgl (2 ^ n) 3 : Nat), .int .u64 (dgl (2 ^ n) 4 : Nat), .int .u64 (dgl (2 ^ n) 5 : Nat), .int .u64 (dgl (2 ^ n) 6 : Nat), .int .u64 (dgl (2 ^ n) 7 : Nat)]) ∧ Below w.heap.size w w' := by
  subst hx
  have h1 := widePower_any (n : Int) (by omega) w
  rw [show roomI (n : Int) = (n : Int) by unfold roomI; omega, sh_up, Nat.one_mul] at h1
  exact h1

end Go.Proofs.YtpcjdllijkjdkaaGreatDoor

/- Contracts: law07.awake; the document's numbers of any length: Of, Size. -/
set_option linter.unusedVariables false
set_option linter.unusedSimpArgs false
set_option maxRecDepth 8000
namespace Go.Proofs.YtpcjdllijkjdkaaGreatDoor
open Go.RowKit Plain

/-- A number of any length. -/
def NumV (W : World) (u : Value) (neg : Bool) (z : Int) (s K : Nat) : Prop := ∃ v, u = .agg #[.bool neg, v, .int .i64 z] ∧ BigV W v s K
theorem NumV.below {W W' : World} {u : Value} {neg : Bool} {z : Int} {s K : Nat} (h : NumV W u neg z s K) (hb : Below W.heap.size W W') : NumV W' u neg z s K := by
  obtain ⟨v, h1, h2⟩ := h
  exact ⟨v, h1, h2.below hb⟩
def SlotIs.num (neg : Bool) (z : Int) (s K : Nat) : SlotIs := ⟨fun v w => NumV w v neg z s K, fun v w w' hb h => h.below hb⟩

/-- A number of any length stays, if the three cells of a record are stored. -/
theorem BigV.set3 {W : World} {v : Value} {s K R : Nat} {b0 : Bool} {ao : Option Addr} {c0 c1 : Nat} {z0 : Int} (h : BigV W v s K) (h0 : W.cell? ⟨R, 0, none⟩ = some (.bool b0)) (h1 : W.cell? ⟨R, 1, none⟩ = some (.slice ao c0 c1)) (h2 : W.cell? ⟨R, 2, none⟩ = some (.int .i64 z0))
    (hn : ∀ i, 3 ≤ i → W.cell? ⟨R, i, none⟩ = none) (x0 x1 x2 : Value) : BigV (((W.setCell ⟨R, 0, none⟩ x0).setCell ⟨R, 1, none⟩ x1).setCell ⟨R, 2, none⟩ x2) v s K := by
  obtain ⟨l, ⟨ao, cap, rfl, hc, hm, hr⟩, hrest⟩ := h
  refine ⟨l, ⟨ao, cap, rfl, hc, hm, ?_⟩, hrest⟩
  rcases hr with hr | ⟨b, off, rfl, hlt, hcell⟩
  · exact .inl hr
  · rcases Nat.eq_zero_or_pos l.length with hz | hz
    · exact .inl hz
    · refine .inr ⟨b, off, rfl, by simpa [go_sem] using hlt, fun i hi => ?_⟩
      have hne : ¬ b = R := fun e => by
        subst e
        have h3 := hcell 0 hz
        rw [Nat.add_zero] at h3
        rcases Nat.lt_or_ge off 3 with ho | ho
        · match off, ho with
          | 0, _ => rw [h0] at h3; cases h3
          | 1, _ => rw [h1] at h3; cases h3
          | 2, _ => rw [h2] at h3; cases h3
        · rw [hn off ho] at h3; cases h3
      have := hcell i hi
      simp [go_sem, this, hne]

structure OfSt (neg : Bool) (z : Int) (s : Nat) (w W : World) : Prop where
  n : NB W w.heap.size neg z s
  fr : ∀ i, W.frozen? ⟨w.heap.size + 1, i, none⟩ = false
  r0 : W.cell? ⟨w.heap.size + 1, 0, none⟩ = some (.bool false)
  r1 : W.cell? ⟨w.heap.size + 1, 1, none⟩ = some (.slice none 0 0)
  r2 : W.cell? ⟨w.heap.size + 1, 2, none⟩ = some (.int .i64 0)
  no : ∀ i, 3 ≤ i → W.cell? ⟨w.heap.size + 1, i, none⟩ = none
  lt : w.heap.size + 1 < W.heap.size
  bel : Below w.heap.size w W
theorem OfSt.below {neg : Bool} {z : Int} {s : Nat} {w W W' : World} (h : OfSt neg z s w W) (hb : Below W.heap.size W W') : OfSt neg z s w W' :=
  ⟨h.n.below hb, fun i => (hb.frozen (p := ⟨w.heap.size + 1, i, none⟩) h.lt).trans (h.fr i), (hb.cell (p := ⟨w.heap.size + 1, 0, none⟩) h.lt).trans h.r0, (hb.cell (p := ⟨w.heap.size + 1, 1, none⟩) h.lt).trans h.r1, (hb.cell (p := ⟨w.heap.size + 1, 2, none⟩) h.lt).trans h.r2, fun i hi => (hb.cell (p := ⟨w.heap.size + 1, i, none⟩) h.lt).trans (h.no i hi), Nat.lt_of_lt_of_le h.lt hb.size, below_trans h.bel hb⟩
theorem ofSt_start (neg : Bool) (z : Int) (s : Nat) (w : World) : OfSt neg z s w ((w.alloc (.cells #[.bool (neg), .int .i64 (z), .int .u64 (dgl (s) 0 : Nat), .int .u64 (dgl (s) 1 : Nat), .int .u64 (dgl (s) 2 : Nat), .int .u64 (dgl (s) 3 : Nat), .int .u64 (dgl (s) 4 : Nat), .int .u64 (dgl (s) 5 : Nat), .int .u64 (dgl (s) 6 : Nat), .int .u64 (dgl (s) 7 : Nat)] 27)).alloc (.cells #[.bool false, .slice none 0 0, .int .i64 0] 73)) :=
  ⟨(nb_new w neg z s 27).below (below_allocs _ _), fun i => by simp [go_sem], by simp [go_sem], by simp [go_sem], by simp [go_sem], fun i hi => by simp [go_sem]; omega, by simp, below_trans (below_allocs _ _) (below_allocs _ _)⟩
set_option maxHeartbeats 1000000 in
theorem refOf7_any (neg : Bool) (z : Int) (s : Nat) (hs : s < QQ) (w : World) : Calls Tryz.prog 69 #[.agg #[.bool (neg), .int .i64 (z), .int .u64 (dgl (s) 0 : Nat), .int .u64 (dgl (s) 1 : Nat), .int .u64 (dgl (s) 2 : Nat), .int .u64 (dgl (s) 3 : Nat), .int .u64 (dgl (s) 4 : Nat), .int .u64 (dgl (s) 5 : Nat), .int .u64 (dgl (s) 6 : Nat), .int .u64 (dgl (s) 7 : Nat)]] w fun e w' => ∃ v, e = .returned v ∧ NumV w' v neg z s 40 ∧ Below w.heap.size w w' := by
  have HST := hide (ofSt_start neg z s w)
  have HBG := hide (fun w => refBig_any s hs w)
  clear hs
  go_enter Tryz.func69, Tryz.ntmps69
  go_upto_region 1 with fail
  refine wp_gen (fun W => OfSt neg z s w W) HST.out ?_
  clear HST
  rintro W1 h1
  refine wp_region_grow 8 [(3, .val (.pointer (some ⟨w.heap.size, 0, none⟩))), (4, .val (.bool neg)), (5, .val (.pointer (some ⟨w.heap.size, 2, none⟩))), (6, .val (.agg #[.int .u64 (dgl (s) 0 : Nat), .int .u64 (dgl (s) 1 : Nat), .int .u64 (dgl (s) 2 : Nat), .int .u64 (dgl (s) 3 : Nat), .int .u64 (dgl (s) 4 : Nat), .int .u64 (dgl (s) 5 : Nat), .int .u64 (dgl (s) 6 : Nat), .int .u64 (dgl (s) 7 : Nat)])), (7, .big s 40), (8, .val (.pointer (some ⟨w.heap.size, 1, none⟩))), (9, .val (.int .i64 z)), (10, .num neg z s 40)]
    (fun W => OfSt neg z s w W) mixedOk (by kernel_rfl) (by kernel_rfl) (h1.below (Below.refl _ _).drew) (fun W W' h hb => h.below hb) ?_ ?_
  · refine gSt (gStep_run rfl ?_) ?_
    · intro ρ W hC hc hf hL
      have e1 : ρ (.tmp 1) = .pointer (some ⟨w.heap.size, 0, none⟩) := hL 1 (by decide +kernel)
      simp [go_sem, hc, hf, e1]
      exact ⟨Below.refl _ _, rfl⟩
    refine gSt (gStep_run rfl ?_) ?_
    · intro ρ W hC hc hf hL
      have e3 : ρ (.tmp 3) = .pointer (some ⟨w.heap.size, 0, none⟩) := hL 3 (by decide +kernel)
      have l0 := hC.n.n
      simp [go_sem, hc, hf, e3, l0]
      exact ⟨Below.refl _ _, rfl⟩
    refine gSt (gStep_run rfl ?_) ?_
    · intro ρ W hC hc hf hL
      have e1 : ρ (.tmp 1) = .pointer (some ⟨w.heap.size, 0, none⟩) := hL 1 (by decide +kernel)
      simp [go_sem, hc, hf, e1]
      exact ⟨Below.refl _ _, rfl⟩
    refine gSt (gStep_run rfl ?_) ?_
    · intro ρ W hC hc hf hL
      have e5 : ρ (.tmp 5) = .pointer (some ⟨w.heap.size, 2, none⟩) := hL 5 (by decide +kernel)
      have l0 := hC.n.x0
      have l1 := hC.n.x1
      have l2 := hC.n.x2
      have l3 := hC.n.x3
      have l4 := hC.n.x4
      have l5 := hC.n.x5
      have l6 := hC.n.x6
      have l7 := hC.n.x7
      simp [go_sem, hc, hf, e5, l0, l1, l2, l3, l4, l5, l6, l7]
      exact ⟨Below.refl _ _, rfl⟩
    refine gSt (gStep_run rfl ?_) ?_
    · intro ρ W hC hc hf hL
      have e6 : ρ (.tmp 6) = .agg #[.int .u64 (dgl (s) 0 : Nat), .int .u64 (dgl (s) 1 : Nat), .int .u64 (dgl (s) 2 : Nat), .int .u64 (dgl (s) 3 : Nat), .int .u64 (dgl (s) 4 : Nat), .int .u64 (dgl (s) 5 : Nat), .int .u64 (dgl (s) 6 : Nat), .int .u64 (dgl (s) 7 : Nat)] := hL 6 (by decide +kernel)
      simp [go_sem, hc, hf, e6]
      refine (HBG.out W).mono ?_
      rintro e w' ⟨v, rfl, hv, hb⟩
      exact ⟨_, rfl, hb, hv⟩
    refine gSt (gStep_run rfl ?_) ?_
    · intro ρ W hC hc hf hL
      have e1 : ρ (.tmp 1) = .pointer (some ⟨w.heap.size, 0, none⟩) := hL 1 (by decide +kernel)
      simp [go_sem, hc, hf, e1]
      exact ⟨Below.refl _ _, rfl⟩
    refine gSt (gStep_run rfl ?_) ?_
    · intro ρ W hC hc hf hL
      have e8 : ρ (.tmp 8) = .pointer (some ⟨w.heap.size, 1, none⟩) := hL 8 (by decide +kernel)
      have l0 := hC.n.e
      simp [go_sem, hc, hf, e8, l0]
      exact ⟨Below.refl _ _, rfl⟩
    refine gSt (gStep_run rfl ?_) ?_
    · intro ρ W hC hc hf hL
      have e4 : ρ (.tmp 4) = .bool neg := hL 4 (by decide +kernel)
      have b7 : BigV W (ρ (.tmp 7)) (s) (40) := hL 7 (by decide +kernel)
      have e9 : ρ (.tmp 9) = .int .i64 z := hL 9 (by decide +kernel)
      obtain ⟨l7, ⟨ao7, ca7, e7, r7⟩, rest7⟩ := b7
      have b7 : BigV W (.slice ao7 l7.length ca7) s 40 := ⟨l7, ⟨ao7, ca7, rfl, r7⟩, rest7⟩
      simp [go_sem, hc, hf, e4, e9, e7]
      exact ⟨Below.refl _ _, _, rfl, b7⟩
    exact gSt0
  · intro W hC
    refine gFi 3 rfl ?_
    rintro _ rfl
    refine gFi 4 rfl ?_
    rintro _ rfl
    refine gFi 5 rfl ?_
    rintro _ rfl
    refine gFi 6 rfl ?_
    rintro _ rfl
    refine gFi 7 rfl ?_
    rintro u7 b7
    refine gFi 8 rfl ?_
    rintro _ rfl
    refine gFi 9 rfl ?_
    rintro _ rfl
    refine gFi 10 rfl ?_
    rintro u10 b10
    refine gFi0 ?_
    simp only [List.drop_succ_cons, List.drop_zero, Act.put, List.setIfInBounds_toArray, List.set_cons_succ, List.set_cons_zero]
    obtain ⟨v10, rfl, hv10⟩ := b10
    have hv11 := hv10
    obtain ⟨l10, ⟨ao10, ca10, rfl, -⟩, -⟩ := hv11
    have HV := hide hv10
    have HNO := hide hC.no
    have HB := hide hC.bel
    have r0 := hC.r0
    have r1 := hC.r1
    have r2 := hC.r2
    have hrf := hC.fr
    have hlt := hC.lt
    clear hC h1 b7 hv10
    go_wp2
    exact bodyPost_ret (v := .agg #[.bool neg, .slice ao10 l10.length ca10, .int .i64 z]) (by simp [results, Tryz.results69, go_sem, hlt, r0, r1, r2]) rfl ⟨_, rfl, ⟨_, rfl, HV.out.set3 r0 r1 r2 HNO.out _ _ _⟩, ((HB.out.setCell (p := ⟨w.heap.size + 1, 0, none⟩) (Nat.le_succ _) _).setCell (p := ⟨w.heap.size + 1, 1, none⟩) (Nat.le_succ _) _).setCell (p := ⟨w.heap.size + 1, 2, none⟩) (Nat.le_succ _) _⟩

end Go.Proofs.YtpcjdllijkjdkaaGreatDoor

