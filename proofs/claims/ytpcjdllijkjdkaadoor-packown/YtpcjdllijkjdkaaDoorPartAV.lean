/- Contracts and laws: ClsS, UnpA, UnpB, UnpC, UnpD. -/
import Derived.Test.YtpcjdllijkjdkaaDoorPartAT
import Derived.Test.YtpcjdllijkjdkaaDoorPartAU
import Derived.Test.YtpcjdllijkjdkaaDoorPartAO
/- Contracts: class.Make at any format, with what the word is made of; an argument of the law's type Parts. -/
set_option linter.unusedVariables false
set_option linter.unusedSimpArgs false
set_option maxRecDepth 8000
namespace Go.Proofs.YtpcjdllijkjdkaaDoor
open Go.RowKit Plain

theorem tU_1 {α : Type} (x1 x2 x3 x4 d : α) : tU 1 x1 x2 x3 x4 d = x1 := if_pos rfl
theorem tU_2 {α : Type} (x1 x2 x3 x4 d : α) : tU 2 x1 x2 x3 x4 d = x2 := by unfold tU; rw [if_neg (by decide), if_pos rfl]
theorem tU_3 {α : Type} (x1 x2 x3 x4 d : α) : tU 3 x1 x2 x3 x4 d = x3 := by unfold tU; rw [if_neg (by decide), if_neg (by decide), if_pos rfl]
theorem tU_4 {α : Type} (x1 x2 x3 x4 d : α) : tU 4 x1 x2 x3 x4 d = x4 := by unfold tU; rw [if_neg (by decide), if_neg (by decide), if_neg (by decide), if_pos rfl]
/-- A word's number of its parts, and back. -/
theorem partsN {P F x b : Nat} (s : Bool) (hP : 0 < P) (hx : x < 2 ^ F) (hb : b < 2 ^ (P - 1)) : x * 2 ^ (P - 1) + b + (bif s then 2 ^ (P + F - 1) else 0) < 2 ^ (P + F) ∧ (x * 2 ^ (P - 1) + b + (bif s then 2 ^ (P + F - 1) else 0)) / 2 ^ (P - 1) % 2 ^ F = x ∧
    (x * 2 ^ (P - 1) + b + (bif s then 2 ^ (P + F - 1) else 0)) % 2 ^ (P - 1) = b ∧ ((x * 2 ^ (P - 1) + b + (bif s then 2 ^ (P + F - 1) else 0)) / 2 ^ (P + F - 1) % 2 == 1) = s := by
  have h2 := pow_half (P + F) (by omega)
  have e1 : 2 ^ (P + F - 1) = 2 ^ (P - 1) * 2 ^ F := by rw [← Nat.pow_add]; congr 1; omega
  have hH := Nat.two_pow_pos (P - 1)
  have hG := Nat.two_pow_pos F
  rw [h2, e1]
  generalize 2 ^ (P - 1) = H at *
  generalize 2 ^ F = G at *
  clear h2 e1
  obtain ⟨t, ht, hs⟩ : ∃ t : Nat, (bif s then H * G else 0) = H * (G * t) ∧ t = s.toNat := by
    cases s
    · exact ⟨0, by simp, rfl⟩
    · exact ⟨1, by simp, rfl⟩
  rw [ht]
  have e : x * H + b + H * (G * t) = b + H * (x + G * t) := by rw [Nat.mul_add, Nat.mul_comm x H]; omega
  rw [e]
  have d1 : (b + H * (x + G * t)) / H = x + G * t := by rw [Nat.add_mul_div_left _ _ hH, Nat.div_eq_of_lt hb, Nat.zero_add]
  have m1 : (b + H * (x + G * t)) % H = b := by rw [Nat.add_mul_mod_self_left, Nat.mod_eq_of_lt hb]
  have d2 : (x + G * t) / G = t := by rw [Nat.add_mul_div_left _ _ hG, Nat.div_eq_of_lt hx, Nat.zero_add]
  have m2 : (x + G * t) % G = x := by rw [Nat.add_mul_mod_self_left, Nat.mod_eq_of_lt hx]
  have ht1 : t ≤ 1 := by rw [hs]; cases s <;> decide
  refine ⟨?_, by rw [d1, m2], m1, ?_⟩
  · have h5 : H * (x + G * t) + H ≤ 2 * (H * G) := by
      have h6 : x + G * t + 1 ≤ 2 * G := by
        have : G * t ≤ G * 1 := Nat.mul_le_mul_left _ ht1
        omega
      have h7 := Nat.mul_le_mul_left H h6
      rw [Nat.mul_add, Nat.mul_one] at h7
      rw [show 2 * (H * G) = H * (2 * G) by rw [Nat.mul_left_comm]]
      exact h7
    omega
  · rw [← Nat.div_div_eq_div_mul, d1, d2, hs]
    cases s <;> rfl
theorem clsN_some {B P F a : Nat} (h : a < 2 ^ B) : clsN B P F a ≠ 0 := by
  unfold clsN clsP
  rw [if_pos h]
  split
  · split
    · decide
    · split <;> decide
  · split
    · split <;> decide
    · decide
theorem partsM {P F x b : Nat} (s : Bool) (hP : 0 < P) (hx : x < 2 ^ F) (hb : b < 2 ^ (P - 1)) : x * 2 ^ (P - 1) + b + (bif s then 2 ^ (P + F - 1) else 0) < 2 ^ (P + F) ∧ negN (P + F) (x * 2 ^ (P - 1) + b + (bif s then 2 ^ (P + F - 1) else 0)) = s ∧
    fldN (P + F) P F (x * 2 ^ (P - 1) + b + (bif s then 2 ^ (P + F - 1) else 0)) = x ∧ frcN (P + F) P (x * 2 ^ (P - 1) + b + (bif s then 2 ^ (P + F - 1) else 0)) = b ∧ clsN (P + F) P F (x * 2 ^ (P - 1) + b + (bif s then 2 ^ (P + F - 1) else 0)) ≠ 0 := by
  obtain ⟨h1, h2, h3, h4⟩ := partsN (P := P) (F := F) (x := x) (b := b) s hP hx hb
  generalize x * 2 ^ (P - 1) + b + (bif s then 2 ^ (P + F - 1) else 0) = a at *
  refine ⟨h1, ?_, (if_pos h1).trans h2, (if_pos h1).trans h3, clsN_some h1⟩
  unfold negN
  rw [decide_eq_true h1, Bool.true_and]
  exact h4
theorem ownN {P F a : Nat} (hP : 0 < P) (ha : a < 2 ^ (P + F)) : a / 2 ^ (P - 1) % 2 ^ F * 2 ^ (P - 1) + a % 2 ^ (P - 1) + (bif (a / 2 ^ (P + F - 1) % 2 == 1) then 2 ^ (P + F - 1) else 0) = a := by
  have h2 := pow_half (P + F) (by omega)
  have e1 : 2 ^ (P + F - 1) = 2 ^ (P - 1) * 2 ^ F := by rw [← Nat.pow_add]; congr 1; omega
  have hH := Nat.two_pow_pos (P - 1)
  have hG := Nat.two_pow_pos F
  rw [h2, e1] at ha
  rw [e1, ← Nat.div_div_eq_div_mul]
  generalize 2 ^ (P - 1) = H at *
  generalize 2 ^ F = G at *
  clear h2 e1
  have d1 := Nat.div_add_mod a H
  have d2 := Nat.div_add_mod (a / H) G
  have hq : a / H / G < 2 := by
    rw [Nat.div_div_eq_div_mul]
    exact Nat.div_lt_of_lt_mul (by rw [Nat.mul_comm]; exact ha)
  rw [Nat.mod_eq_of_lt hq]
  generalize a / H / G = t at *
  generalize a / H = q at *
  generalize q % G = x at *
  have e : H * q = H * (G * t) + x * H := by rw [← d2, Nat.mul_add, Nat.mul_comm x H]
  have ht : t = 0 ∨ t = 1 := by omega
  rcases ht with rfl | rfl
  · simp at e ⊢
    omega
  · simp at e ⊢
    omega

/-- Where there is a word of the parts: it has them. -/
theorem makeYes_u (f : Int) (neg : Bool) (z : Int) (b : Nat) (h : tU f (0 ≤ z ∧ z < 2 ^ 5 ∧ b < 2 ^ 10) (0 ≤ z ∧ z < 2 ^ 8 ∧ b < 2 ^ 23) (0 ≤ z ∧ z < 2 ^ 11 ∧ b < 2 ^ 52) (0 ≤ z ∧ z < 2 ^ 15 ∧ b < 2 ^ 112) False) :
    ∃ a, a < 2 ^ 128 ∧ negU f a = neg ∧ ((fldU f a : Nat) : Int) = z ∧ frcU f a = b ∧ fitU f a = true ∧ clsU f a ≠ 0 ∧ ∀ w, FmtG w → Calls Tryd.prog 53 #[.int .i64 f, .bool neg, .int .i64 z, .agg #[.int .u64 (dgl (b) 0 : Nat), .int .u64 (dgl (b) 1 : Nat), .int .u64 (dgl (b) 2 : Nat), .int .u64 (dgl (b) 3 : Nat), .int .u64 (dgl (b) 4 : Nat), .int .u64 (dgl (b) 5 : Nat), .int .u64 (dgl (b) 6 : Nat), .int .u64 (dgl (b) 7 : Nat)]] w fun e w' => e = .returned (.tuple #[.agg #[.int .u64 (dgl (a) 1 : Nat), .int .u64 (dgl (a) 0 : Nat)], .bool true]) ∧ Below w.heap.size w w' := by
  rcases f_cases f with rfl | rfl | rfl | rfl | h0
  · rw [tU_1] at h
    obtain ⟨x, rfl⟩ := Int.eq_ofNat_of_zero_le h.1
    have hx : x < 2 ^ 5 := by omega
    obtain ⟨h1, h2, h3, h4, h5⟩ := partsM (P := 11) (F := 5) (x := x) (b := b) neg (by decide) hx h.2.2
    have hm := fun w hg => makeYes_1 neg x b hx h.2.2 x rfl w hg
    have e0 : (2 : Nat) ^ (11 + 5 - 1) = 32768 := by decide +kernel
    rw [e0, show (11 - 1 : Nat) = 10 from rfl] at h1 h2 h3 h4 h5
    generalize x * 2 ^ 10 + b + (bif neg then 32768 else 0) = a at *
    have f1 : negU 1 a = neg := (tU_1 _ _ _ _ _).trans h2
    have f2 : fldU 1 a = x := (tU_1 _ _ _ _ _).trans h3
    have f3 : frcU 1 a = b := (tU_1 _ _ _ _ _).trans h4
    have f4 : clsU 1 a = clsN 16 11 5 a := tU_1 _ _ _ _ _
    have f5 : fitU 1 a = decide (a < 2 ^ 16) := tU_1 _ _ _ _ _
    refine ⟨a, Nat.lt_of_lt_of_le h1 (Nat.pow_le_pow_right (by decide) (by decide)), f1, by rw [f2], f3, ?_, ?_, hm⟩
    · rw [f5]
      exact decide_eq_true h1
    · rw [f4]
      exact h5
  · rw [tU_2] at h
    obtain ⟨x, rfl⟩ := Int.eq_ofNat_of_zero_le h.1
    have hx : x < 2 ^ 8 := by omega
    obtain ⟨h1, h2, h3, h4, h5⟩ := partsM (P := 24) (F := 8) (x := x) (b := b) neg (by decide) hx h.2.2
    have hm := fun w hg => makeYes_2 neg x b hx h.2.2 x rfl w hg
    have e0 : (2 : Nat) ^ (24 + 8 - 1) = 2147483648 := by decide +kernel
    rw [e0, show (24 - 1 : Nat) = 23 from rfl] at h1 h2 h3 h4 h5
    generalize x * 2 ^ 23 + b + (bif neg then 2147483648 else 0) = a at *
    have f1 : negU 2 a = neg := (tU_2 _ _ _ _ _).trans h2
    have f2 : fldU 2 a = x := (tU_2 _ _ _ _ _).trans h3
    have f3 : frcU 2 a = b := (tU_2 _ _ _ _ _).trans h4
    have f4 : clsU 2 a = clsN 32 24 8 a := tU_2 _ _ _ _ _
    have f5 : fitU 2 a = decide (a < 2 ^ 32) := tU_2 _ _ _ _ _
    refine ⟨a, Nat.lt_of_lt_of_le h1 (Nat.pow_le_pow_right (by decide) (by decide)), f1, by rw [f2], f3, ?_, ?_, hm⟩
    · rw [f5]
      exact decide_eq_true h1
    · rw [f4]
      exact h5
  · rw [tU_3] at h
    obtain ⟨x, rfl⟩ := Int.eq_ofNat_of_zero_le h.1
    have hx : x < 2 ^ 11 := by omega
    obtain ⟨h1, h2, h3, h4, h5⟩ := partsM (P := 53) (F := 11) (x := x) (b := b) neg (by decide) hx h.2.2
    have hm := fun w hg => makeYes_3 neg x b hx h.2.2 x rfl w hg
    have e0 : (2 : Nat) ^ (53 + 11 - 1) = 9223372036854775808 := by decide +kernel
    rw [e0, show (53 - 1 : Nat) = 52 from rfl] at h1 h2 h3 h4 h5
    generalize x * 2 ^ 52 + b + (bif neg then 9223372036854775808 else 0) = a at *
    have f1 : negU 3 a = neg := (tU_3 _ _ _ _ _).trans h2
    have f2 : fldU 3 a = x := (tU_3 _ _ _ _ _).trans h3
    have f3 : frcU 3 a = b := (tU_3 _ _ _ _ _).trans h4
    have f4 : clsU 3 a = clsN 64 53 11 a := tU_3 _ _ _ _ _
    have f5 : fitU 3 a = decide (a < 2 ^ 64) := tU_3 _ _ _ _ _
    refine ⟨a, Nat.lt_of_lt_of_le h1 (Nat.pow_le_pow_right (by decide) (by decide)), f1, by rw [f2], f3, ?_, ?_, hm⟩
    · rw [f5]
      exact decide_eq_true h1
    · rw [f4]
      exact h5
  · rw [tU_4] at h
    obtain ⟨x, rfl⟩ := Int.eq_ofNat_of_zero_le h.1
    have hx : x < 2 ^ 15 := by omega
    obtain ⟨h1, h2, h3, h4, h5⟩ := partsM (P := 113) (F := 15) (x := x) (b := b) neg (by decide) hx h.2.2
    have hm := fun w hg => makeYes_4 neg x b hx h.2.2 x rfl w hg
    have e0 : (2 : Nat) ^ (113 + 15 - 1) = 170141183460469231731687303715884105728 := by decide +kernel
    rw [e0, show (113 - 1 : Nat) = 112 from rfl] at h1 h2 h3 h4 h5
    generalize x * 2 ^ 112 + b + (bif neg then 170141183460469231731687303715884105728 else 0) = a at *
    have f1 : negU 4 a = neg := (tU_4 _ _ _ _ _).trans h2
    have f2 : fldU 4 a = x := (tU_4 _ _ _ _ _).trans h3
    have f3 : frcU 4 a = b := (tU_4 _ _ _ _ _).trans h4
    have f4 : clsU 4 a = clsN 128 113 15 a := tU_4 _ _ _ _ _
    have f5 : fitU 4 a = decide (a < 2 ^ 128) := tU_4 _ _ _ _ _
    refine ⟨a, Nat.lt_of_lt_of_le h1 (Nat.pow_le_pow_right (by decide) (by decide)), f1, by rw [f2], f3, ?_, ?_, hm⟩
    · rw [f5]
      exact decide_eq_true h1
    · rw [f4]
      exact h5
  · rw [tU_none f h0] at h
    exact h.elim
/-- A word's own parts. -/
theorem makeOwn_u (f : Int) (a : Nat) (h : clsU f a ≠ 0) (w : World) (hg : FmtG w) :
    Calls Tryd.prog 53 #[.int .i64 f, .bool (negU f a), .int .i64 (fldU f a : Nat), .agg #[.int .u64 (dgl (frcU f a) 0 : Nat), .int .u64 (dgl (frcU f a) 1 : Nat), .int .u64 (dgl (frcU f a) 2 : Nat), .int .u64 (dgl (frcU f a) 3 : Nat), .int .u64 (dgl (frcU f a) 4 : Nat), .int .u64 (dgl (frcU f a) 5 : Nat), .int .u64 (dgl (frcU f a) 6 : Nat), .int .u64 (dgl (frcU f a) 7 : Nat)]] w fun e w' => e = .returned (.tuple #[.agg #[.int .u64 (dgl (a) 1 : Nat), .int .u64 (dgl (a) 0 : Nat)], .bool true]) ∧ Below w.heap.size w w' := by
  rcases f_cases f with rfl | rfl | rfl | rfl | h0
  · have ha : a < 2 ^ (11 + 5) := cls_fit (B := 16) (P := 11) (F := 5) h
    have e1 : fldU 1 a = a / 2 ^ 10 % 2 ^ 5 := if_pos ha
    have e2 : frcU 1 a = a % 2 ^ 10 := if_pos ha
    have e3 : negU 1 a = (a / 2 ^ (11 + 5 - 1) % 2 == 1) := by
      show (decide (a < 2 ^ 16) && (a / 2 ^ (16 - 1) % 2 == 1)) = _
      rw [decide_eq_true ha, Bool.true_and]
    have ho := ownN (P := 11) (F := 5) (a := a) (by decide) ha
    have hm := makeYes_1 (a / 2 ^ (11 + 5 - 1) % 2 == 1) (a / 2 ^ 10 % 2 ^ 5) (a % 2 ^ 10) (Nat.mod_lt _ (Nat.two_pow_pos _)) (Nat.mod_lt _ (Nat.two_pow_pos _)) _ rfl w hg
    have e0 : (2 : Nat) ^ (11 + 5 - 1) = 32768 := by decide +kernel
    rw [e0, show (11 - 1 : Nat) = 10 from rfl] at ho
    rw [e0] at hm e3
    rw [ho] at hm
    rw [e1, e2, e3]
    exact hm
  · have ha : a < 2 ^ (24 + 8) := cls_fit (B := 32) (P := 24) (F := 8) h
    have e1 : fldU 2 a = a / 2 ^ 23 % 2 ^ 8 := if_pos ha
    have e2 : frcU 2 a = a % 2 ^ 23 := if_pos ha
    have e3 : negU 2 a = (a / 2 ^ (24 + 8 - 1) % 2 == 1) := by
      show (decide (a < 2 ^ 32) && (a / 2 ^ (32 - 1) % 2 == 1)) = _
      rw [decide_eq_true ha, Bool.true_and]
    have ho := ownN (P := 24) (F := 8) (a := a) (by decide) ha
    have hm := makeYes_2 (a / 2 ^ (24 + 8 - 1) % 2 == 1) (a / 2 ^ 23 % 2 ^ 8) (a % 2 ^ 23) (Nat.mod_lt _ (Nat.two_pow_pos _)) (Nat.mod_lt _ (Nat.two_pow_pos _)) _ rfl w hg
    have e0 : (2 : Nat) ^ (24 + 8 - 1) = 2147483648 := by decide +kernel
    rw [e0, show (24 - 1 : Nat) = 23 from rfl] at ho
    rw [e0] at hm e3
    rw [ho] at hm
    rw [e1, e2, e3]
    exact hm
  · have ha : a < 2 ^ (53 + 11) := cls_fit (B := 64) (P := 53) (F := 11) h
    have e1 : fldU 3 a = a / 2 ^ 52 % 2 ^ 11 := if_pos ha
    have e2 : frcU 3 a = a % 2 ^ 52 := if_pos ha
    have e3 : negU 3 a = (a / 2 ^ (53 + 11 - 1) % 2 == 1) := by
      show (decide (a < 2 ^ 64) && (a / 2 ^ (64 - 1) % 2 == 1)) = _
      rw [decide_eq_true ha, Bool.true_and]
    have ho := ownN (P := 53) (F := 11) (a := a) (by decide) ha
    have hm := makeYes_3 (a / 2 ^ (53 + 11 - 1) % 2 == 1) (a / 2 ^ 52 % 2 ^ 11) (a % 2 ^ 52) (Nat.mod_lt _ (Nat.two_pow_pos _)) (Nat.mod_lt _ (Nat.two_pow_pos _)) _ rfl w hg
    have e0 : (2 : Nat) ^ (53 + 11 - 1) = 9223372036854775808 := by decide +kernel
    rw [e0, show (53 - 1 : Nat) = 52 from rfl] at ho
    rw [e0] at hm e3
    rw [ho] at hm
    rw [e1, e2, e3]
    exact hm
  · have ha : a < 2 ^ (113 + 15) := cls_fit (B := 128) (P := 113) (F := 15) h
    have e1 : fldU 4 a = a / 2 ^ 112 % 2 ^ 15 := if_pos ha
    have e2 : frcU 4 a = a % 2 ^ 112 := if_pos ha
    have e3 : negU 4 a = (a / 2 ^ (113 + 15 - 1) % 2 == 1) := by
      show (decide (a < 2 ^ 128) && (a / 2 ^ (128 - 1) % 2 == 1)) = _
      rw [decide_eq_true ha, Bool.true_and]
    have ho := ownN (P := 113) (F := 15) (a := a) (by decide) ha
    have hm := makeYes_4 (a / 2 ^ (113 + 15 - 1) % 2 == 1) (a / 2 ^ 112 % 2 ^ 15) (a % 2 ^ 112) (Nat.mod_lt _ (Nat.two_pow_pos _)) (Nat.mod_lt _ (Nat.two_pow_pos _)) _ rfl w hg
    have e0 : (2 : Nat) ^ (113 + 15 - 1) = 170141183460469231731687303715884105728 := by decide +kernel
    rw [e0, show (113 - 1 : Nat) = 112 from rfl] at ho
    rw [e0] at hm e3
    rw [ho] at hm
    rw [e1, e2, e3]
    exact hm
  · exact absurd (tU_none f h0 _ _ _ _ _) h

end Go.Proofs.YtpcjdllijkjdkaaDoor

/- Contracts: unpack.Right, lowest; the document's Right; numbers that lie in a block; == on numbers. -/
set_option linter.unusedVariables false
set_option linter.unusedSimpArgs false
set_option maxRecDepth 8000
namespace Go.Proofs.YtpcjdllijkjdkaaDoor
open Go.RowKit Plain

/-- A number lies in a block. -/
structure NB (W : World) (p : Nat) (neg : Bool) (z : Int) (s : Nat) : Prop where
  n : W.cell? ⟨p, 0, none⟩ = some (.bool neg)
  e : W.cell? ⟨p, 1, none⟩ = some (.int .i64 z)
  x0 : W.cell? ⟨p, 2, none⟩ = some (.int .u64 (dgl s 0 : Nat))
  x1 : W.cell? ⟨p, 3, none⟩ = some (.int .u64 (dgl s 1 : Nat))
  x2 : W.cell? ⟨p, 4, none⟩ = some (.int .u64 (dgl s 2 : Nat))
  x3 : W.cell? ⟨p, 5, none⟩ = some (.int .u64 (dgl s 3 : Nat))
  x4 : W.cell? ⟨p, 6, none⟩ = some (.int .u64 (dgl s 4 : Nat))
  x5 : W.cell? ⟨p, 7, none⟩ = some (.int .u64 (dgl s 5 : Nat))
  x6 : W.cell? ⟨p, 8, none⟩ = some (.int .u64 (dgl s 6 : Nat))
  x7 : W.cell? ⟨p, 9, none⟩ = some (.int .u64 (dgl s 7 : Nat))
  lt : p < W.heap.size
theorem NB.under {W W' : World} {p : Nat} {neg : Bool} {z : Int} {s : Nat} (h : NB W p neg z s) {C : Nat} (hb : Below C W W') (hc : p < C) : NB W' p neg z s :=
  ⟨(hb.cell (p := ⟨p, 0, none⟩) hc).trans h.n, (hb.cell (p := ⟨p, 1, none⟩) hc).trans h.e, (hb.cell (p := ⟨p, 2, none⟩) hc).trans h.x0, (hb.cell (p := ⟨p, 3, none⟩) hc).trans h.x1, (hb.cell (p := ⟨p, 4, none⟩) hc).trans h.x2, (hb.cell (p := ⟨p, 5, none⟩) hc).trans h.x3, (hb.cell (p := ⟨p, 6, none⟩) hc).trans h.x4, (hb.cell (p := ⟨p, 7, none⟩) hc).trans h.x5, (hb.cell (p := ⟨p, 8, none⟩) hc).trans h.x6, (hb.cell (p := ⟨p, 9, none⟩) hc).trans h.x7, Nat.lt_of_lt_of_le h.lt hb.size⟩
theorem NB.below {W W' : World} {p : Nat} {neg : Bool} {z : Int} {s : Nat} (h : NB W p neg z s) (hb : Below W.heap.size W W') : NB W' p neg z s := h.under hb h.lt
theorem nb_new (w : World) (neg : Bool) (z : Int) (s : Nat) (e : TypeId) : NB (w.alloc (.cells #[.bool (neg), .int .i64 (z), .int .u64 (dgl (s) 0 : Nat), .int .u64 (dgl (s) 1 : Nat), .int .u64 (dgl (s) 2 : Nat), .int .u64 (dgl (s) 3 : Nat), .int .u64 (dgl (s) 4 : Nat), .int .u64 (dgl (s) 5 : Nat), .int .u64 (dgl (s) 6 : Nat), .int .u64 (dgl (s) 7 : Nat)] e)) w.heap.size neg z s :=
  ⟨by simp [go_sem], by simp [go_sem], by simp [go_sem], by simp [go_sem], by simp [go_sem], by simp [go_sem], by simp [go_sem], by simp [go_sem], by simp [go_sem], by simp [go_sem], by simp⟩
theorem nb_zero (w : World) (e : TypeId) : NB (w.alloc (.cells #[.bool false, .int .i64 0, .int .u64 0, .int .u64 0, .int .u64 0, .int .u64 0, .int .u64 0, .int .u64 0, .int .u64 0, .int .u64 0] e)) w.heap.size false 0 0 :=
  ⟨by simp [go_sem, dgl_zero], by simp [go_sem, dgl_zero], by simp [go_sem, dgl_zero], by simp [go_sem, dgl_zero], by simp [go_sem, dgl_zero], by simp [go_sem, dgl_zero], by simp [go_sem, dgl_zero], by simp [go_sem, dgl_zero], by simp [go_sem, dgl_zero], by simp [go_sem, dgl_zero], by simp⟩

/-- Is a number right? -/
def rgt (z : Int) : Bool := decide (-1048576 ≤ z) && decide (z ≤ 1048576)

theorem uRight_any (neg : Bool) (z : Int) (s : Nat) (w : World) : Calls Tryd.prog 14 #[.agg #[.bool (neg), .int .i64 (z), .int .u64 (dgl (s) 0 : Nat), .int .u64 (dgl (s) 1 : Nat), .int .u64 (dgl (s) 2 : Nat), .int .u64 (dgl (s) 3 : Nat), .int .u64 (dgl (s) 4 : Nat), .int .u64 (dgl (s) 5 : Nat), .int .u64 (dgl (s) 6 : Nat), .int .u64 (dgl (s) 7 : Nat)]] w fun e w' => e = .returned (.bool (rgt z)) ∧ Below w.heap.size w w' := by
  have HR : Hid (∀ b, decide (-1048576 ≤ z) = b → rgt z = (b && decide (z ≤ 1048576))) := fun b hb => by rw [← hb]; rfl
  have HB := hide (below_allocs w (.cells #[.bool (neg), .int .i64 (z), .int .u64 (dgl (s) 0 : Nat), .int .u64 (dgl (s) 1 : Nat), .int .u64 (dgl (s) 2 : Nat), .int .u64 (dgl (s) 3 : Nat), .int .u64 (dgl (s) 4 : Nat), .int .u64 (dgl (s) 5 : Nat), .int .u64 (dgl (s) 6 : Nat), .int .u64 (dgl (s) 7 : Nat)] 26))
  go_enter Tryd.func14, Tryd.ntmps14
  by_cases h : -1048576 ≤ z
  · have HF := hide (HR.out true (decide_eq_true h))
    go_wp2
    go_ret
    exact ⟨ret_bl HF.out.symm, HB.out⟩
  · have HF := hide (HR.out false (decide_eq_false h))
    go_wp2
    go_ret
    exact ⟨ret_bl HF.out.symm, HB.out⟩

theorem low_1 (w : World) : Calls Tryd.prog 50 #[.agg #[.int .i64 (16), .int .i64 (11), .int .i64 (15), .int .i64 (-14), .int .i64 (5)]] w fun e w' => e = .returned (.int .i64 (-24)) ∧ Below w.heap.size w w' := by
  go_enter Tryd.func50, Tryd.ntmps50
  go_wp2
  go_ret
  exact ⟨rfl, below_allocs _ _⟩

theorem low_2 (w : World) : Calls Tryd.prog 50 #[.agg #[.int .i64 (32), .int .i64 (24), .int .i64 (127), .int .i64 (-126), .int .i64 (8)]] w fun e w' => e = .returned (.int .i64 (-149)) ∧ Below w.heap.size w w' := by
  go_enter Tryd.func50, Tryd.ntmps50
  go_wp2
  go_ret
  exact ⟨rfl, below_allocs _ _⟩

theorem low_3 (w : World) : Calls Tryd.prog 50 #[.agg #[.int .i64 (64), .int .i64 (53), .int .i64 (1023), .int .i64 (-1022), .int .i64 (11)]] w fun e w' => e = .returned (.int .i64 (-1074)) ∧ Below w.heap.size w w' := by
  go_enter Tryd.func50, Tryd.ntmps50
  go_wp2
  go_ret
  exact ⟨rfl, below_allocs _ _⟩

theorem low_4 (w : World) : Calls Tryd.prog 50 #[.agg #[.int .i64 (128), .int .i64 (113), .int .i64 (16383), .int .i64 (-16382), .int .i64 (15)]] w fun e w' => e = .returned (.int .i64 (-16494)) ∧ Below w.heap.size w w' := by
  go_enter Tryd.func50, Tryd.ntmps50
  go_wp2
  go_ret
  exact ⟨rfl, below_allocs _ _⟩

end Go.Proofs.YtpcjdllijkjdkaaDoor

/- Contracts: unpack.moved, over what its parts tell. -/
set_option linter.unusedVariables false
set_option linter.unusedSimpArgs false
set_option maxRecDepth 8000
namespace Go.Proofs.YtpcjdllijkjdkaaDoor
open Go.RowKit Plain

theorem nb_set {W : World} {p : Nat} {n0 : Bool} {z0 : Int} {s0 : Nat} (h : NB W p n0 z0 s0) (n : Bool) (z : Int) (s : Nat) : NB ((((((((((W.setCell ⟨p, 0, none⟩ (.bool (n))).setCell ⟨p, 1, none⟩ (.int .i64 (z))).setCell ⟨p, 2, none⟩ (.int .u64 (dgl (s) 0 : Nat))).setCell ⟨p, 3, none⟩ (.int .u64 (dgl (s) 1 : Nat))).setCell ⟨p, 4, none⟩ (.int .u64 (dgl (s) 2 : Nat))).setCell ⟨p, 5, none⟩ (.int .u64 (dgl (s) 3 : Nat))).setCell ⟨p, 6, none⟩ (.int .u64 (dgl (s) 4 : Nat))).setCell ⟨p, 7, none⟩ (.int .u64 (dgl (s) 5 : Nat))).setCell ⟨p, 8, none⟩ (.int .u64 (dgl (s) 6 : Nat))).setCell ⟨p, 9, none⟩ (.int .u64 (dgl (s) 7 : Nat))) p n z s := by
  have ln := h.n
  have le := h.e
  have l0 := h.x0
  have l1 := h.x1
  have l2 := h.x2
  have l3 := h.x3
  have l4 := h.x4
  have l5 := h.x5
  have l6 := h.x6
  have l7 := h.x7
  have hl := h.lt
  exact ⟨by simp [go_sem, ln, le, l0, l1, l2, l3, l4, l5, l6, l7], by simp [go_sem, ln, le, l0, l1, l2, l3, l4, l5, l6, l7], by simp [go_sem, ln, le, l0, l1, l2, l3, l4, l5, l6, l7], by simp [go_sem, ln, le, l0, l1, l2, l3, l4, l5, l6, l7], by simp [go_sem, ln, le, l0, l1, l2, l3, l4, l5, l6, l7], by simp [go_sem, ln, le, l0, l1, l2, l3, l4, l5, l6, l7], by simp [go_sem, ln, le, l0, l1, l2, l3, l4, l5, l6, l7], by simp [go_sem, ln, le, l0, l1, l2, l3, l4, l5, l6, l7], by simp [go_sem, ln, le, l0, l1, l2, l3, l4, l5, l6, l7], by simp [go_sem, ln, le, l0, l1, l2, l3, l4, l5, l6, l7], by simpa [go_sem] using hl⟩
theorem below_set10 {B : Nat} {A W : World} (h : Below B A W) (p : Nat) (hb : B ≤ p) (n : Bool) (z : Int) (s : Nat) : Below B A ((((((((((W.setCell ⟨p, 0, none⟩ (.bool (n))).setCell ⟨p, 1, none⟩ (.int .i64 (z))).setCell ⟨p, 2, none⟩ (.int .u64 (dgl (s) 0 : Nat))).setCell ⟨p, 3, none⟩ (.int .u64 (dgl (s) 1 : Nat))).setCell ⟨p, 4, none⟩ (.int .u64 (dgl (s) 2 : Nat))).setCell ⟨p, 5, none⟩ (.int .u64 (dgl (s) 3 : Nat))).setCell ⟨p, 6, none⟩ (.int .u64 (dgl (s) 4 : Nat))).setCell ⟨p, 7, none⟩ (.int .u64 (dgl (s) 5 : Nat))).setCell ⟨p, 8, none⟩ (.int .u64 (dgl (s) 6 : Nat))).setCell ⟨p, 9, none⟩ (.int .u64 (dgl (s) 7 : Nat))) :=
  ((((((((((h.setCell (p := ⟨p, 0, none⟩) (hb) _).setCell (p := ⟨p, 1, none⟩) (hb) _).setCell (p := ⟨p, 2, none⟩) (hb) _).setCell (p := ⟨p, 3, none⟩) (hb) _).setCell (p := ⟨p, 4, none⟩) (hb) _).setCell (p := ⟨p, 5, none⟩) (hb) _).setCell (p := ⟨p, 6, none⟩) (hb) _).setCell (p := ⟨p, 7, none⟩) (hb) _).setCell (p := ⟨p, 8, none⟩) (hb) _).setCell (p := ⟨p, 9, none⟩) (hb) _)

structure Mv0 (a : Nat) (w W : World) : Prop where
  g : FmtG W
  gl : 1 < w.heap.size
  wa : WB W w.heap.size (dgl a 1) (dgl a 0)
  r : NB W (w.heap.size + 1) false 0 0
  fr : ∀ i, W.frozen? ⟨w.heap.size + 1, i, none⟩ = false
  bel : Below w.heap.size w W
theorem Mv0.below {a : Nat} {w W W' : World} (h : Mv0 a w W) (hb : Below W.heap.size W W') : Mv0 a w W' :=
  ⟨h.g.below hb, h.gl, h.wa.below hb, h.r.below hb, fun i => (hb.frozen (p := ⟨w.heap.size + 1, i, none⟩) h.r.lt).trans (h.fr i), below_trans h.bel hb⟩
theorem mv0_start (a : Nat) (w : World) (hg : FmtG w) : Mv0 a w ((w.alloc (.cells #[.int .u64 (dgl (a) 1 : Nat), .int .u64 (dgl (a) 0 : Nat)] 28)).alloc (.cells #[.bool false, .int .i64 0, .int .u64 0, .int .u64 0, .int .u64 0, .int .u64 0, .int .u64 0, .int .u64 0, .int .u64 0, .int .u64 0] 26)) := by
  have h1 := nb_zero (w.alloc (.cells #[.int .u64 (dgl (a) 1 : Nat), .int .u64 (dgl (a) 0 : Nat)] 28)) 26
  rw [World.size_alloc] at h1
  exact ⟨(hg.below (below_allocs _ _)).below (below_allocs _ _), hg.lt, ⟨by simp [go_sem], by simp [go_sem], by simp; omega⟩, h1, fun i => by simp [go_sem], below_trans (below_allocs _ _) (below_allocs _ _)⟩

structure MvSt (a p8 : Nat) (k : Nat → Int) (w : World) (n0 : Bool) (z0 : Int) (s0 : Nat) (W : World) : Prop where
  g : FmtG W
  gl : 1 < w.heap.size
  wa : WB W w.heap.size (dgl a 1) (dgl a 0)
  r : NB W (w.heap.size + 1) n0 z0 s0
  fr : ∀ i, W.frozen? ⟨w.heap.size + 1, i, none⟩ = false
  rk : ∀ i, i < 5 → W.cell? ⟨p8, i, none⟩ = some (.int .i64 (k i))
  lk : p8 < W.heap.size
  lo : w.heap.size + 1 < p8
  bel : Below w.heap.size w W
theorem MvSt.under {a p8 : Nat} {k : Nat → Int} {w : World} {n0 : Bool} {z0 : Int} {s0 : Nat} {W W' : World} (h : MvSt a p8 k w n0 z0 s0 W) {C : Nat} (hb : Below C W W') (hc : p8 < C) : MvSt a p8 k w n0 z0 s0 W' := by
  have hl := h.lo
  have h1 : w.heap.size + 1 < C := by omega
  have h0 : w.heap.size < C := by omega
  exact ⟨⟨fun i hi => (hb.cell (p := ⟨1, i, none⟩) (show 1 < _ by have := h.gl; omega)).trans (h.g.c i hi), Nat.lt_of_lt_of_le h.g.lt hb.size⟩, h.gl,
    ⟨(hb.cell (p := ⟨w.heap.size, 0, none⟩) h0).trans h.wa.h, (hb.cell (p := ⟨w.heap.size, 1, none⟩) h0).trans h.wa.l, Nat.lt_of_lt_of_le h.wa.lt hb.size⟩, h.r.under hb h1, fun i => (hb.frozen (p := ⟨w.heap.size + 1, i, none⟩) h1).trans (h.fr i),
    fun i hi => (hb.cell (p := ⟨p8, i, none⟩) hc).trans (h.rk i hi), Nat.lt_of_lt_of_le h.lk hb.size, h.lo, h.bel.trans (hb.mono (by omega))⟩
theorem MvSt.below {a p8 : Nat} {k : Nat → Int} {w : World} {n0 : Bool} {z0 : Int} {s0 : Nat} {W W' : World} (h : MvSt a p8 k w n0 z0 s0 W) (hb : Below W.heap.size W W') : MvSt a p8 k w n0 z0 s0 W' := h.under hb h.lk
theorem mvSt_start {a : Nat} {w W : World} (k : Nat → Int) (h : Mv0 a w W) : MvSt a W.heap.size k w false 0 0 (W.alloc (.cells #[.int .i64 (k 0), .int .i64 (k 1), .int .i64 (k 2), .int .i64 (k 3), .int .i64 (k 4)] 85)) := by
  have h1 := h.below (below_allocs W (.cells #[.int .i64 (k 0), .int .i64 (k 1), .int .i64 (k 2), .int .i64 (k 3), .int .i64 (k 4)] 85))
  exact ⟨h1.g, h1.gl, h1.wa, h1.r, h1.fr, fun i hi => rec5_new W k _ i hi, by simp, h.r.lt, h1.bel⟩
theorem MvSt.setR {a p8 : Nat} {k : Nat → Int} {w : World} {n0 : Bool} {z0 : Int} {s0 : Nat} {W : World} (h : MvSt a p8 k w n0 z0 s0 W) (n : Bool) (z : Int) (s : Nat) : MvSt a p8 k w n z s ((((((((((W.setCell ⟨w.heap.size + 1, 0, none⟩ (.bool (n))).setCell ⟨w.heap.size + 1, 1, none⟩ (.int .i64 (z))).setCell ⟨w.heap.size + 1, 2, none⟩ (.int .u64 (dgl (s) 0 : Nat))).setCell ⟨w.heap.size + 1, 3, none⟩ (.int .u64 (dgl (s) 1 : Nat))).setCell ⟨w.heap.size + 1, 4, none⟩ (.int .u64 (dgl (s) 2 : Nat))).setCell ⟨w.heap.size + 1, 5, none⟩ (.int .u64 (dgl (s) 3 : Nat))).setCell ⟨w.heap.size + 1, 6, none⟩ (.int .u64 (dgl (s) 4 : Nat))).setCell ⟨w.heap.size + 1, 7, none⟩ (.int .u64 (dgl (s) 5 : Nat))).setCell ⟨w.heap.size + 1, 8, none⟩ (.int .u64 (dgl (s) 6 : Nat))).setCell ⟨w.heap.size + 1, 9, none⟩ (.int .u64 (dgl (s) 7 : Nat))) := by
  have hl := h.lo
  have hk := h.rk
  have hlk := h.lk
  have hwl := h.wa.lt
  have hb := below_set10 (Below.refl (w.heap.size + 1) W) (w.heap.size + 1) (Nat.le_refl _) n z s
  have hne : ¬ p8 = w.heap.size + 1 := by omega
  refine ⟨⟨fun i hi => (hb.cell (p := ⟨1, i, none⟩) (show 1 < _ by have := h.gl; omega)).trans (h.g.c i hi), Nat.lt_of_lt_of_le h.g.lt hb.size⟩, h.gl,
    ⟨(hb.cell (p := ⟨w.heap.size, 0, none⟩) (Nat.lt_succ_self _)).trans h.wa.h, (hb.cell (p := ⟨w.heap.size, 1, none⟩) (Nat.lt_succ_self _)).trans h.wa.l, Nat.lt_of_lt_of_le h.wa.lt hb.size⟩, nb_set h.r n z s, fun i => by simpa [go_sem] using h.fr i,
    fun i hi => ?_, Nat.lt_of_lt_of_le h.lk hb.size, h.lo, h.bel.trans (hb.mono (Nat.le_succ _))⟩
  have := hk i hi
  simp [go_sem, this, hne]
theorem lies_set10 {W : World} {b R : Nat} {f : Nat → Nat} {n : Bool} {z : Int} {s : Nat} (h : LiesF W b f) (hne : b ≠ R) : LiesF ((((((((((W.setCell ⟨R, 0, none⟩ (.bool (n))).setCell ⟨R, 1, none⟩ (.int .i64 (z))).setCell ⟨R, 2, none⟩ (.int .u64 (dgl (s) 0 : Nat))).setCell ⟨R, 3, none⟩ (.int .u64 (dgl (s) 1 : Nat))).setCell ⟨R, 4, none⟩ (.int .u64 (dgl (s) 2 : Nat))).setCell ⟨R, 5, none⟩ (.int .u64 (dgl (s) 3 : Nat))).setCell ⟨R, 6, none⟩ (.int .u64 (dgl (s) 4 : Nat))).setCell ⟨R, 7, none⟩ (.int .u64 (dgl (s) 5 : Nat))).setCell ⟨R, 8, none⟩ (.int .u64 (dgl (s) 6 : Nat))).setCell ⟨R, 9, none⟩ (.int .u64 (dgl (s) 7 : Nat))) b f := by
  refine ⟨fun i hi => ?_, by simpa using h.2⟩
  have := h.1 i hi
  simp [go_sem, this, hne]

set_option maxHeartbeats 2000000 in
theorem moved_C1 (f lo by_ : Int) (k : Nat → Int) (a r fd pw s t fid : Nat) (ov ng : Bool) (fv : Value)
    (HO : Hid (∀ w, FmtG w → Calls Tryd.prog 47 #[.int .i64 f] w fun e w' => e = .returned (.tuple #[.agg #[.int .i64 (k 0), .int .i64 (k 1), .int .i64 (k 2), .int .i64 (k 3), .int .i64 (k 4)], .bool true]) ∧ Below w.heap.size w w'))
    (HFI : Hid (∀ w, FmtG w → Calls Tryd.prog 125 #[.int .i64 f, .agg #[.int .u64 (dgl (a) 1 : Nat), .int .u64 (dgl (a) 0 : Nat)]] w fun e w' => e = .returned (.bool true) ∧ Below w.heap.size w w'))
    (HFR : Hid (∀ w, FmtG w → Calls Tryd.prog 98 #[.int .i64 f, .agg #[.int .u64 (dgl (a) 1 : Nat), .int .u64 (dgl (a) 0 : Nat)]] w fun e w' => e = .returned (.agg #[.int .u64 (dgl (r) 0 : Nat), .int .u64 (dgl (r) 1 : Nat), .int .u64 (dgl (r) 2 : Nat), .int .u64 (dgl (r) 3 : Nat), .int .u64 (dgl (r) 4 : Nat), .int .u64 (dgl (r) 5 : Nat), .int .u64 (dgl (r) 6 : Nat), .int .u64 (dgl (r) 7 : Nat)]) ∧ Below w.heap.size w w'))
    (HLO : Hid (∀ w, Calls Tryd.prog 50 #[.agg #[.int .i64 (k 0), .int .i64 (k 1), .int .i64 (k 2), .int .i64 (k 3), .int .i64 (k 4)]] w fun e w' => e = .returned (.int .i64 lo) ∧ Below w.heap.size w w'))
    (HFD : Hid (∀ w, FmtG w → Calls Tryd.prog 101 #[.int .i64 f, .agg #[.int .u64 (dgl (a) 1 : Nat), .int .u64 (dgl (a) 0 : Nat)]] w fun e w' => e = .returned (.int .i64 0) ∧ Below w.heap.size w w'))
    (hlo : -20000 ≤ lo ∧ lo ≤ 0)
    (hent : ∀ args w, (callFunc fid args).run Tryd.prog w = .ok (.enter fid args) w)
    (HUP : Hid (∀ w, Calls Tryd.prog fid #[.agg #[.int .i64 (k 0), .int .i64 (k 1), .int .i64 (k 2), .int .i64 (k 3), .int .i64 (k 4)], .agg #[.int .u64 (dgl (r) 0 : Nat), .int .u64 (dgl (r) 1 : Nat), .int .u64 (dgl (r) 2 : Nat), .int .u64 (dgl (r) 3 : Nat), .int .u64 (dgl (r) 4 : Nat), .int .u64 (dgl (r) 5 : Nat), .int .u64 (dgl (r) 6 : Nat), .int .u64 (dgl (r) 7 : Nat)]] w fun e w' => e = .returned (.tuple #[.int .i64 by_, .bool true]) ∧ Below w.heap.size w w'))
    (HNG : Hid (∀ w, FmtG w → Calls Tryd.prog 97 #[.int .i64 f, .agg #[.int .u64 (dgl (a) 1 : Nat), .int .u64 (dgl (a) 0 : Nat)]] w fun e w' => e = .returned (.bool ng) ∧ Below w.heap.size w w'))
    (HSH : Hid (∀ w, Calls Tryd.prog 107 #[.agg #[.int .u64 (dgl (r) 0 : Nat), .int .u64 (dgl (r) 1 : Nat), .int .u64 (dgl (r) 2 : Nat), .int .u64 (dgl (r) 3 : Nat), .int .u64 (dgl (r) 4 : Nat), .int .u64 (dgl (r) 5 : Nat), .int .u64 (dgl (r) 6 : Nat), .int .u64 (dgl (r) 7 : Nat)], .int .i64 by_] w fun e w' => e = .returned (.agg #[.int .u64 (dgl (t) 0 : Nat), .int .u64 (dgl (t) 1 : Nat), .int .u64 (dgl (t) 2 : Nat), .int .u64 (dgl (t) 3 : Nat), .int .u64 (dgl (t) 4 : Nat), .int .u64 (dgl (t) 5 : Nat), .int .u64 (dgl (t) 6 : Nat), .int .u64 (dgl (t) 7 : Nat)]) ∧ Below w.heap.size w w'))
    (HW2 : Hid (IntKind.i64.wrap (lo - by_) = lo - by_)) (w : World) (hg : FmtG w) :
    Calls Tryd.prog 79 #[.int .i64 f, .agg #[.int .u64 (dgl (a) 1 : Nat), .int .u64 (dgl (a) 0 : Nat)], .func (.func fid) #[] #[]] w fun e w' => e = .returned (.tuple #[.agg #[.bool (ng), .int .i64 (lo - by_), .int .u64 (dgl (t) 0 : Nat), .int .u64 (dgl (t) 1 : Nat), .int .u64 (dgl (t) 2 : Nat), .int .u64 (dgl (t) 3 : Nat), .int .u64 (dgl (t) 4 : Nat), .int .u64 (dgl (t) 5 : Nat), .int .u64 (dgl (t) 6 : Nat), .int .u64 (dgl (t) 7 : Nat)], .bool true]) ∧ Below w.heap.size w w' := by
  have HS := hide (mv0_start a w hg)
  clear hg
  go_enter Tryd.func79, Tryd.ntmps79
  go_wp2_with fail
  refine (HO.out _ HS.out.g).mono ?_
  rintro e w1 ⟨rfl, hb1⟩
  replace HS := hide (HS.out.below hb1)
  clear hb1
  go_upto_region 2 with fail
  refine wp_gen (fun W => MvSt a w1.heap.size k w false 0 0 W) (by have h := mvSt_start k HS.out; exact h) ?_
  clear HS
  generalize w1.heap.size = p8
  rintro W1 h1
  have HS := hide h1
  clear h1
  have l0 := HS.out.wa.h
  have l1 := HS.out.wa.l
  go_wp2_with fail
  refine (HFI.out _ HS.out.g).mono ?_
  rintro e w2 ⟨rfl, hb2⟩
  replace HS := hide (HS.out.below hb2)
  clear hb2 l0 l1
  go_upto_region 4 with fail
  refine wp_gen (fun W => MvSt a p8 k w false 0 0 W) HS.out ?_
  clear HS
  rintro W3 h3
  refine wp_region_storeK 8 [6] [29, 30, 31, 32, 33, 10, 11] (fun bs => [(29, .val (.int .i64 f)), (30, .val (.agg #[.int .u64 (dgl (a) 1 : Nat), .int .u64 (dgl (a) 0 : Nat)])), (31, .val (.agg #[.int .u64 (dgl (r) 0 : Nat), .int .u64 (dgl (r) 1 : Nat), .int .u64 (dgl (r) 2 : Nat), .int .u64 (dgl (r) 3 : Nat), .int .u64 (dgl (r) 4 : Nat), .int .u64 (dgl (r) 5 : Nat), .int .u64 (dgl (r) 6 : Nat), .int .u64 (dgl (r) 7 : Nat)])), (32, .val (.agg #[.int .i64 (k 0), .int .i64 (k 1), .int .i64 (k 2), .int .i64 (k 3), .int .i64 (k 4)])), (33, .val (.int .i64 lo)), (10, bif bs.headD false then SlotIs.box (p8 + 1) (dgl r) else SlotIs.box (p8 + 1) (fun _ => 0)), (11, .val (.int .i64 lo))])
    (fun _ W => MvSt a p8 k w false 0 0 W) (fun bs => rfl) mixedOk (by kernel_rfl) (by kernel_rfl) (by kernel_rfl) (h3.below (Below.refl _ _).drew) (fun bs W W' h hb => h.below hb) ?_ ?_
  · refine kSt rfl (fun φ hφ => gStep_run rfl (gRun_move 0 29 (.inl rfl) rfl (by decide +kernel) (fun v w h => h))) ?_
    refine kSt rfl (fun φ hφ => gStep_run rfl ?_) ?_
    · intro ρ W hC hc hf hL
      have e4 : ρ (.tmp 4) = .pointer (some ⟨w.heap.size, 0, none⟩) := hL 4 (by decide +kernel)
      have l0 := hC.wa.h
      have l1 := hC.wa.l
      simp [go_sem, hc, hf, e4, l0, l1]
      exact ⟨Below.refl _ _, rfl⟩
    refine kSt rfl (fun φ hφ => gStep_run rfl ?_) ?_
    · intro ρ W hC hc hf hL
      have e29 : ρ (.tmp 29) = .int .i64 f := hL 29 (by decide +kernel)
      have e30 : ρ (.tmp 30) = .agg #[.int .u64 (dgl (a) 1 : Nat), .int .u64 (dgl (a) 0 : Nat)] := hL 30 (by decide +kernel)
      simp [go_sem, hc, hf, e29, e30]
      refine (HFR.out W hC.g).mono ?_
      rintro e w' ⟨rfl, hb⟩
      exact ⟨_, rfl, by first | exact hb | (subst hb; exact Below.refl _ _), rfl⟩
    refine kSt rfl (fun φ hφ => gStep_run rfl ?_) ?_
    · intro ρ W hC hc hf hL
      have e8 : ρ (.tmp 8) = .pointer (some ⟨p8, 0, none⟩) := hL 8 (by decide +kernel)
      have l0 := hC.rk
      simp [go_sem, hc, hf, e8, l0]
      exact ⟨Below.refl _ _, rfl⟩
    refine kSt rfl (fun φ hφ => gStep_run rfl ?_) ?_
    · intro ρ W hC hc hf hL
      have e32 : ρ (.tmp 32) = .agg #[.int .i64 (k 0), .int .i64 (k 1), .int .i64 (k 2), .int .i64 (k 3), .int .i64 (k 4)] := hL 32 (by decide +kernel)
      simp [go_sem, hc, hf, e32]
      refine (HLO.out W).mono ?_
      rintro e w' ⟨rfl, hb⟩
      exact ⟨_, rfl, by first | exact hb | (subst hb; exact Below.refl _ _), rfl⟩
    refine kSt rfl (fun φ hφ => gStep_run rfl ?_) ?_
    · intro ρ W hC hc hf hL
      have hφ0 : φ 6 = false := hφ 6 (by simp) (by kernel_rfl)
      simp [go_sem, hc, hf]
      refine ⟨below_allocs _ _, ?_⟩
      show (bif φ 6 then SlotIs.box (p8 + 1) (dgl r) else SlotIs.box (p8 + 1) (fun _ => 0)).R _ _
      rw [hφ0]
      exact ⟨_, rfl, hC.lk, liesF_new _ (fun _ => 0) _, fun i => by simp [go_sem]⟩
    refine kStS rfl ⟨rfl, rfl, ?_⟩ ?_
    · intro φ ρ W hφ hC hc hL
      have b10 := hL 10 (by decide +kernel)
      have e31 : ρ (.tmp 31) = .agg #[.int .u64 (dgl (r) 0 : Nat), .int .u64 (dgl (r) 1 : Nat), .int .u64 (dgl (r) 2 : Nat), .int .u64 (dgl (r) 3 : Nat), .int .u64 (dgl (r) 4 : Nat), .int .u64 (dgl (r) 5 : Nat), .int .u64 (dgl (r) 6 : Nat), .int .u64 (dgl (r) 7 : Nat)] := hL 31 (by decide +kernel)
      have b10 : (bif φ 6 then SlotIs.box (p8 + 1) (dgl r) else SlotIs.box (p8 + 1) (fun _ => 0)).R (ρ (.tmp 10)) W := hL 10 (by decide +kernel)
      rw [hφ] at b10
      obtain ⟨p10, e10, q10, l10, z10⟩ := b10
      have hz := l10.1
      have hzl := l10.2
      refine gUpon_of ((((((((W.setCell ⟨p10, 0, none⟩ (.int .u64 (dgl r 0 : Nat))).setCell ⟨p10, 1, none⟩ (.int .u64 (dgl r 1 : Nat))).setCell ⟨p10, 2, none⟩ (.int .u64 (dgl r 2 : Nat))).setCell ⟨p10, 3, none⟩ (.int .u64 (dgl r 3 : Nat))).setCell ⟨p10, 4, none⟩ (.int .u64 (dgl r 4 : Nat))).setCell ⟨p10, 5, none⟩ (.int .u64 (dgl r 5 : Nat))).setCell ⟨p10, 6, none⟩ (.int .u64 (dgl r 6 : Nat))).setCell ⟨p10, 7, none⟩ (.int .u64 (dgl r 7 : Nat))) ?_ (fun _ => ?_)
      · simp [go_sem, hc, e31, e10, hz, hzl, z10, gUpon]
      have hs8 := below_set8 (Below.refl (p8 + 1) W) p10 q10 (.int .u64 (dgl r 0 : Nat)) (.int .u64 (dgl r 1 : Nat)) (.int .u64 (dgl r 2 : Nat)) (.int .u64 (dgl r 3 : Nat)) (.int .u64 (dgl r 4 : Nat)) (.int .u64 (dgl r 5 : Nat)) (.int .u64 (dgl r 6 : Nat)) (.int .u64 (dgl r 7 : Nat))
      refine ⟨hC.under hs8 (by omega), fun t => ?_⟩
      refine (tbl_imp rfl (fun _ => val_imp) (tbl_imp rfl (fun _ => val_imp) (tbl_imp rfl (fun _ => val_imp) (tbl_imp rfl (fun _ => val_imp) (tbl_imp rfl (fun _ => val_imp) (tbl_imp rfl (fun ht h => ?_) (tbl_imp rfl (fun _ => val_imp) tbl_nil_imp)))))))
      subst ht
      show (bif (φ 6 || true) then SlotIs.box (p8 + 1) (dgl r) else SlotIs.box (p8 + 1) (fun _ => 0)).R _ _
      rw [Bool.or_true]
      exact ⟨p10, e10, q10, set8_same W p10 (dgl r) (fun _ => 0) l10, fun i => by simpa [go_sem] using z10 i⟩
    refine kSt rfl (fun φ hφ => gStep_run rfl (gRun_move 33 11 (.inr rfl) rfl (by decide +kernel) (fun v w h => h))) ?_
    exact kSt0
  · intro W hC
    refine gFi 29 rfl ?_
    rintro _ rfl
    refine gFi 30 rfl ?_
    rintro _ rfl
    refine gFi 31 rfl ?_
    rintro _ rfl
    refine gFi 32 rfl ?_
    rintro _ rfl
    refine gFi 33 rfl ?_
    rintro _ rfl
    refine gFi 10 rfl ?_
    rintro _ ⟨p10, rfl, q10, l10, z10⟩
    refine gFiN rfl ?_
    refine gFi 11 rfl ?_
    rintro _ rfl
    refine gFi0 ?_
    simp only [List.drop_succ_cons, List.drop_zero, Act.put, List.setIfInBounds_toArray, List.set_cons_succ, List.set_cons_zero]
    have HS := hide hC
    have HL := hide l10
    have HN2 := hide q10
    have HZ := hide z10
    clear hC l10 q10 z10 h3
    have l0 := HS.out.wa.h
    have l1 := HS.out.wa.l
    go_wp2_with fail
    refine (HFD.out _ HS.out.g).mono ?_
    rintro e w4 ⟨rfl, hb4⟩
    replace HS := hide (HS.out.below hb4)
    replace HZ := hide (show ∀ i, w4.frozen? ⟨p10, i, none⟩ = false from fun i => (hb4.frozen (p := ⟨p10, i, none⟩) HL.out.2).trans (HZ.out i))
    replace HL := hide (HL.out.below hb4)
    clear hb4 l0 l1
    have hk := HS.out.rk
    have hs := HL.out.1
    go_wp2_with fail
    refine (HUP.out _).mono ?_
    rintro e w5 ⟨rfl, hb5⟩
    replace HS := hide (HS.out.below hb5)
    replace HL := hide (HL.out.below hb5)
    clear hb5 hk hs
    go_upto_region 12 with fail
    refine wp_gen (fun W => MvSt a p8 k w false 0 0 W ∧ LiesF W p10 (dgl r)) ⟨HS.out, HL.out⟩ ?_
    clear HS HL
    rintro W5 ⟨h5, h6⟩
    refine wp_region_storeK 12 [10] [62, 63, 64, 65, 66, 67, 68, 69, 70, 71, 7] (fun bs => [(62, .val (.int .i64 f)), (63, .val (.agg #[.int .u64 (dgl (a) 1 : Nat), .int .u64 (dgl (a) 0 : Nat)])), (64, .val (.bool ng)), (65, .val (.int .i64 lo)), (66, .val (.int .i64 by_)), (67, .val (.int .i64 (lo - by_))), (68, .val (.agg #[.int .u64 (dgl (r) 0 : Nat), .int .u64 (dgl (r) 1 : Nat), .int .u64 (dgl (r) 2 : Nat), .int .u64 (dgl (r) 3 : Nat), .int .u64 (dgl (r) 4 : Nat), .int .u64 (dgl (r) 5 : Nat), .int .u64 (dgl (r) 6 : Nat), .int .u64 (dgl (r) 7 : Nat)])), (69, .val (.int .i64 by_)), (70, .val (.agg #[.int .u64 (dgl (t) 0 : Nat), .int .u64 (dgl (t) 1 : Nat), .int .u64 (dgl (t) 2 : Nat), .int .u64 (dgl (t) 3 : Nat), .int .u64 (dgl (t) 4 : Nat), .int .u64 (dgl (t) 5 : Nat), .int .u64 (dgl (t) 6 : Nat), .int .u64 (dgl (t) 7 : Nat)])), (71, .val (.agg #[.bool (ng), .int .i64 (lo - by_), .int .u64 (dgl (t) 0 : Nat), .int .u64 (dgl (t) 1 : Nat), .int .u64 (dgl (t) 2 : Nat), .int .u64 (dgl (t) 3 : Nat), .int .u64 (dgl (t) 4 : Nat), .int .u64 (dgl (t) 5 : Nat), .int .u64 (dgl (t) 6 : Nat), .int .u64 (dgl (t) 7 : Nat)])), (7, .val (.bool true))])
      (fun bs W => ∀ c, bs.headD false = c → MvSt a p8 k w (bif c then ng else false) (bif c then lo - by_ else 0) (bif c then t else 0) W ∧ LiesF W p10 (dgl r)) (fun bs => rfl) mixedOk (by kernel_rfl) (by kernel_rfl) (by kernel_rfl) (fun c hc => by subst hc; exact ⟨h5.below (Below.refl _ _).drew, h6.below (Below.refl _ _).drew⟩) (fun bs W W' h hb c hc => ⟨(h c hc).1.below hb, (h c hc).2.below hb⟩) ?_ ?_
    · refine kSt rfl (fun φ hφ => gStep_run rfl (gRun_move 0 62 (.inl rfl) rfl (by decide +kernel) (fun v w h => h))) ?_
      refine kSt rfl (fun φ hφ => gStep_run rfl ?_) ?_
      · intro ρ W hC hc hf hL
        have e4 : ρ (.tmp 4) = .pointer (some ⟨w.heap.size, 0, none⟩) := hL 4 (by decide +kernel)
        have hφ0 : φ 10 = false := hφ 10 (by simp) (by kernel_rfl)
        have hD : MvSt a p8 k w false 0 0 W ∧ LiesF W p10 (dgl r) := hC false hφ0
        have l0 := hD.1.wa.h
        have l1 := hD.1.wa.l
        simp [go_sem, hc, hf, e4, l0, l1]
        exact ⟨Below.refl _ _, rfl⟩
      refine kSt rfl (fun φ hφ => gStep_run rfl ?_) ?_
      · intro ρ W hC hc hf hL
        have e62 : ρ (.tmp 62) = .int .i64 f := hL 62 (by decide +kernel)
        have e63 : ρ (.tmp 63) = .agg #[.int .u64 (dgl (a) 1 : Nat), .int .u64 (dgl (a) 0 : Nat)] := hL 63 (by decide +kernel)
        have hφ0 : φ 10 = false := hφ 10 (by simp) (by kernel_rfl)
        have hD : MvSt a p8 k w false 0 0 W ∧ LiesF W p10 (dgl r) := hC false hφ0
        simp [go_sem, hc, hf, e62, e63]
        refine (HNG.out W hD.1.g).mono ?_
        rintro e w' ⟨rfl, hb⟩
        exact ⟨_, rfl, by first | exact hb | (subst hb; exact Below.refl _ _), rfl⟩
      refine kSt rfl (fun φ hφ => gStep_run rfl (gRun_move 11 65 (.inl rfl) rfl (by decide +kernel) (fun v w h => h))) ?_
      refine kSt rfl (fun φ hφ => gStep_run rfl (gRun_move 13 66 (.inl rfl) rfl (by decide +kernel) (fun v w h => h))) ?_
      refine kSt rfl (fun φ hφ => gStep_run rfl ?_) ?_
      · intro ρ W hC hc hf hL
        have e65 : ρ (.tmp 65) = .int .i64 lo := hL 65 (by decide +kernel)
        have e66 : ρ (.tmp 66) = .int .i64 by_ := hL 66 (by decide +kernel)
        have l0 := HW2.out
        simp [go_sem, hc, hf, e65, e66, l0]
        exact ⟨Below.refl _ _, rfl⟩
      refine kSt rfl (fun φ hφ => gStep_run rfl ?_) ?_
      · intro ρ W hC hc hf hL
        have e10 : ρ (.tmp 10) = .pointer (some ⟨p10, 0, none⟩) := hL 10 (by decide +kernel)
        have hφ0 : φ 10 = false := hφ 10 (by simp) (by kernel_rfl)
        have hD : MvSt a p8 k w false 0 0 W ∧ LiesF W p10 (dgl r) := hC false hφ0
        have l0 := hD.2.1
        simp [go_sem, hc, hf, e10, l0]
        exact ⟨Below.refl _ _, rfl⟩
      refine kSt rfl (fun φ hφ => gStep_run rfl (gRun_move 13 69 (.inl rfl) rfl (by decide +kernel) (fun v w h => h))) ?_
      refine kSt rfl (fun φ hφ => gStep_run rfl ?_) ?_
      · intro ρ W hC hc hf hL
        have e68 : ρ (.tmp 68) = .agg #[.int .u64 (dgl (r) 0 : Nat), .int .u64 (dgl (r) 1 : Nat), .int .u64 (dgl (r) 2 : Nat), .int .u64 (dgl (r) 3 : Nat), .int .u64 (dgl (r) 4 : Nat), .int .u64 (dgl (r) 5 : Nat), .int .u64 (dgl (r) 6 : Nat), .int .u64 (dgl (r) 7 : Nat)] := hL 68 (by decide +kernel)
        have e69 : ρ (.tmp 69) = .int .i64 by_ := hL 69 (by decide +kernel)
        simp [go_sem, hc, hf, e68, e69]
        refine (HSH.out W).mono ?_
        rintro e w' ⟨rfl, hb⟩
        exact ⟨_, rfl, by first | exact hb | (subst hb; exact Below.refl _ _), rfl⟩
      refine kSt rfl (fun φ hφ => gStep_run rfl ?_) ?_
      · intro ρ W hC hc hf hL
        have e64 : ρ (.tmp 64) = .bool ng := hL 64 (by decide +kernel)
        have e67 : ρ (.tmp 67) = .int .i64 (lo - by_) := hL 67 (by decide +kernel)
        have e70 : ρ (.tmp 70) = .agg #[.int .u64 (dgl (t) 0 : Nat), .int .u64 (dgl (t) 1 : Nat), .int .u64 (dgl (t) 2 : Nat), .int .u64 (dgl (t) 3 : Nat), .int .u64 (dgl (t) 4 : Nat), .int .u64 (dgl (t) 5 : Nat), .int .u64 (dgl (t) 6 : Nat), .int .u64 (dgl (t) 7 : Nat)] := hL 70 (by decide +kernel)
        simp [go_sem, hc, hf, e64, e67, e70]
        exact ⟨Below.refl _ _, rfl⟩
      refine kStS rfl ⟨rfl, rfl, ?_⟩ ?_
      · intro φ ρ W hφ hC hc hL
        have e6 : ρ (.tmp 6) = .pointer (some ⟨w.heap.size + 1, 0, none⟩) := hL 6 (by decide +kernel)
        have e71 : ρ (.tmp 71) = .agg #[.bool (ng), .int .i64 (lo - by_), .int .u64 (dgl (t) 0 : Nat), .int .u64 (dgl (t) 1 : Nat), .int .u64 (dgl (t) 2 : Nat), .int .u64 (dgl (t) 3 : Nat), .int .u64 (dgl (t) 4 : Nat), .int .u64 (dgl (t) 5 : Nat), .int .u64 (dgl (t) 6 : Nat), .int .u64 (dgl (t) 7 : Nat)] := hL 71 (by decide +kernel)
        have hD : MvSt a p8 k w false 0 0 W ∧ LiesF W p10 (dgl r) := hC false hφ
        have rn := hD.1.r.n
        have re := hD.1.r.e
        have r0 := hD.1.r.x0
        have r1 := hD.1.r.x1
        have r2 := hD.1.r.x2
        have r3 := hD.1.r.x3
        have r4 := hD.1.r.x4
        have r5 := hD.1.r.x5
        have r6 := hD.1.r.x6
        have r7 := hD.1.r.x7
        have hrf := hD.1.fr
        have hrl := hD.1.r.lt
        refine gUpon_of ((((((((((W.setCell ⟨w.heap.size + 1, 0, none⟩ (.bool (ng))).setCell ⟨w.heap.size + 1, 1, none⟩ (.int .i64 (lo - by_))).setCell ⟨w.heap.size + 1, 2, none⟩ (.int .u64 (dgl (t) 0 : Nat))).setCell ⟨w.heap.size + 1, 3, none⟩ (.int .u64 (dgl (t) 1 : Nat))).setCell ⟨w.heap.size + 1, 4, none⟩ (.int .u64 (dgl (t) 2 : Nat))).setCell ⟨w.heap.size + 1, 5, none⟩ (.int .u64 (dgl (t) 3 : Nat))).setCell ⟨w.heap.size + 1, 6, none⟩ (.int .u64 (dgl (t) 4 : Nat))).setCell ⟨w.heap.size + 1, 7, none⟩ (.int .u64 (dgl (t) 5 : Nat))).setCell ⟨w.heap.size + 1, 8, none⟩ (.int .u64 (dgl (t) 6 : Nat))).setCell ⟨w.heap.size + 1, 9, none⟩ (.int .u64 (dgl (t) 7 : Nat))) ?_ (fun _ => ?_)
        · simp [go_sem, hc, e6, e71, hrf, hrl, rn, re, r0, r1, r2, r3, r4, r5, r6, r7, gUpon]
        have hs10 := below_set10 (Below.refl (w.heap.size + 1) W) (w.heap.size + 1) (Nat.le_refl _) ng (lo - by_) t
        refine ⟨fun c hc => ?_, fun t => (tbl_imp rfl (fun _ => val_imp) (tbl_imp rfl (fun _ => val_imp) (tbl_imp rfl (fun _ => val_imp) (tbl_imp rfl (fun _ => val_imp) (tbl_imp rfl (fun _ => val_imp) (tbl_imp rfl (fun _ => val_imp) (tbl_imp rfl (fun _ => val_imp) (tbl_imp rfl (fun _ => val_imp) (tbl_imp rfl (fun _ => val_imp) (tbl_imp rfl (fun _ => val_imp) (tbl_imp rfl (fun _ => val_imp) tbl_nil_imp)))))))))))⟩
        have hc2 : (φ 10 || true) = c := hc
        rw [Bool.or_true] at hc2
        subst hc2
        exact ⟨hD.1.setR ng (lo - by_) t, lies_set10 hD.2 (by have h1 := hD.1.lo; have h2 := HN2.out; omega)⟩
      refine kSt rfl (fun φ hφ => gStep_run rfl (gRun_const _ 7 (.inr rfl) rfl (fun w => rfl))) ?_
      exact kSt0
    · intro W hC
      refine gFi 62 rfl ?_
      rintro _ rfl
      refine gFi 63 rfl ?_
      rintro _ rfl
      refine gFi 64 rfl ?_
      rintro _ rfl
      refine gFi 65 rfl ?_
      rintro _ rfl
      refine gFi 66 rfl ?_
      rintro _ rfl
      refine gFi 67 rfl ?_
      rintro _ rfl
      refine gFi 68 rfl ?_
      rintro _ rfl
      refine gFi 69 rfl ?_
      rintro _ rfl
      refine gFi 70 rfl ?_
      rintro _ rfl
      refine gFi 71 rfl ?_
      rintro _ rfl
      refine gFiN rfl ?_
      refine gFi 7 rfl ?_
      rintro _ rfl
      refine gFi0 ?_
      simp only [List.drop_succ_cons, List.drop_zero, Act.put, List.setIfInBounds_toArray, List.set_cons_succ, List.set_cons_zero]
      have HC := hide (hC true rfl).1
      clear hC h5 h6
      have rn := HC.out.r.n
      have re := HC.out.r.e
      have r0 := HC.out.r.x0
      have r1 := HC.out.r.x1
      have r2 := HC.out.r.x2
      have r3 := HC.out.r.x3
      have r4 := HC.out.r.x4
      have r5 := HC.out.r.x5
      have r6 := HC.out.r.x6
      have r7 := HC.out.r.x7
      simp only [cond_true] at rn re r0 r1 r2 r3 r4 r5 r6 r7
      have hrl := HC.out.r.lt
      have HB := hide HC.out.bel
      clear HC
      go_wp2
      exact bodyPost_ret (v := .tuple #[.agg #[.bool (ng), .int .i64 (lo - by_), .int .u64 (dgl (t) 0 : Nat), .int .u64 (dgl (t) 1 : Nat), .int .u64 (dgl (t) 2 : Nat), .int .u64 (dgl (t) 3 : Nat), .int .u64 (dgl (t) 4 : Nat), .int .u64 (dgl (t) 5 : Nat), .int .u64 (dgl (t) 6 : Nat), .int .u64 (dgl (t) 7 : Nat)], .bool true]) (by simp [results, Tryd.results79, go_sem, hrl, rn, re, r0, r1, r2, r3, r4, r5, r6, r7]) rfl ⟨rfl, HB.out⟩

set_option maxHeartbeats 2000000 in
theorem moved_D1 (f lo by_ : Int) (k : Nat → Int) (a r fd pw s t fid : Nat) (ov ng : Bool) (fv : Value)
    (HO : Hid (∀ w, FmtG w → Calls Tryd.prog 47 #[.int .i64 f] w fun e w' => e = .returned (.tuple #[.agg #[.int .i64 (k 0), .int .i64 (k 1), .int .i64 (k 2), .int .i64 (k 3), .int .i64 (k 4)], .bool true]) ∧ Below w.heap.size w w'))
    (HFI : Hid (∀ w, FmtG w → Calls Tryd.prog 125 #[.int .i64 f, .agg #[.int .u64 (dgl (a) 1 : Nat), .int .u64 (dgl (a) 0 : Nat)]] w fun e w' => e = .returned (.bool true) ∧ Below w.heap.size w w'))
    (HFR : Hid (∀ w, FmtG w → Calls Tryd.prog 98 #[.int .i64 f, .agg #[.int .u64 (dgl (a) 1 : Nat), .int .u64 (dgl (a) 0 : Nat)]] w fun e w' => e = .returned (.agg #[.int .u64 (dgl (r) 0 : Nat), .int .u64 (dgl (r) 1 : Nat), .int .u64 (dgl (r) 2 : Nat), .int .u64 (dgl (r) 3 : Nat), .int .u64 (dgl (r) 4 : Nat), .int .u64 (dgl (r) 5 : Nat), .int .u64 (dgl (r) 6 : Nat), .int .u64 (dgl (r) 7 : Nat)]) ∧ Below w.heap.size w w'))
    (HLO : Hid (∀ w, Calls Tryd.prog 50 #[.agg #[.int .i64 (k 0), .int .i64 (k 1), .int .i64 (k 2), .int .i64 (k 3), .int .i64 (k 4)]] w fun e w' => e = .returned (.int .i64 lo) ∧ Below w.heap.size w w'))
    (HFD : Hid (∀ w, FmtG w → Calls Tryd.prog 101 #[.int .i64 f, .agg #[.int .u64 (dgl (a) 1 : Nat), .int .u64 (dgl (a) 0 : Nat)]] w fun e w' => e = .returned (.int .i64 (fd : Nat)) ∧ Below w.heap.size w w'))
    (hlo : -20000 ≤ lo ∧ lo ≤ 0)
    (HNE : Hid ((((fd : Nat) : Int) != 0) = true)) (hfd : fd ≤ 40000) (HW1 : Hid (IntKind.i64.wrap (k 1 - 1) = k 1 - 1))
    (HPW : Hid (∀ w, Calls Tryd.prog 55 #[.int .i64 (k 1 - 1)] w fun e w' => e = .returned (.agg #[.int .u64 (dgl (pw) 0 : Nat), .int .u64 (dgl (pw) 1 : Nat), .int .u64 (dgl (pw) 2 : Nat), .int .u64 (dgl (pw) 3 : Nat), .int .u64 (dgl (pw) 4 : Nat), .int .u64 (dgl (pw) 5 : Nat), .int .u64 (dgl (pw) 6 : Nat), .int .u64 (dgl (pw) 7 : Nat)]) ∧ Below w.heap.size w w'))
    (HAD : Hid (∀ w, Calls Tryd.prog 100 #[.agg #[.int .u64 (dgl (r) 0 : Nat), .int .u64 (dgl (r) 1 : Nat), .int .u64 (dgl (r) 2 : Nat), .int .u64 (dgl (r) 3 : Nat), .int .u64 (dgl (r) 4 : Nat), .int .u64 (dgl (r) 5 : Nat), .int .u64 (dgl (r) 6 : Nat), .int .u64 (dgl (r) 7 : Nat)], .agg #[.int .u64 (dgl (pw) 0 : Nat), .int .u64 (dgl (pw) 1 : Nat), .int .u64 (dgl (pw) 2 : Nat), .int .u64 (dgl (pw) 3 : Nat), .int .u64 (dgl (pw) 4 : Nat), .int .u64 (dgl (pw) 5 : Nat), .int .u64 (dgl (pw) 6 : Nat), .int .u64 (dgl (pw) 7 : Nat)]] w fun e w' => e = .returned (.tuple #[.agg #[.int .u64 (dgl (s) 0 : Nat), .int .u64 (dgl (s) 1 : Nat), .int .u64 (dgl (s) 2 : Nat), .int .u64 (dgl (s) 3 : Nat), .int .u64 (dgl (s) 4 : Nat), .int .u64 (dgl (s) 5 : Nat), .int .u64 (dgl (s) 6 : Nat), .int .u64 (dgl (s) 7 : Nat)], .bool ov]) ∧ Below w.heap.size w w'))
    (hent : ∀ args w, (callFunc fid args).run Tryd.prog w = .ok (.enter fid args) w)
    (HUP : Hid (∀ w, Calls Tryd.prog fid #[.agg #[.int .i64 (k 0), .int .i64 (k 1), .int .i64 (k 2), .int .i64 (k 3), .int .i64 (k 4)], .agg #[.int .u64 (dgl (s) 0 : Nat), .int .u64 (dgl (s) 1 : Nat), .int .u64 (dgl (s) 2 : Nat), .int .u64 (dgl (s) 3 : Nat), .int .u64 (dgl (s) 4 : Nat), .int .u64 (dgl (s) 5 : Nat), .int .u64 (dgl (s) 6 : Nat), .int .u64 (dgl (s) 7 : Nat)]] w fun e w' => e = .returned (.tuple #[.int .i64 by_, .bool true]) ∧ Below w.heap.size w w'))
    (HNG : Hid (∀ w, FmtG w → Calls Tryd.prog 97 #[.int .i64 f, .agg #[.int .u64 (dgl (a) 1 : Nat), .int .u64 (dgl (a) 0 : Nat)]] w fun e w' => e = .returned (.bool ng) ∧ Below w.heap.size w w'))
    (HSH : Hid (∀ w, Calls Tryd.prog 107 #[.agg #[.int .u64 (dgl (s) 0 : Nat), .int .u64 (dgl (s) 1 : Nat), .int .u64 (dgl (s) 2 : Nat), .int .u64 (dgl (s) 3 : Nat), .int .u64 (dgl (s) 4 : Nat), .int .u64 (dgl (s) 5 : Nat), .int .u64 (dgl (s) 6 : Nat), .int .u64 (dgl (s) 7 : Nat)], .int .i64 by_] w fun e w' => e = .returned (.agg #[.int .u64 (dgl (t) 0 : Nat), .int .u64 (dgl (t) 1 : Nat), .int .u64 (dgl (t) 2 : Nat), .int .u64 (dgl (t) 3 : Nat), .int .u64 (dgl (t) 4 : Nat), .int .u64 (dgl (t) 5 : Nat), .int .u64 (dgl (t) 6 : Nat), .int .u64 (dgl (t) 7 : Nat)]) ∧ Below w.heap.size w w'))
    (HW2 : Hid (IntKind.i64.wrap ((lo + ((fd : Int) - 1)) - by_) = (lo + ((fd : Int) - 1)) - by_)) (w : World) (hg : FmtG w) :
    Calls Tryd.prog 79 #[.int .i64 f, .agg #[.int .u64 (dgl (a) 1 : Nat), .int .u64 (dgl (a) 0 : Nat)], .func (.func fid) #[] #[]] w fun e w' => e = .returned (.tuple #[.agg #[.bool (ng), .int .i64 ((lo + ((fd : Int) - 1)) - by_), .int .u64 (dgl (t) 0 : Nat), .int .u64 (dgl (t) 1 : Nat), .int .u64 (dgl (t) 2 : Nat), .int .u64 (dgl (t) 3 : Nat), .int .u64 (dgl (t) 4 : Nat), .int .u64 (dgl (t) 5 : Nat), .int .u64 (dgl (t) 6 : Nat), .int .u64 (dgl (t) 7 : Nat)], .bool true]) ∧ Below w.heap.size w w' := by
  have HS := hide (mv0_start a w hg)
  clear hg
  go_enter Tryd.func79, Tryd.ntmps79
  go_wp2_with fail
  refine (HO.out _ HS.out.g).mono ?_
  rintro e w1 ⟨rfl, hb1⟩
  replace HS := hide (HS.out.below hb1)
  clear hb1
  go_upto_region 2 with fail
  refine wp_gen (fun W => MvSt a w1.heap.size k w false 0 0 W) (by have h := mvSt_start k HS.out; exact h) ?_
  clear HS
  generalize w1.heap.size = p8
  rintro W1 h1
  have HS := hide h1
  clear h1
  have l0 := HS.out.wa.h
  have l1 := HS.out.wa.l
  go_wp2_with fail
  refine (HFI.out _ HS.out.g).mono ?_
  rintro e w2 ⟨rfl, hb2⟩
  replace HS := hide (HS.out.below hb2)
  clear hb2 l0 l1
  go_upto_region 4 with fail
  refine wp_gen (fun W => MvSt a p8 k w false 0 0 W) HS.out ?_
  clear HS
  rintro W3 h3
  refine wp_region_storeK 8 [6] [29, 30, 31, 32, 33, 10, 11] (fun bs => [(29, .val (.int .i64 f)), (30, .val (.agg #[.int .u64 (dgl (a) 1 : Nat), .int .u64 (dgl (a) 0 : Nat)])), (31, .val (.agg #[.int .u64 (dgl (r) 0 : Nat), .int .u64 (dgl (r) 1 : Nat), .int .u64 (dgl (r) 2 : Nat), .int .u64 (dgl (r) 3 : Nat), .int .u64 (dgl (r) 4 : Nat), .int .u64 (dgl (r) 5 : Nat), .int .u64 (dgl (r) 6 : Nat), .int .u64 (dgl (r) 7 : Nat)])), (32, .val (.agg #[.int .i64 (k 0), .int .i64 (k 1), .int .i64 (k 2), .int .i64 (k 3), .int .i64 (k 4)])), (33, .val (.int .i64 lo)), (10, bif bs.headD false then SlotIs.box (p8 + 1) (dgl r) else SlotIs.box (p8 + 1) (fun _ => 0)), (11, .val (.int .i64 lo))])
    (fun _ W => MvSt a p8 k w false 0 0 W) (fun bs => rfl) mixedOk (by kernel_rfl) (by kernel_rfl) (by kernel_rfl) (h3.below (Below.refl _ _).drew) (fun bs W W' h hb => h.below hb) ?_ ?_
  · refine kSt rfl (fun φ hφ => gStep_run rfl (gRun_move 0 29 (.inl rfl) rfl (by decide +kernel) (fun v w h => h))) ?_
    refine kSt rfl (fun φ hφ => gStep_run rfl ?_) ?_
    · intro ρ W hC hc hf hL
      have e4 : ρ (.tmp 4) = .pointer (some ⟨w.heap.size, 0, none⟩) := hL 4 (by decide +kernel)
      have l0 := hC.wa.h
      have l1 := hC.wa.l
      simp [go_sem, hc, hf, e4, l0, l1]
      exact ⟨Below.refl _ _, rfl⟩
    refine kSt rfl (fun φ hφ => gStep_run rfl ?_) ?_
    · intro ρ W hC hc hf hL
      have e29 : ρ (.tmp 29) = .int .i64 f := hL 29 (by decide +kernel)
      have e30 : ρ (.tmp 30) = .agg #[.int .u64 (dgl (a) 1 : Nat), .int .u64 (dgl (a) 0 : Nat)] := hL 30 (by decide +kernel)
      simp [go_sem, hc, hf, e29, e30]
      refine (HFR.out W hC.g).mono ?_
      rintro e w' ⟨rfl, hb⟩
      exact ⟨_, rfl, by first | exact hb | (subst hb; exact Below.refl _ _), rfl⟩
    refine kSt rfl (fun φ hφ => gStep_run rfl ?_) ?_
    · intro ρ W hC hc hf hL
      have e8 : ρ (.tmp 8) = .pointer (some ⟨p8, 0, none⟩) := hL 8 (by decide +kernel)
      have l0 := hC.rk
      simp [go_sem, hc, hf, e8, l0]
      exact ⟨Below.refl _ _, rfl⟩
    refine kSt rfl (fun φ hφ => gStep_run rfl ?_) ?_
    · intro ρ W hC hc hf hL
      have e32 : ρ (.tmp 32) = .agg #[.int .i64 (k 0), .int .i64 (k 1), .int .i64 (k 2), .int .i64 (k 3), .int .i64 (k 4)] := hL 32 (by decide +kernel)
      simp [go_sem, hc, hf, e32]
      refine (HLO.out W).mono ?_
      rintro e w' ⟨rfl, hb⟩
      exact ⟨_, rfl, by first | exact hb | (subst hb; exact Below.refl _ _), rfl⟩
    refine kSt rfl (fun φ hφ => gStep_run rfl ?_) ?_
    · intro ρ W hC hc hf hL
      have hφ0 : φ 6 = false := hφ 6 (by simp) (by kernel_rfl)
      simp [go_sem, hc, hf]
      refine ⟨below_allocs _ _, ?_⟩
      show (bif φ 6 then SlotIs.box (p8 + 1) (dgl r) else SlotIs.box (p8 + 1) (fun _ => 0)).R _ _
      rw [hφ0]
      exact ⟨_, rfl, hC.lk, liesF_new _ (fun _ => 0) _, fun i => by simp [go_sem]⟩
    refine kStS rfl ⟨rfl, rfl, ?_⟩ ?_
    · intro φ ρ W hφ hC hc hL
      have b10 := hL 10 (by decide +kernel)
      have e31 : ρ (.tmp 31) = .agg #[.int .u64 (dgl (r) 0 : Nat), .int .u64 (dgl (r) 1 : Nat), .int .u64 (dgl (r) 2 : Nat), .int .u64 (dgl (r) 3 : Nat), .int .u64 (dgl (r) 4 : Nat), .int .u64 (dgl (r) 5 : Nat), .int .u64 (dgl (r) 6 : Nat), .int .u64 (dgl (r) 7 : Nat)] := hL 31 (by decide +kernel)
      have b10 : (bif φ 6 then SlotIs.box (p8 + 1) (dgl r) else SlotIs.box (p8 + 1) (fun _ => 0)).R (ρ (.tmp 10)) W := hL 10 (by decide +kernel)
      rw [hφ] at b10
      obtain ⟨p10, e10, q10, l10, z10⟩ := b10
      have hz := l10.1
      have hzl := l10.2
      refine gUpon_of ((((((((W.setCell ⟨p10, 0, none⟩ (.int .u64 (dgl r 0 : Nat))).setCell ⟨p10, 1, none⟩ (.int .u64 (dgl r 1 : Nat))).setCell ⟨p10, 2, none⟩ (.int .u64 (dgl r 2 : Nat))).setCell ⟨p10, 3, none⟩ (.int .u64 (dgl r 3 : Nat))).setCell ⟨p10, 4, none⟩ (.int .u64 (dgl r 4 : Nat))).setCell ⟨p10, 5, none⟩ (.int .u64 (dgl r 5 : Nat))).setCell ⟨p10, 6, none⟩ (.int .u64 (dgl r 6 : Nat))).setCell ⟨p10, 7, none⟩ (.int .u64 (dgl r 7 : Nat))) ?_ (fun _ => ?_)
      · simp [go_sem, hc, e31, e10, hz, hzl, z10, gUpon]
      have hs8 := below_set8 (Below.refl (p8 + 1) W) p10 q10 (.int .u64 (dgl r 0 : Nat)) (.int .u64 (dgl r 1 : Nat)) (.int .u64 (dgl r 2 : Nat)) (.int .u64 (dgl r 3 : Nat)) (.int .u64 (dgl r 4 : Nat)) (.int .u64 (dgl r 5 : Nat)) (.int .u64 (dgl r 6 : Nat)) (.int .u64 (dgl r 7 : Nat))
      refine ⟨hC.under hs8 (by omega), fun t => ?_⟩
      refine (tbl_imp rfl (fun _ => val_imp) (tbl_imp rfl (fun _ => val_imp) (tbl_imp rfl (fun _ => val_imp) (tbl_imp rfl (fun _ => val_imp) (tbl_imp rfl (fun _ => val_imp) (tbl_imp rfl (fun ht h => ?_) (tbl_imp rfl (fun _ => val_imp) tbl_nil_imp)))))))
      subst ht
      show (bif (φ 6 || true) then SlotIs.box (p8 + 1) (dgl r) else SlotIs.box (p8 + 1) (fun _ => 0)).R _ _
      rw [Bool.or_true]
      exact ⟨p10, e10, q10, set8_same W p10 (dgl r) (fun _ => 0) l10, fun i => by simpa [go_sem] using z10 i⟩
    refine kSt rfl (fun φ hφ => gStep_run rfl (gRun_move 33 11 (.inr rfl) rfl (by decide +kernel) (fun v w h => h))) ?_
    exact kSt0
  · intro W hC
    refine gFi 29 rfl ?_
    rintro _ rfl
    refine gFi 30 rfl ?_
    rintro _ rfl
    refine gFi 31 rfl ?_
    rintro _ rfl
    refine gFi 32 rfl ?_
    rintro _ rfl
    refine gFi 33 rfl ?_
    rintro _ rfl
    refine gFi 10 rfl ?_
    rintro _ ⟨p10, rfl, q10, l10, z10⟩
    refine gFiN rfl ?_
    refine gFi 11 rfl ?_
    rintro _ rfl
    refine gFi0 ?_
    simp only [List.drop_succ_cons, List.drop_zero, Act.put, List.setIfInBounds_toArray, List.set_cons_succ, List.set_cons_zero]
    have HS := hide hC
    have HL := hide l10
    have HN2 := hide q10
    have HZ := hide z10
    clear hC l10 q10 z10 h3
    have l0 := HS.out.wa.h
    have l1 := HS.out.wa.l
    go_wp2_with fail
    refine (HFD.out _ HS.out.g).mono ?_
    rintro e w4 ⟨rfl, hb4⟩
    replace HS := hide (HS.out.below hb4)
    replace HZ := hide (show ∀ i, w4.frozen? ⟨p10, i, none⟩ = false from fun i => (hb4.frozen (p := ⟨p10, i, none⟩) HL.out.2).trans (HZ.out i))
    replace HL := hide (HL.out.below hb4)
    clear hb4 l0 l1
    have hne := HNE.out
    go_upto_region 7 with fail
    refine wp_gen (fun W => MvSt a p8 k w false 0 0 W ∧ LiesF W p10 (dgl r) ∧ ∀ i, W.frozen? ⟨p10, i, none⟩ = false) ⟨HS.out, HL.out, HZ.out⟩ ?_
    clear HS HL HZ hne
    rintro W5 ⟨h5, h6, h7⟩
    refine wp_region_storeK 10 [9] [40, 41, 42, 43, 44, 45, 39, 46, 47] (fun bs => [(40, .val (.agg #[.int .u64 (dgl (r) 0 : Nat), .int .u64 (dgl (r) 1 : Nat), .int .u64 (dgl (r) 2 : Nat), .int .u64 (dgl (r) 3 : Nat), .int .u64 (dgl (r) 4 : Nat), .int .u64 (dgl (r) 5 : Nat), .int .u64 (dgl (r) 6 : Nat), .int .u64 (dgl (r) 7 : Nat)])), (41, .val (.pointer (some ⟨p8, 1, none⟩))), (42, .val (.int .i64 (k 1))), (43, .val (.int .i64 (k 1 - 1))), (44, .val (.agg #[.int .u64 (dgl (pw) 0 : Nat), .int .u64 (dgl (pw) 1 : Nat), .int .u64 (dgl (pw) 2 : Nat), .int .u64 (dgl (pw) 3 : Nat), .int .u64 (dgl (pw) 4 : Nat), .int .u64 (dgl (pw) 5 : Nat), .int .u64 (dgl (pw) 6 : Nat), .int .u64 (dgl (pw) 7 : Nat)])), (45, .val (.tuple #[.agg #[.int .u64 (dgl (s) 0 : Nat), .int .u64 (dgl (s) 1 : Nat), .int .u64 (dgl (s) 2 : Nat), .int .u64 (dgl (s) 3 : Nat), .int .u64 (dgl (s) 4 : Nat), .int .u64 (dgl (s) 5 : Nat), .int .u64 (dgl (s) 6 : Nat), .int .u64 (dgl (s) 7 : Nat)], .bool ov])), (39, .val (.tuple #[.agg #[.int .u64 (dgl (s) 0 : Nat), .int .u64 (dgl (s) 1 : Nat), .int .u64 (dgl (s) 2 : Nat), .int .u64 (dgl (s) 3 : Nat), .int .u64 (dgl (s) 4 : Nat), .int .u64 (dgl (s) 5 : Nat), .int .u64 (dgl (s) 6 : Nat), .int .u64 (dgl (s) 7 : Nat)], .bool ov])), (46, .val (.agg #[.int .u64 (dgl (s) 0 : Nat), .int .u64 (dgl (s) 1 : Nat), .int .u64 (dgl (s) 2 : Nat), .int .u64 (dgl (s) 3 : Nat), .int .u64 (dgl (s) 4 : Nat), .int .u64 (dgl (s) 5 : Nat), .int .u64 (dgl (s) 6 : Nat), .int .u64 (dgl (s) 7 : Nat)])), (47, .val (.bool ov))])
      (fun bs W => MvSt a p8 k w false 0 0 W ∧ (∀ c, bs.headD false = c → LiesF W p10 (dgl (bif c then s else r))) ∧ ∀ i, W.frozen? ⟨p10, i, none⟩ = false) (fun bs => rfl) mixedOk (by kernel_rfl) (by kernel_rfl) (by kernel_rfl) (⟨h5.below (Below.refl _ _).drew, fun c hc => by subst hc; exact h6.below (Below.refl _ _).drew, fun i => (Below.refl _ _).drew.frozen (p := ⟨p10, i, none⟩) h6.2 |>.trans (h7 i)⟩) (fun bs W W' h hb => ⟨h.1.below hb, fun c hq => (h.2.1 c hq).below hb, fun i => (hb.frozen (p := ⟨p10, i, none⟩) (h.2.1 _ rfl).2).trans (h.2.2 i)⟩) ?_ ?_
    · refine kSt rfl (fun φ hφ => gStep_run rfl ?_) ?_
      · intro ρ W hC hc hf hL
        have e10 : ρ (.tmp 10) = .pointer (some ⟨p10, 0, none⟩) := hL 10 (by decide +kernel)
        have hφ0 : φ 9 = false := hφ 9 (by simp) (by kernel_rfl)
        have hD : LiesF W p10 (dgl r) := hC.2.1 false hφ0
        have hl := hD.1
        simp [go_sem, hc, hf, e10, hl]
        exact ⟨Below.refl _ _, rfl⟩
      refine kSt rfl (fun φ hφ => gStep_run rfl ?_) ?_
      · intro ρ W hC hc hf hL
        have e8 : ρ (.tmp 8) = .pointer (some ⟨p8, 0, none⟩) := hL 8 (by decide +kernel)
        simp [go_sem, hc, hf, e8]
        exact ⟨Below.refl _ _, rfl⟩
      refine kSt rfl (fun φ hφ => gStep_run rfl ?_) ?_
      · intro ρ W hC hc hf hL
        have e41 : ρ (.tmp 41) = .pointer (some ⟨p8, 1, none⟩) := hL 41 (by decide +kernel)
        have hl := hC.1.rk 1 (by decide)
        simp [go_sem, hc, hf, e41, hl]
        exact ⟨Below.refl _ _, rfl⟩
      refine kSt rfl (fun φ hφ => gStep_run rfl ?_) ?_
      · intro ρ W hC hc hf hL
        have e42 : ρ (.tmp 42) = .int .i64 (k 1) := hL 42 (by decide +kernel)
        have hl := HW1.out
        simp [go_sem, hc, hf, e42, hl]
        exact ⟨Below.refl _ _, rfl⟩
      refine kSt rfl (fun φ hφ => gStep_run rfl ?_) ?_
      · intro ρ W hC hc hf hL
        have e43 : ρ (.tmp 43) = .int .i64 (k 1 - 1) := hL 43 (by decide +kernel)
        simp [go_sem, hc, hf, e43]
        refine (HPW.out W).mono ?_
        rintro e w' ⟨rfl, hb⟩
        exact ⟨_, rfl, by first | exact hb | (subst hb; exact Below.refl _ _), rfl⟩
      refine kSt rfl (fun φ hφ => gStep_run rfl ?_) ?_
      · intro ρ W hC hc hf hL
        have e40 : ρ (.tmp 40) = .agg #[.int .u64 (dgl (r) 0 : Nat), .int .u64 (dgl (r) 1 : Nat), .int .u64 (dgl (r) 2 : Nat), .int .u64 (dgl (r) 3 : Nat), .int .u64 (dgl (r) 4 : Nat), .int .u64 (dgl (r) 5 : Nat), .int .u64 (dgl (r) 6 : Nat), .int .u64 (dgl (r) 7 : Nat)] := hL 40 (by decide +kernel)
        have e44 : ρ (.tmp 44) = .agg #[.int .u64 (dgl (pw) 0 : Nat), .int .u64 (dgl (pw) 1 : Nat), .int .u64 (dgl (pw) 2 : Nat), .int .u64 (dgl (pw) 3 : Nat), .int .u64 (dgl (pw) 4 : Nat), .int .u64 (dgl (pw) 5 : Nat), .int .u64 (dgl (pw) 6 : Nat), .int .u64 (dgl (pw) 7 : Nat)] := hL 44 (by decide +kernel)
        simp [go_sem, hc, hf, e40, e44]
        refine (HAD.out W).mono ?_
        rintro e w' ⟨rfl, hb⟩
        exact ⟨_, rfl, by first | exact hb | (subst hb; exact Below.refl _ _), rfl⟩
      refine kSt rfl (fun φ hφ => gStep_run rfl (gRun_move 45 39 (.inl rfl) rfl (by decide +kernel) (fun v w h => h))) ?_
      refine kSt rfl (fun φ hφ => gStep_run rfl ?_) ?_
      · intro ρ W hC hc hf hL
        have e39 : ρ (.tmp 39) = .tuple #[.agg #[.int .u64 (dgl (s) 0 : Nat), .int .u64 (dgl (s) 1 : Nat), .int .u64 (dgl (s) 2 : Nat), .int .u64 (dgl (s) 3 : Nat), .int .u64 (dgl (s) 4 : Nat), .int .u64 (dgl (s) 5 : Nat), .int .u64 (dgl (s) 6 : Nat), .int .u64 (dgl (s) 7 : Nat)], .bool ov] := hL 39 (by decide +kernel)
        simp [go_sem, hc, hf, e39]
        exact ⟨Below.refl _ _, rfl⟩
      refine kSt rfl (fun φ hφ => gStep_run rfl ?_) ?_
      · intro ρ W hC hc hf hL
        have e39 : ρ (.tmp 39) = .tuple #[.agg #[.int .u64 (dgl (s) 0 : Nat), .int .u64 (dgl (s) 1 : Nat), .int .u64 (dgl (s) 2 : Nat), .int .u64 (dgl (s) 3 : Nat), .int .u64 (dgl (s) 4 : Nat), .int .u64 (dgl (s) 5 : Nat), .int .u64 (dgl (s) 6 : Nat), .int .u64 (dgl (s) 7 : Nat)], .bool ov] := hL 39 (by decide +kernel)
        simp [go_sem, hc, hf, e39]
        exact ⟨Below.refl _ _, rfl⟩
      refine kStS rfl ⟨rfl, rfl, ?_⟩ ?_
      · intro φ ρ W hφ hC hc hL
        have e10 : ρ (.tmp 10) = .pointer (some ⟨p10, 0, none⟩) := hL 10 (by decide +kernel)
        have e46 : ρ (.tmp 46) = .agg #[.int .u64 (dgl (s) 0 : Nat), .int .u64 (dgl (s) 1 : Nat), .int .u64 (dgl (s) 2 : Nat), .int .u64 (dgl (s) 3 : Nat), .int .u64 (dgl (s) 4 : Nat), .int .u64 (dgl (s) 5 : Nat), .int .u64 (dgl (s) 6 : Nat), .int .u64 (dgl (s) 7 : Nat)] := hL 46 (by decide +kernel)
        have hD : LiesF W p10 (dgl r) := hC.2.1 false hφ
        have hr := hD.1
        have hrl := hD.2
        have hrf := hC.2.2
        refine gUpon_of ((((((((W.setCell ⟨p10, 0, none⟩ (.int .u64 (dgl s 0 : Nat))).setCell ⟨p10, 1, none⟩ (.int .u64 (dgl s 1 : Nat))).setCell ⟨p10, 2, none⟩ (.int .u64 (dgl s 2 : Nat))).setCell ⟨p10, 3, none⟩ (.int .u64 (dgl s 3 : Nat))).setCell ⟨p10, 4, none⟩ (.int .u64 (dgl s 4 : Nat))).setCell ⟨p10, 5, none⟩ (.int .u64 (dgl s 5 : Nat))).setCell ⟨p10, 6, none⟩ (.int .u64 (dgl s 6 : Nat))).setCell ⟨p10, 7, none⟩ (.int .u64 (dgl s 7 : Nat))) ?_ (fun _ => ?_)
        · simp [go_sem, hc, e10, e46, hr, hrl, hrf, gUpon]
        have hs8 := below_set8 (Below.refl (p8 + 1) W) p10 HN2.out (.int .u64 (dgl s 0 : Nat)) (.int .u64 (dgl s 1 : Nat)) (.int .u64 (dgl s 2 : Nat)) (.int .u64 (dgl s 3 : Nat)) (.int .u64 (dgl s 4 : Nat)) (.int .u64 (dgl s 5 : Nat)) (.int .u64 (dgl s 6 : Nat)) (.int .u64 (dgl s 7 : Nat))
        refine ⟨⟨hC.1.under hs8 (by omega), fun b hb => ?_, fun i => by simpa [go_sem] using hrf i⟩, fun t => (tbl_imp rfl (fun _ => val_imp) (tbl_imp rfl (fun _ => val_imp) (tbl_imp rfl (fun _ => val_imp) (tbl_imp rfl (fun _ => val_imp) (tbl_imp rfl (fun _ => val_imp) (tbl_imp rfl (fun _ => val_imp) (tbl_imp rfl (fun _ => val_imp) (tbl_imp rfl (fun _ => val_imp) (tbl_imp rfl (fun _ => val_imp) tbl_nil_imp)))))))))⟩
        have hb2 : (φ 9 || true) = b := hb
        rw [Bool.or_true] at hb2
        subst hb2
        exact set8_same W p10 (dgl s) (dgl r) hD
      exact kSt0
    · intro W hC
      refine gFi 40 rfl ?_
      rintro _ rfl
      refine gFi 41 rfl ?_
      rintro _ rfl
      refine gFi 42 rfl ?_
      rintro _ rfl
      refine gFi 43 rfl ?_
      rintro _ rfl
      refine gFi 44 rfl ?_
      rintro _ rfl
      refine gFi 45 rfl ?_
      rintro _ rfl
      refine gFi 39 rfl ?_
      rintro _ rfl
      refine gFi 46 rfl ?_
      rintro _ rfl
      refine gFi 47 rfl ?_
      rintro _ rfl
      refine gFiN rfl ?_
      refine gFi0 ?_
      simp only [List.drop_succ_cons, List.drop_zero, Act.put, List.setIfInBounds_toArray, List.set_cons_succ, List.set_cons_zero]
      have HL : Hid (LiesF W p10 (dgl s)) := hC.2.1 true rfl
      have HS := hide hC.1
      clear hC h5 h6 h7
      have hk := HS.out.rk
      have hs := HL.out.1
      go_wp2_with fail
      refine (HUP.out _).mono ?_
      rintro e w5 ⟨rfl, hb5⟩
      replace HS := hide (HS.out.below hb5)
      replace HL := hide (HL.out.below hb5)
      clear hb5 hk hs
      go_upto_region 12 with fail
      refine wp_gen (fun W => MvSt a p8 k w false 0 0 W ∧ LiesF W p10 (dgl s)) ⟨HS.out, HL.out⟩ ?_
      clear HS HL
      rintro W5 ⟨h5, h6⟩
      refine wp_region_storeK 12 [10] [62, 63, 64, 65, 66, 67, 68, 69, 70, 71, 7] (fun bs => [(62, .val (.int .i64 f)), (63, .val (.agg #[.int .u64 (dgl (a) 1 : Nat), .int .u64 (dgl (a) 0 : Nat)])), (64, .val (.bool ng)), (65, .val (.int .i64 (lo + ((fd : Int) - 1)))), (66, .val (.int .i64 by_)), (67, .val (.int .i64 ((lo + ((fd : Int) - 1)) - by_))), (68, .val (.agg #[.int .u64 (dgl (s) 0 : Nat), .int .u64 (dgl (s) 1 : Nat), .int .u64 (dgl (s) 2 : Nat), .int .u64 (dgl (s) 3 : Nat), .int .u64 (dgl (s) 4 : Nat), .int .u64 (dgl (s) 5 : Nat), .int .u64 (dgl (s) 6 : Nat), .int .u64 (dgl (s) 7 : Nat)])), (69, .val (.int .i64 by_)), (70, .val (.agg #[.int .u64 (dgl (t) 0 : Nat), .int .u64 (dgl (t) 1 : Nat), .int .u64 (dgl (t) 2 : Nat), .int .u64 (dgl (t) 3 : Nat), .int .u64 (dgl (t) 4 : Nat), .int .u64 (dgl (t) 5 : Nat), .int .u64 (dgl (t) 6 : Nat), .int .u64 (dgl (t) 7 : Nat)])), (71, .val (.agg #[.bool (ng), .int .i64 ((lo + ((fd : Int) - 1)) - by_), .int .u64 (dgl (t) 0 : Nat), .int .u64 (dgl (t) 1 : Nat), .int .u64 (dgl (t) 2 : Nat), .int .u64 (dgl (t) 3 : Nat), .int .u64 (dgl (t) 4 : Nat), .int .u64 (dgl (t) 5 : Nat), .int .u64 (dgl (t) 6 : Nat), .int .u64 (dgl (t) 7 : Nat)])), (7, .val (.bool true))])
        (fun bs W => ∀ c, bs.headD false = c → MvSt a p8 k w (bif c then ng else false) (bif c then (lo + ((fd : Int) - 1)) - by_ else 0) (bif c then t else 0) W ∧ LiesF W p10 (dgl s)) (fun bs => rfl) mixedOk (by kernel_rfl) (by kernel_rfl) (by kernel_rfl) (fun c hc => by subst hc; exact ⟨h5.below (Below.refl _ _).drew, h6.below (Below.refl _ _).drew⟩) (fun bs W W' h hb c hc => ⟨(h c hc).1.below hb, (h c hc).2.below hb⟩) ?_ ?_
      · refine kSt rfl (fun φ hφ => gStep_run rfl (gRun_move 0 62 (.inl rfl) rfl (by decide +kernel) (fun v w h => h))) ?_
        refine kSt rfl (fun φ hφ => gStep_run rfl ?_) ?_
        · intro ρ W hC hc hf hL
          have e4 : ρ (.tmp 4) = .pointer (some ⟨w.heap.size, 0, none⟩) := hL 4 (by decide +kernel)
          have hφ0 : φ 10 = false := hφ 10 (by simp) (by kernel_rfl)
          have hD : MvSt a p8 k w false 0 0 W ∧ LiesF W p10 (dgl s) := hC false hφ0
          have l0 := hD.1.wa.h
          have l1 := hD.1.wa.l
          simp [go_sem, hc, hf, e4, l0, l1]
          exact ⟨Below.refl _ _, rfl⟩
        refine kSt rfl (fun φ hφ => gStep_run rfl ?_) ?_
        · intro ρ W hC hc hf hL
          have e62 : ρ (.tmp 62) = .int .i64 f := hL 62 (by decide +kernel)
          have e63 : ρ (.tmp 63) = .agg #[.int .u64 (dgl (a) 1 : Nat), .int .u64 (dgl (a) 0 : Nat)] := hL 63 (by decide +kernel)
          have hφ0 : φ 10 = false := hφ 10 (by simp) (by kernel_rfl)
          have hD : MvSt a p8 k w false 0 0 W ∧ LiesF W p10 (dgl s) := hC false hφ0
          simp [go_sem, hc, hf, e62, e63]
          refine (HNG.out W hD.1.g).mono ?_
          rintro e w' ⟨rfl, hb⟩
          exact ⟨_, rfl, by first | exact hb | (subst hb; exact Below.refl _ _), rfl⟩
        refine kSt rfl (fun φ hφ => gStep_run rfl (gRun_move 11 65 (.inl rfl) rfl (by decide +kernel) (fun v w h => h))) ?_
        refine kSt rfl (fun φ hφ => gStep_run rfl (gRun_move 13 66 (.inl rfl) rfl (by decide +kernel) (fun v w h => h))) ?_
        refine kSt rfl (fun φ hφ => gStep_run rfl ?_) ?_
        · intro ρ W hC hc hf hL
          have e65 : ρ (.tmp 65) = .int .i64 (lo + ((fd : Int) - 1)) := hL 65 (by decide +kernel)
          have e66 : ρ (.tmp 66) = .int .i64 by_ := hL 66 (by decide +kernel)
          have l0 := HW2.out
          simp [go_sem, hc, hf, e65, e66, l0]
          exact ⟨Below.refl _ _, rfl⟩
        refine kSt rfl (fun φ hφ => gStep_run rfl ?_) ?_
        · intro ρ W hC hc hf hL
          have e10 : ρ (.tmp 10) = .pointer (some ⟨p10, 0, none⟩) := hL 10 (by decide +kernel)
          have hφ0 : φ 10 = false := hφ 10 (by simp) (by kernel_rfl)
          have hD : MvSt a p8 k w false 0 0 W ∧ LiesF W p10 (dgl s) := hC false hφ0
          have l0 := hD.2.1
          simp [go_sem, hc, hf, e10, l0]
          exact ⟨Below.refl _ _, rfl⟩
        refine kSt rfl (fun φ hφ => gStep_run rfl (gRun_move 13 69 (.inl rfl) rfl (by decide +kernel) (fun v w h => h))) ?_
        refine kSt rfl (fun φ hφ => gStep_run rfl ?_) ?_
        · intro ρ W hC hc hf hL
          have e68 : ρ (.tmp 68) = .agg #[.int .u64 (dgl (s) 0 : Nat), .int .u64 (dgl (s) 1 : Nat), .int .u64 (dgl (s) 2 : Nat), .int .u64 (dgl (s) 3 : Nat), .int .u64 (dgl (s) 4 : Nat), .int .u64 (dgl (s) 5 : Nat), .int .u64 (dgl (s) 6 : Nat), .int .u64 (dgl (s) 7 : Nat)] := hL 68 (by decide +kernel)
          have e69 : ρ (.tmp 69) = .int .i64 by_ := hL 69 (by decide +kernel)
          simp [go_sem, hc, hf, e68, e69]
          refine (HSH.out W).mono ?_
          rintro e w' ⟨rfl, hb⟩
          exact ⟨_, rfl, by first | exact hb | (subst hb; exact Below.refl _ _), rfl⟩
        refine kSt rfl (fun φ hφ => gStep_run rfl ?_) ?_
        · intro ρ W hC hc hf hL
          have e64 : ρ (.tmp 64) = .bool ng := hL 64 (by decide +kernel)
          have e67 : ρ (.tmp 67) = .int .i64 ((lo + ((fd : Int) - 1)) - by_) := hL 67 (by decide +kernel)
          have e70 : ρ (.tmp 70) = .agg #[.int .u64 (dgl (t) 0 : Nat), .int .u64 (dgl (t) 1 : Nat), .int .u64 (dgl (t) 2 : Nat), .int .u64 (dgl (t) 3 : Nat), .int .u64 (dgl (t) 4 : Nat), .int .u64 (dgl (t) 5 : Nat), .int .u64 (dgl (t) 6 : Nat), .int .u64 (dgl (t) 7 : Nat)] := hL 70 (by decide +kernel)
          simp [go_sem, hc, hf, e64, e67, e70]
          exact ⟨Below.refl _ _, rfl⟩
        refine kStS rfl ⟨rfl, rfl, ?_⟩ ?_
        · intro φ ρ W hφ hC hc hL
          have e6 : ρ (.tmp 6) = .pointer (some ⟨w.heap.size + 1, 0, none⟩) := hL 6 (by decide +kernel)
          have e71 : ρ (.tmp 71) = .agg #[.bool (ng), .int .i64 ((lo + ((fd : Int) - 1)) - by_), .int .u64 (dgl (t) 0 : Nat), .int .u64 (dgl (t) 1 : Nat), .int .u64 (dgl (t) 2 : Nat), .int .u64 (dgl (t) 3 : Nat), .int .u64 (dgl (t) 4 : Nat), .int .u64 (dgl (t) 5 : Nat), .int .u64 (dgl (t) 6 : Nat), .int .u64 (dgl (t) 7 : Nat)] := hL 71 (by decide +kernel)
          have hD : MvSt a p8 k w false 0 0 W ∧ LiesF W p10 (dgl s) := hC false hφ
          have rn := hD.1.r.n
          have re := hD.1.r.e
          have r0 := hD.1.r.x0
          have r1 := hD.1.r.x1
          have r2 := hD.1.r.x2
          have r3 := hD.1.r.x3
          have r4 := hD.1.r.x4
          have r5 := hD.1.r.x5
          have r6 := hD.1.r.x6
          have r7 := hD.1.r.x7
          have hrf := hD.1.fr
          have hrl := hD.1.r.lt
          refine gUpon_of ((((((((((W.setCell ⟨w.heap.size + 1, 0, none⟩ (.bool (ng))).setCell ⟨w.heap.size + 1, 1, none⟩ (.int .i64 ((lo + ((fd : Int) - 1)) - by_))).setCell ⟨w.heap.size + 1, 2, none⟩ (.int .u64 (dgl (t) 0 : Nat))).setCell ⟨w.heap.size + 1, 3, none⟩ (.int .u64 (dgl (t) 1 : Nat))).setCell ⟨w.heap.size + 1, 4, none⟩ (.int .u64 (dgl (t) 2 : Nat))).setCell ⟨w.heap.size + 1, 5, none⟩ (.int .u64 (dgl (t) 3 : Nat))).setCell ⟨w.heap.size + 1, 6, none⟩ (.int .u64 (dgl (t) 4 : Nat))).setCell ⟨w.heap.size + 1, 7, none⟩ (.int .u64 (dgl (t) 5 : Nat))).setCell ⟨w.heap.size + 1, 8, none⟩ (.int .u64 (dgl (t) 6 : Nat))).setCell ⟨w.heap.size + 1, 9, none⟩ (.int .u64 (dgl (t) 7 : Nat))) ?_ (fun _ => ?_)
          · simp [go_sem, hc, e6, e71, hrf, hrl, rn, re, r0, r1, r2, r3, r4, r5, r6, r7, gUpon]
          have hs10 := below_set10 (Below.refl (w.heap.size + 1) W) (w.heap.size + 1) (Nat.le_refl _) ng ((lo + ((fd : Int) - 1)) - by_) t
          refine ⟨fun c hc => ?_, fun t => (tbl_imp rfl (fun _ => val_imp) (tbl_imp rfl (fun _ => val_imp) (tbl_imp rfl (fun _ => val_imp) (tbl_imp rfl (fun _ => val_imp) (tbl_imp rfl (fun _ => val_imp) (tbl_imp rfl (fun _ => val_imp) (tbl_imp rfl (fun _ => val_imp) (tbl_imp rfl (fun _ => val_imp) (tbl_imp rfl (fun _ => val_imp) (tbl_imp rfl (fun _ => val_imp) (tbl_imp rfl (fun _ => val_imp) tbl_nil_imp)))))))))))⟩
          have hc2 : (φ 10 || true) = c := hc
          rw [Bool.or_true] at hc2
          subst hc2
          exact ⟨hD.1.setR ng ((lo + ((fd : Int) - 1)) - by_) t, lies_set10 hD.2 (by have h1 := hD.1.lo; have h2 := HN2.out; omega)⟩
        refine kSt rfl (fun φ hφ => gStep_run rfl (gRun_const _ 7 (.inr rfl) rfl (fun w => rfl))) ?_
        exact kSt0
      · intro W hC
        refine gFi 62 rfl ?_
        rintro _ rfl
        refine gFi 63 rfl ?_
        rintro _ rfl
        refine gFi 64 rfl ?_
        rintro _ rfl
        refine gFi 65 rfl ?_
        rintro _ rfl
        refine gFi 66 rfl ?_
        rintro _ rfl
        refine gFi 67 rfl ?_
        rintro _ rfl
        refine gFi 68 rfl ?_
        rintro _ rfl
        refine gFi 69 rfl ?_
        rintro _ rfl
        refine gFi 70 rfl ?_
        rintro _ rfl
        refine gFi 71 rfl ?_
        rintro _ rfl
        refine gFiN rfl ?_
        refine gFi 7 rfl ?_
        rintro _ rfl
        refine gFi0 ?_
        simp only [List.drop_succ_cons, List.drop_zero, Act.put, List.setIfInBounds_toArray, List.set_cons_succ, List.set_cons_zero]
        have HC := hide (hC true rfl).1
        clear hC h5 h6
        have rn := HC.out.r.n
        have re := HC.out.r.e
        have r0 := HC.out.r.x0
        have r1 := HC.out.r.x1
        have r2 := HC.out.r.x2
        have r3 := HC.out.r.x3
        have r4 := HC.out.r.x4
        have r5 := HC.out.r.x5
        have r6 := HC.out.r.x6
        have r7 := HC.out.r.x7
        simp only [cond_true] at rn re r0 r1 r2 r3 r4 r5 r6 r7
        have hrl := HC.out.r.lt
        have HB := hide HC.out.bel
        clear HC
        go_wp2
        exact bodyPost_ret (v := .tuple #[.agg #[.bool (ng), .int .i64 ((lo + ((fd : Int) - 1)) - by_), .int .u64 (dgl (t) 0 : Nat), .int .u64 (dgl (t) 1 : Nat), .int .u64 (dgl (t) 2 : Nat), .int .u64 (dgl (t) 3 : Nat), .int .u64 (dgl (t) 4 : Nat), .int .u64 (dgl (t) 5 : Nat), .int .u64 (dgl (t) 6 : Nat), .int .u64 (dgl (t) 7 : Nat)], .bool true]) (by simp [results, Tryd.results79, go_sem, hrl, rn, re, r0, r1, r2, r3, r4, r5, r6, r7]) rfl ⟨rfl, HB.out⟩

end Go.Proofs.YtpcjdllijkjdkaaDoor

/- Contracts: the closures of unpack.Value and Unpack; unpack.Value, Unpack, at any format. -/
set_option linter.unusedVariables false
set_option linter.unusedSimpArgs false
set_option maxRecDepth 8000
namespace Go.Proofs.YtpcjdllijkjdkaaDoor
open Go.RowKit Plain

def kU (f : Int) : Nat → Int := tU f (fun i => ([16, 11, 15, -14, 5] : List Int).getD i 0) (fun i => ([32, 24, 127, -126, 8] : List Int).getD i 0) (fun i => ([64, 53, 1023, -1022, 11] : List Int).getD i 0) (fun i => ([128, 113, 16383, -16382, 15] : List Int).getD i 0) (fun _ => 0)
def prU (f : Int) : Nat := tU f 11 24 53 113 0
def loU (f : Int) : Int := tU f (-24) (-149) (-1074) (-16494) 0
def sigU (f : Int) (a : Nat) : Nat := if fldU f a = 0 then frcU f a else frcU f a + 2 ^ (prU f - 1)
def expU (f : Int) (a : Nat) : Int := if fldU f a = 0 then loU f else loU f + ((fldU f a : Int) - 1)
theorem of_u (f : Int) (h : 1 ≤ f ∧ f ≤ 4) (w : World) (hg : FmtG w) : Calls Tryd.prog 47 #[.int .i64 f] w fun e w' => e = .returned (.tuple #[.agg #[.int .i64 (kU f 0), .int .i64 (kU f 1), .int .i64 (kU f 2), .int .i64 (kU f 3), .int .i64 (kU f 4)], .bool true]) ∧ Below w.heap.size w w' := by
  rcases f_cases f with rfl | rfl | rfl | rfl | h0
  · exact of_1 w hg
  · exact of_2 w hg
  · exact of_3 w hg
  · exact of_4 w hg
  · omega
theorem low_u (f : Int) (h : 1 ≤ f ∧ f ≤ 4) (w : World) : Calls Tryd.prog 50 #[.agg #[.int .i64 (kU f 0), .int .i64 (kU f 1), .int .i64 (kU f 2), .int .i64 (kU f 3), .int .i64 (kU f 4)]] w fun e w' => e = .returned (.int .i64 (loU f)) ∧ Below w.heap.size w w' := by
  rcases f_cases f with rfl | rfl | rfl | rfl | h0
  · exact low_1 w
  · exact low_2 w
  · exact low_3 w
  · exact low_4 w
  · omega
theorem kU_1 (f : Int) (h : 1 ≤ f ∧ f ≤ 4) : kU f 1 = (prU f : Int) := by
  rcases f_cases f with rfl | rfl | rfl | rfl | h0
  · rfl
  · rfl
  · rfl
  · rfl
  · omega
theorem prU_bd (f : Int) (h : 1 ≤ f ∧ f ≤ 4) : 11 ≤ prU f ∧ prU f ≤ 113 := by
  rcases f_cases f with rfl | rfl | rfl | rfl | h0
  · decide
  · decide
  · decide
  · decide
  · omega
theorem loU_bd (f : Int) : -20000 ≤ loU f ∧ loU f ≤ 0 := by
  unfold loU tU
  repeat' split
  all_goals decide
theorem fldU_le (f : Int) (a : Nat) : fldU f a ≤ 32767 := by
  unfold fldU tU fldN
  repeat' split
  all_goals omega
theorem cls_form {f : Int} {a : Nat} (h : clsU f a ≠ 0) : 1 ≤ f ∧ f ≤ 4 := by
  refine Classical.byContradiction fun h0 => h ?_
  exact tU_none f (by omega) _ _ _ _ _
theorem frcU_lt (f : Int) (a : Nat) (h : 1 ≤ f ∧ f ≤ 4) : frcU f a < 2 ^ (prU f - 1) := by
  rcases f_cases f with rfl | rfl | rfl | rfl | h0
  · show frcN 16 11 a < 2 ^ 10
    unfold frcN; split
    · exact Nat.mod_lt _ (by decide)
    · decide
  · show frcN 32 24 a < 2 ^ 23
    unfold frcN; split
    · exact Nat.mod_lt _ (by decide)
    · decide
  · show frcN 64 53 a < 2 ^ 52
    unfold frcN; split
    · exact Nat.mod_lt _ (by decide)
    · decide
  · show frcN 128 113 a < 2 ^ 112
    unfold frcN; split
    · exact Nat.mod_lt _ (by decide)
    · decide
  · omega
theorem sigU_lt (f : Int) (a : Nat) (h : 1 ≤ f ∧ f ≤ 4) : sigU f a < 2 ^ prU f := by
  have h1 := frcU_lt f a h
  have h2 := (prU_bd f h).1
  have h3 : 2 ^ prU f = 2 * 2 ^ (prU f - 1) := by rw [← Nat.pow_succ']; congr 1; omega
  unfold sigU
  split <;> omega
theorem pow_qq (n : Nat) (h : n ≤ 200) : 2 ^ n < QQ := by
  have h1 : (2 : Nat) ^ n ≤ 2 ^ 200 := Nat.pow_le_pow_right (by decide) h
  have h2 : 2 ^ 200 < QQ := by decide +kernel
  omega
theorem sigU_qq (f : Int) (a : Nat) (h : 1 ≤ f ∧ f ≤ 4) : sigU f a < QQ := by
  have h1 := sigU_lt f a h
  have h2 := pow_qq (prU f) (by have := (prU_bd f h).2; omega)
  omega

set_option maxHeartbeats 1000000 in
theorem valC1_any (k : Nat → Int) (s : Nat) (w : World) : Calls Tryd.prog 80 #[.agg #[.int .i64 (k 0), .int .i64 (k 1), .int .i64 (k 2), .int .i64 (k 3), .int .i64 (k 4)], .agg #[.int .u64 (dgl (s) 0 : Nat), .int .u64 (dgl (s) 1 : Nat), .int .u64 (dgl (s) 2 : Nat), .int .u64 (dgl (s) 3 : Nat), .int .u64 (dgl (s) 4 : Nat), .int .u64 (dgl (s) 5 : Nat), .int .u64 (dgl (s) 6 : Nat), .int .u64 (dgl (s) 7 : Nat)]] w fun e w' => e = .returned (.tuple #[.int .i64 0, .bool true]) ∧ Below w.heap.size w w' := by
  go_enter Tryd.func80, Tryd.ntmps80
  go_wp2
  exact bodyPost_ret (v := .tuple #[.int .i64 0, .bool true]) (by simp [results, Tryd.results80, go_sem]) rfl ⟨rfl, below_trans (below_allocs _ _) (below_allocs _ _)⟩
theorem shl_num (s n : Nat) (h : n ≤ 512) (hs : s < QQ) (w : World) : Calls Tryd.prog 107 #[.agg #[.int .u64 (dgl (s) 0 : Nat), .int .u64 (dgl (s) 1 : Nat), .int .u64 (dgl (s) 2 : Nat), .int .u64 (dgl (s) 3 : Nat), .int .u64 (dgl (s) 4 : Nat), .int .u64 (dgl (s) 5 : Nat), .int .u64 (dgl (s) 6 : Nat), .int .u64 (dgl (s) 7 : Nat)], .int .i64 (n : Nat)] w fun e w' => e = .returned (.agg #[.int .u64 (dgl (s * 2 ^ n) 0 : Nat), .int .u64 (dgl (s * 2 ^ n) 1 : Nat), .int .u64 (dgl (s * 2 ^ n) 2 : Nat), .int .u64 (dgl (s * 2 ^ n) 3 : Nat), .int .u64 (dgl (s * 2 ^ n) 4 : Nat), .int .u64 (dgl (s * 2 ^ n) 5 : Nat), .int .u64 (dgl (s * 2 ^ n) 6 : Nat), .int .u64 (dgl (s * 2 ^ n) 7 : Nat)]) ∧ Below w.heap.size w w' := by
  have h1 := wideShl_any s (n : Int) hs w
  rw [show roomI (n : Int) = (n : Int) by unfold roomI; omega, sh_up] at h1
  exact h1

theorem pow_num (n : Nat) (x : Int) (h : n ≤ 512) (hx : x = (n : Int)) (w : World) : Calls Tryd.prog 55 #[.int .i64 x] w fun e w' => e = .returned (.agg #[.int .u64 (dgl (2 ^ n) 0 : Nat), .int .u64 (dgl (2 ^ n) 1 : Nat), .int .u64 (dgl (2 ^ n) 2 : Nat), .int .u64 (dgl (2 ^ n) 3 : Nat), .int .u64 (dgl (2 ^ n) 4 : Nat), .int .u64 (dgl (2 ^ n) 5 : Nat), .int .u64 (dgl (2 ^ n) 6 : Nat), .int .u64 (dgl (2 ^ n) 7 : Nat)]) ∧ Below w.heap.size w w' := by
  subst hx
  have h1 := widePower_any (n : Int) (by omega) w
  rw [show roomI (n : Int) = (n : Int) by unfold roomI; omega, sh_up, Nat.one_mul] at h1
  exact h1

theorem umoved_yes (f : Int) (a : Nat) (ha : a < 2 ^ 128) (h4 : 4 ≤ clsU f a) (fid b : Nat) (hent : ∀ args w, (callFunc fid args).run Tryd.prog w = .ok (.enter fid args) w) (hb : b ≤ 113)
    (HUP : ∀ w, Calls Tryd.prog fid #[.agg #[.int .i64 (kU f 0), .int .i64 (kU f 1), .int .i64 (kU f 2), .int .i64 (kU f 3), .int .i64 (kU f 4)], .agg #[.int .u64 (dgl (sigU f a) 0 : Nat), .int .u64 (dgl (sigU f a) 1 : Nat), .int .u64 (dgl (sigU f a) 2 : Nat), .int .u64 (dgl (sigU f a) 3 : Nat), .int .u64 (dgl (sigU f a) 4 : Nat), .int .u64 (dgl (sigU f a) 5 : Nat), .int .u64 (dgl (sigU f a) 6 : Nat), .int .u64 (dgl (sigU f a) 7 : Nat)]] w fun e w' => e = .returned (.tuple #[.int .i64 (b : Nat), .bool true]) ∧ Below w.heap.size w w') (w : World) (hg : FmtG w) :
    Calls Tryd.prog 79 #[.int .i64 f, .agg #[.int .u64 (dgl (a) 1 : Nat), .int .u64 (dgl (a) 0 : Nat)], .func (.func fid) #[] #[]] w fun e w' => e = .returned (.tuple #[.agg #[.bool (negU f a), .int .i64 (expU f a - (b : Nat)), .int .u64 (dgl (sigU f a * 2 ^ b) 0 : Nat), .int .u64 (dgl (sigU f a * 2 ^ b) 1 : Nat), .int .u64 (dgl (sigU f a * 2 ^ b) 2 : Nat), .int .u64 (dgl (sigU f a * 2 ^ b) 3 : Nat), .int .u64 (dgl (sigU f a * 2 ^ b) 4 : Nat), .int .u64 (dgl (sigU f a * 2 ^ b) 5 : Nat), .int .u64 (dgl (sigU f a * 2 ^ b) 6 : Nat), .int .u64 (dgl (sigU f a * 2 ^ b) 7 : Nat)], .bool true]) ∧ Below w.heap.size w w' := by
  have hf : 1 ≤ f ∧ f ≤ 4 := cls_form (a := a) (by omega)
  have HO := fun w hg => of_u f hf w hg
  have HFI := fun w hg => cfin_u f a ha w hg
  rw [decide_eq_true h4] at HFI
  have HFR := fun w hg => cfrac_u f a ha w hg
  have HLO := fun w => low_u f hf w
  have HFD := fun w hg => cfld_u f a ha w hg
  have HNG := fun w hg => cneg_u f a ha w hg
  have hlo := loU_bd f
  have hfd := fldU_le f a
  have hk := kU_1 f hf
  have hp := prU_bd f hf
  have hq := sigU_qq f a hf
  have hr := frcU_lt f a hf
  have hrq := Nat.lt_trans hr (pow_qq (prU f - 1) (by omega))
  have HSH := fun w => shl_num (sigU f a) b (by omega) hq w
  by_cases h0 : fldU f a = 0
  · have es : sigU f a = frcU f a := if_pos h0
    have ee : expU f a = loU f := if_pos h0
    rw [es] at HUP HSH
    rw [es, ee]
    rw [h0] at HFD
    exact moved_C1 f (loU f) (b : Nat) (kU f) a (frcU f a) 0 0 0 (frcU f a * 2 ^ b) fid false (negU f a) (.bool false) HO HFI HFR HLO HFD hlo hent HUP HNG HSH (by unfold Hid; rw [IntKind.wrap_i64]; omega) w hg
  · have es : sigU f a = frcU f a + 2 ^ (prU f - 1) := if_neg h0
    have ee : expU f a = loU f + ((fldU f a : Int) - 1) := if_neg h0
    have HPW := fun w => pow_num (prU f - 1) (kU f 1 - 1) (by omega) (by rw [hk]; omega) w
    have HAD := fun w => wideAdd_any (frcU f a) (2 ^ (prU f - 1)) hrq (pow_qq _ (by omega)) w
    rw [es] at HUP HSH
    rw [es, ee]
    exact moved_D1 f (loU f) (b : Nat) (kU f) a (frcU f a) (fldU f a) (2 ^ (prU f - 1)) (frcU f a + 2 ^ (prU f - 1)) ((frcU f a + 2 ^ (prU f - 1)) * 2 ^ b) fid _ (negU f a) (.bool false) HO HFI HFR HLO HFD hlo
      (by unfold Hid; rw [bne_iff_ne]; omega) (by omega) (by unfold Hid; rw [hk, IntKind.wrap_i64]; omega) HPW HAD hent HUP HNG HSH (by unfold Hid; rw [IntKind.wrap_i64]; omega) w hg

set_option maxHeartbeats 1000000 in
theorem uval_pass (f : Int) (a s : Nat) (n b : Bool) (z : Int) (HM : Hid (∀ w, FmtG w → Calls Tryd.prog 79 #[.int .i64 f, .agg #[.int .u64 (dgl (a) 1 : Nat), .int .u64 (dgl (a) 0 : Nat)], .func (.func 80) #[] #[]] w fun e w' => e = .returned (.tuple #[.agg #[.bool (n), .int .i64 (z), .int .u64 (dgl (s) 0 : Nat), .int .u64 (dgl (s) 1 : Nat), .int .u64 (dgl (s) 2 : Nat), .int .u64 (dgl (s) 3 : Nat), .int .u64 (dgl (s) 4 : Nat), .int .u64 (dgl (s) 5 : Nat), .int .u64 (dgl (s) 6 : Nat), .int .u64 (dgl (s) 7 : Nat)], .bool b]) ∧ Below w.heap.size w w')) (w : World) (hg : FmtG w) :
    Calls Tryd.prog 32 #[.int .i64 f, .agg #[.int .u64 (dgl (a) 1 : Nat), .int .u64 (dgl (a) 0 : Nat)]] w fun e w' => e = .returned (.tuple #[.agg #[.bool (n), .int .i64 (z), .int .u64 (dgl (s) 0 : Nat), .int .u64 (dgl (s) 1 : Nat), .int .u64 (dgl (s) 2 : Nat), .int .u64 (dgl (s) 3 : Nat), .int .u64 (dgl (s) 4 : Nat), .int .u64 (dgl (s) 5 : Nat), .int .u64 (dgl (s) 6 : Nat), .int .u64 (dgl (s) 7 : Nat)], .bool b]) ∧ Below w.heap.size w w' := by
  have HS := hide (mv0_start a w hg)
  clear hg
  go_enter Tryd.func32, Tryd.ntmps32
  go_upto_region 1 with fail
  refine wp_gen (fun W => Mv0 a w W) HS.out ?_
  clear HS
  rintro W1 h1
  have HS := hide h1
  have l0 := h1.wa.h
  have l1 := h1.wa.l
  clear h1
  go_wp2_with fail
  refine (HM.out _ HS.out.g).mono ?_
  rintro e w1 ⟨rfl, hb1⟩
  replace HS := hide (HS.out.below hb1)
  clear hb1 l0 l1
  have HB := hide HS.out.bel
  have rn := HS.out.r.n
  have re := HS.out.r.e
  have r0 := HS.out.r.x0
  have r1 := HS.out.r.x1
  have r2 := HS.out.r.x2
  have r3 := HS.out.r.x3
  have r4 := HS.out.r.x4
  have r5 := HS.out.r.x5
  have r6 := HS.out.r.x6
  have r7 := HS.out.r.x7
  have hrf := HS.out.fr
  have hrl := HS.out.r.lt
  clear HS
  go_wp2
  exact bodyPost_ret (v := .tuple #[.agg #[.bool (n), .int .i64 (z), .int .u64 (dgl (s) 0 : Nat), .int .u64 (dgl (s) 1 : Nat), .int .u64 (dgl (s) 2 : Nat), .int .u64 (dgl (s) 3 : Nat), .int .u64 (dgl (s) 4 : Nat), .int .u64 (dgl (s) 5 : Nat), .int .u64 (dgl (s) 6 : Nat), .int .u64 (dgl (s) 7 : Nat)], .bool b]) (by simp [results, Tryd.results32, go_sem, hrl, rn, re, r0, r1, r2, r3, r4, r5, r6, r7]) rfl ⟨rfl, ((((((((((HB.out.setCell (p := ⟨w.heap.size + 1, 0, none⟩) (Nat.le_succ _) _).setCell (p := ⟨w.heap.size + 1, 1, none⟩) (Nat.le_succ _) _).setCell (p := ⟨w.heap.size + 1, 2, none⟩) (Nat.le_succ _) _).setCell (p := ⟨w.heap.size + 1, 3, none⟩) (Nat.le_succ _) _).setCell (p := ⟨w.heap.size + 1, 4, none⟩) (Nat.le_succ _) _).setCell (p := ⟨w.heap.size + 1, 5, none⟩) (Nat.le_succ _) _).setCell (p := ⟨w.heap.size + 1, 6, none⟩) (Nat.le_succ _) _).setCell (p := ⟨w.heap.size + 1, 7, none⟩) (Nat.le_succ _) _).setCell (p := ⟨w.heap.size + 1, 8, none⟩) (Nat.le_succ _) _).setCell (p := ⟨w.heap.size + 1, 9, none⟩) (Nat.le_succ _) _)⟩

/-- unpack.Value. -/
theorem uval_yes (f : Int) (a : Nat) (ha : a < 2 ^ 128) (h4 : 4 ≤ clsU f a) (w : World) (hg : FmtG w) : Calls Tryd.prog 32 #[.int .i64 f, .agg #[.int .u64 (dgl (a) 1 : Nat), .int .u64 (dgl (a) 0 : Nat)]] w fun e w' => e = .returned (.tuple #[.agg #[.bool (negU f a), .int .i64 (expU f a), .int .u64 (dgl (sigU f a) 0 : Nat), .int .u64 (dgl (sigU f a) 1 : Nat), .int .u64 (dgl (sigU f a) 2 : Nat), .int .u64 (dgl (sigU f a) 3 : Nat), .int .u64 (dgl (sigU f a) 4 : Nat), .int .u64 (dgl (sigU f a) 5 : Nat), .int .u64 (dgl (sigU f a) 6 : Nat), .int .u64 (dgl (sigU f a) 7 : Nat)], .bool true]) ∧ Below w.heap.size w w' := by
  have h := fun w hg => umoved_yes f a ha h4 80 0 (enters_of Tryd.func80 (by kernel_rfl) rfl) (by omega) (fun w => valC1_any _ _ w) w hg
  rw [show expU f a - ((0 : Nat) : Int) = expU f a by omega, Nat.pow_zero, Nat.mul_one] at h
  exact uval_pass f a _ _ _ _ h w hg
end Go.Proofs.YtpcjdllijkjdkaaDoor

/- Contracts: law07.awake; the document's numbers of any length: Of, Size. -/
set_option linter.unusedVariables false
set_option linter.unusedSimpArgs false
set_option maxRecDepth 8000
namespace Go.Proofs.YtpcjdllijkjdkaaDoor
open Go.RowKit Plain

end Go.Proofs.YtpcjdllijkjdkaaDoor

