/- Contracts and laws: Plain, View, RefA, RefB, RefC. -/
import Derived.Test.YtidfegilddlglaaDoorRows
import Derived.WalkKit
import Derived.WalkSpells
import Derived.WalkLawsBesides
import Derived.Deep.RegionLaw
import Derived.Deep.QuietTactic
import Derived.BigQuiet
import Derived.OpenShut
/- Plain mathematics on naturals and lists of digits: nothing of the program is named here. -/
set_option linter.unusedVariables false
set_option linter.unusedSimpArgs false
set_option maxRecDepth 8000
namespace Go.Proofs.YtidfegilddlglaaDoor.Plain

theorem split_mul (x1 x0 y1 y0 K : Nat) : (x1 * K + x0) * (y1 * K + y0) = x1 * y1 * (K * K) + (x1 * y0 + x0 * y1) * K + x0 * y0 := by
  simp only [Nat.mul_add, Nat.mul_comm, Nat.mul_left_comm]
  omega

theorem half_mul {a b : Nat} (ha : a ≤ 4294967295) (hb : b ≤ 4294967295) : a * b ≤ 18446744065119617025 := Nat.mul_le_mul ha hb

theorem mul_halves (x y : Nat) (hx : x < 18446744073709551616) (hy : y < 18446744073709551616) :
    (x % 4294967296) * (y % 4294967296) < 18446744073709551616 ∧
    (x / 4294967296) * (y % 4294967296) + (x % 4294967296) * (y % 4294967296) / 4294967296 < 18446744073709551616 ∧
    ((x / 4294967296) * (y % 4294967296) + (x % 4294967296) * (y % 4294967296) / 4294967296) % 4294967296 + (x % 4294967296) * (y / 4294967296) < 18446744073709551616 ∧
    (x / 4294967296) * (y / 4294967296) + ((x / 4294967296) * (y % 4294967296) + (x % 4294967296) * (y % 4294967296) / 4294967296) / 4294967296 +
      (((x / 4294967296) * (y % 4294967296) + (x % 4294967296) * (y % 4294967296) / 4294967296) % 4294967296 + (x % 4294967296) * (y / 4294967296)) / 4294967296 = x * y / 18446744073709551616 ∧
    (x / 4294967296) * (y / 4294967296) < 18446744073709551616 ∧ (x / 4294967296) * (y % 4294967296) < 18446744073709551616 ∧ (x % 4294967296) * (y / 4294967296) < 18446744073709551616 ∧
    x / 4294967296 * (y / 4294967296) + (x / 4294967296 * (y % 4294967296) + x % 4294967296 * (y % 4294967296) / 4294967296) / 4294967296 < 18446744073709551616 ∧
    x / 4294967296 * (y / 4294967296) + (x / 4294967296 * (y % 4294967296) + x % 4294967296 * (y % 4294967296) / 4294967296) / 4294967296 + ((x / 4294967296 * (y % 4294967296) + x % 4294967296 * (y % 4294967296) / 4294967296) % 4294967296 + x % 4294967296 * (y / 4294967296)) / 4294967296 < 18446744073709551616 := by
  have e : x * y = (x / 4294967296) * (y / 4294967296) * (4294967296 * 4294967296) + ((x / 4294967296) * (y % 4294967296) + (x % 4294967296) * (y / 4294967296)) * 4294967296 + (x % 4294967296) * (y % 4294967296) := by
    rw [← split_mul, Nat.div_add_mod' x 4294967296, Nat.div_add_mod' y 4294967296]
  have ha := half_mul (a := x / 4294967296) (b := y / 4294967296) (by omega) (by omega)
  have hb := half_mul (a := x / 4294967296) (b := y % 4294967296) (by omega) (by omega)
  have hc := half_mul (a := x % 4294967296) (b := y / 4294967296) (by omega) (by omega)
  have hd := half_mul (a := x % 4294967296) (b := y % 4294967296) (by omega) (by omega)
  rw [e]
  generalize (x / 4294967296) * (y / 4294967296) = a at *
  generalize (x / 4294967296) * (y % 4294967296) = b at *
  generalize (x % 4294967296) * (y / 4294967296) = c at *
  generalize (x % 4294967296) * (y % 4294967296) = d at *
  refine ⟨by omega, by omega, by omega, by omega, by omega, by omega, by omega, by omega, by omega⟩

/-- A digit; 0 beyond. -/
def dg (l : List Nat) (i : Nat) : Nat := l.getD i 0
theorem dg_eq (l : List Nat) (i : Nat) : dg l i = l.getD i 0 := rfl

/-- l are the digits of n to the base β, the lowest first. -/
def Dig (β : Nat) (l : List Nat) (n : Nat) : Prop := n < β ^ l.length ∧ ∀ i, dg l i = n / β ^ i % β
/-- Without noughts at the end. -/
def Norm (β : Nat) (l : List Nat) (n : Nat) : Prop := l.length = 0 ∨ β ^ (l.length - 1) ≤ n

theorem getD_past (l : List Nat) (k : Nat) (h : l.length ≤ k) : dg l k = 0 := by
  rw [dg_eq, List.getD_eq_getElem?_getD, List.getElem?_eq_none h]; rfl

theorem getD_take (l : List Nat) (k i : Nat) : dg (l.take k) i = if i < k then dg l i else 0 := by
  rw [dg_eq, dg_eq, List.getD_eq_getElem?_getD, List.getD_eq_getElem?_getD, List.getElem?_take]
  split <;> simp

theorem getD_snoc (l : List Nat) (x i : Nat) : dg (l ++ [x]) i = if i = l.length then x else dg l i := by
  rw [dg_eq, dg_eq, List.getD_eq_getElem?_getD, List.getD_eq_getElem?_getD, List.getElem?_append]
  split
  · rw [if_neg (by omega)]
  · split
    · simp_all
    · rw [List.getElem?_eq_none (by simp; omega), List.getElem?_eq_none (by omega)]

theorem Dig.lt {β : Nat} {l : List Nat} {n : Nat} (h : Dig β l n) (hβ : 0 < β) (i : Nat) : dg l i < β := by
  rw [h.2 i]; exact Nat.mod_lt _ hβ

theorem div_pow_succ (n β k : Nat) : n / β ^ (k + 1) = n / β ^ k / β := by rw [Nat.pow_succ, Nat.div_div_eq_div_mul]

theorem lt_of_digit_zero {n β k : Nat} (hβ : 0 < β) (h : n < β ^ (k + 1)) (h0 : n / β ^ k % β = 0) : n < β ^ k := by
  have hp : 0 < β ^ k := Nat.pow_pos hβ
  have h1 : n / β ^ k < β := by rw [Nat.div_lt_iff_lt_mul hp]; rw [Nat.pow_succ, Nat.mul_comm] at h; exact h
  rw [Nat.mod_eq_of_lt h1] at h0
  rcases Nat.lt_or_ge n (β ^ k) with h2 | h2
  · exact h2
  · have := Nat.div_pos h2 hp; omega

theorem Dig.cut {β : Nat} {l : List Nat} {n : Nat} (hβ : 0 < β) (h : Dig β l n) (k : Nat) (hk : k ≤ l.length) (h0 : ∀ j, k ≤ j → dg l j = 0) : Dig β (l.take k) n := by
  have hlt : ∀ m, k ≤ m → m ≤ l.length → n < β ^ m → n < β ^ k := by
    intro m
    induction m with
    | zero => intro h1 _ h3; have : k = 0 := by omega
              subst this; exact h3
    | succ m ih =>
      intro h1 h2 h3
      rcases Nat.lt_or_ge m k with h4 | h4
      · have : k = m + 1 := by omega
        rw [this]; exact h3
      · exact ih h4 (by omega) (lt_of_digit_zero hβ h3 (by rw [← h.2 m]; exact h0 m h4))
  have hn : n < β ^ k := hlt l.length hk (Nat.le_refl _) h.1
  refine ⟨by rw [List.length_take, Nat.min_eq_left hk]; exact hn, fun i => ?_⟩
  rw [getD_take]
  split
  · exact h.2 i
  · rename_i hi
    rw [Nat.div_eq_of_lt (Nat.lt_of_lt_of_le hn (Nat.pow_le_pow_right hβ (by omega)))]
    simp

theorem Dig.norm {β : Nat} {l : List Nat} {n : Nat} (hβ : 0 < β) (h : Dig β l n) (h0 : l.length = 0 ∨ dg l (l.length - 1) ≠ 0) : Norm β l n := by
  rcases h0 with h0 | h0
  · exact .inl h0
  · refine .inr ?_
    rcases Nat.lt_or_ge n (β ^ (l.length - 1)) with h1 | h1
    · exfalso; apply h0; rw [h.2, Nat.div_eq_of_lt h1]; simp
    · exact h1

theorem div_split (n β j : Nat) : n / β ^ j = n / β ^ (j + 1) * β + n / β ^ j % β := by
  rw [div_pow_succ, Nat.mul_comm, Nat.div_add_mod]

theorem lt_of_div {n m p : Nat} (h : n / p < m / p) : n < m := by
  rcases Nat.lt_or_ge n m with h1 | h1
  · exact h1
  · have := Nat.div_le_div_right (c := p) h1; omega

/-- Which of two numbers is above. -/
def cmpN (n m : Nat) : Int := if n < m then -1 else if m < n then 1 else 0

theorem cmp_lt {n m β j : Nat} (h : n / β ^ (j + 1) = m / β ^ (j + 1)) (hd : n / β ^ j % β < m / β ^ j % β) : cmpN n m = -1 := by
  have h1 := div_split n β j
  have h2 := div_split m β j
  have : n < m := lt_of_div (p := β ^ j) (by rw [h1, h2, h]; omega)
  unfold cmpN; rw [if_pos this]

theorem cmp_gt {n m β j : Nat} (h : n / β ^ (j + 1) = m / β ^ (j + 1)) (hd : m / β ^ j % β < n / β ^ j % β) : cmpN n m = 1 := by
  have h1 := div_split n β j
  have h2 := div_split m β j
  have : m < n := lt_of_div (p := β ^ j) (by rw [h1, h2, h]; omega)
  unfold cmpN; rw [if_neg (by omega), if_pos this]

theorem cmp_step {n m β j : Nat} (h : n / β ^ (j + 1) = m / β ^ (j + 1)) (hd : n / β ^ j % β = m / β ^ j % β) : n / β ^ j = m / β ^ j := by
  have h1 := div_split n β j
  have h2 := div_split m β j
  rw [h1, h2, h]; omega

theorem cmp_eq {n m β : Nat} (h : n / β ^ 0 = m / β ^ 0) : cmpN n m = 0 := by
  simp at h; unfold cmpN; simp [h]

theorem div_zero_of {n β k l : Nat} (hβ : 0 < β) (h : n < β ^ l) (hk : l ≤ k) : n / β ^ k = 0 :=
  Nat.div_eq_of_lt (Nat.lt_of_lt_of_le h (Nat.pow_le_pow_right hβ hk))

/-- The lowest k digits of n. -/
def dl (β n k : Nat) : List Nat := (List.range k).map (fun j => n / β ^ j % β)
theorem dl_length (β n k : Nat) : (dl β n k).length = k := by simp [dl]
theorem dl_succ (β n k : Nat) : dl β n (k + 1) = dl β n k ++ [n / β ^ k % β] := by simp [dl, List.range_succ]
theorem dl_dig (β n k : Nat) (h : n < β ^ k) (hβ : 0 < β) : Dig β (dl β n k) n := by
  refine ⟨by rw [dl_length]; exact h, fun i => ?_⟩
  rcases Nat.lt_or_ge i k with hi | hi
  · simp [dg, dl, hi]
  · rw [getD_past _ _ (by rw [dl_length]; exact hi), Nat.div_eq_of_lt (Nat.lt_of_lt_of_le h (Nat.pow_le_pow_right hβ hi))]; simp

/-- What is carried of a sum behind k digits. -/
def carry (β n m k : Nat) : Nat := (n % β ^ k + m % β ^ k) / β ^ k
theorem carry_zero (β n m : Nat) : carry β n m 0 = 0 := by simp [carry, Nat.mod_one]
theorem carry_le {β n m k : Nat} (hβ : 0 < β) : carry β n m k ≤ 1 := by
  have hp : 0 < β ^ k := Nat.pow_pos hβ
  have h1 := Nat.mod_lt n hp
  have h2 := Nat.mod_lt m hp
  unfold carry
  have : (n % β ^ k + m % β ^ k) / β ^ k < 2 := by rw [Nat.div_lt_iff_lt_mul hp]; omega
  omega
theorem add_digit {β n m k : Nat} (hβ : 0 < β) : (carry β n m k + n / β ^ k % β + m / β ^ k % β) % β = (n + m) / β ^ k % β := by
  have hp : 0 < β ^ k := Nat.pow_pos hβ
  have e : (n + m) / β ^ k = n / β ^ k + m / β ^ k + carry β n m k := by
    have e1 : n + m = (n % β ^ k + m % β ^ k) + β ^ k * (n / β ^ k + m / β ^ k) := by
      have h1 := Nat.div_add_mod n (β ^ k)
      have h2 := Nat.div_add_mod m (β ^ k)
      rw [Nat.mul_add]; omega
    rw [e1, Nat.add_mul_div_left _ _ hp]
    unfold carry; omega
  rw [e, Nat.add_assoc, Nat.add_comm (carry β n m k), Nat.add_mod _ (carry β n m k), ← Nat.add_mod (n / β ^ k), ← Nat.add_mod]
theorem add_carry {β n m k : Nat} (hβ : 0 < β) : (carry β n m k + n / β ^ k % β + m / β ^ k % β) / β = carry β n m (k + 1) := by
  have hp : 0 < β ^ k := Nat.pow_pos hβ
  unfold carry
  rw [Nat.pow_succ, Nat.mod_mul, Nat.mod_mul, ← Nat.div_div_eq_div_mul]
  have e : n % β ^ k + β ^ k * (n / β ^ k % β) + (m % β ^ k + β ^ k * (m / β ^ k % β)) = (n % β ^ k + m % β ^ k) + β ^ k * (n / β ^ k % β + m / β ^ k % β) := by rw [Nat.mul_add]; omega
  rw [e, Nat.add_mul_div_left _ _ hp, Nat.add_assoc]
theorem add_fits {β n m a b k : Nat} (hβ : 2 ≤ β) (hn : n < β ^ a) (hm : m < β ^ b) (ha : a < k) (hb : b < k) : n + m < β ^ k := by
  have h1 : β ^ a ≤ β ^ (k - 1) := Nat.pow_le_pow_right (by omega) (by omega)
  have h2 : β ^ b ≤ β ^ (k - 1) := Nat.pow_le_pow_right (by omega) (by omega)
  have e : β ^ k = β ^ (k - 1) * β := by rw [← Nat.pow_succ]; congr 1; omega
  have h3 : β ^ (k - 1) * 2 ≤ β ^ (k - 1) * β := Nat.mul_le_mul_left _ hβ
  omega

/-- One limb of 64 bits is two digits of 32: of n to the base β * β. -/
theorem limb_digits (β n k : Nat) : n / (β * β) ^ k % (β * β) % β = n / β ^ (2 * k) % β ∧ n / (β * β) ^ k % (β * β) / β = n / β ^ (2 * k + 1) % β := by
  have e : (β * β) ^ k = β ^ (2 * k) := by rw [Nat.pow_mul, Nat.pow_two]
  rw [e, Nat.mod_mul_right_mod, Nat.mod_mul_right_div_self, div_pow_succ]
  exact ⟨rfl, rfl⟩

/-- What digits are worth. -/
def val (β : Nat) : List Nat → Nat
  | [] => 0
  | d :: l => d + β * val β l

theorem dg_cons_zero (d : Nat) (l : List Nat) : dg (d :: l) 0 = d := rfl
theorem dg_cons_succ (d : Nat) (l : List Nat) (i : Nat) : dg (d :: l) (i + 1) = dg l i := rfl

theorem val_dig {β : Nat} (hβ : 0 < β) : ∀ l : List Nat, (∀ i, dg l i < β) → Dig β l (val β l)
  | [], _ => ⟨by simp [val], fun i => by simp [val, dg]⟩
  | d :: l, h => by
    have ih := val_dig hβ l (fun i => h (i + 1))
    have hd : d < β := h 0
    refine ⟨?_, fun i => ?_⟩
    · show d + β * val β l < β ^ (l.length + 1)
      rw [Nat.pow_succ, Nat.mul_comm (β ^ l.length)]
      have h2 : β * (val β l + 1) ≤ β * β ^ l.length := Nat.mul_le_mul_left _ ih.1
      rw [Nat.mul_add] at h2; omega
    · cases i with
      | zero => simp [val, dg_cons_zero, Nat.mod_eq_of_lt hd]
      | succ i =>
        rw [dg_cons_succ, ih.2 i]
        show _ = (d + β * val β l) / β ^ (i + 1) % β
        rw [Nat.pow_succ, Nat.mul_comm (β ^ i), ← Nat.div_div_eq_div_mul, Nat.add_mul_div_left _ _ hβ, Nat.div_eq_of_lt hd, Nat.zero_add]

theorem dig_val {β : Nat} (hβ : 0 < β) : ∀ (l : List Nat) (n : Nat), Dig β l n → val β l = n
  | [], n, h => by have := h.1; simp at this; simp [val, this]
  | d :: l, n, h => by
    have h0 : d = n % β := by have := h.2 0; simpa [dg_cons_zero] using this
    have ih := dig_val hβ l (n / β) ⟨by
        have := h.1
        rw [List.length_cons, Nat.pow_succ] at this
        exact (Nat.div_lt_iff_lt_mul hβ).2 this, fun i => by
        have := h.2 (i + 1)
        rw [dg_cons_succ, Nat.pow_succ, Nat.mul_comm (β ^ i), ← Nat.div_div_eq_div_mul] at this
        exact this⟩
    show d + β * val β l = n
    rw [ih, h0, Nat.mod_add_div]

theorem dg_set (l : List Nat) (j y i : Nat) (hj : j < l.length) : dg (l.set j y) i = if i = j then y else dg l i := by
  simp only [dg, List.getD_eq_getElem?_getD, List.getElem?_set]
  by_cases h : j = i
  · subst h; simp [hj]
  · rw [if_neg h, if_neg (by omega)]

theorem val_set (β : Nat) : ∀ (l : List Nat) (j y : Nat), j < l.length → val β (l.set j y) + dg l j * β ^ j = val β l + y * β ^ j
  | [], j, y, h => by simp at h
  | d :: l, 0, y, _ => by simp [val, dg_cons_zero]; omega
  | d :: l, j + 1, y, h => by
    have ih := val_set β l j y (by simpa using h)
    show d + β * val β (l.set j y) + dg l j * β ^ (j + 1) = d + β * val β l + y * β ^ (j + 1)
    have e1 : dg l j * β ^ (j + 1) = β * (dg l j * β ^ j) := by rw [Nat.pow_succ]; simp [Nat.mul_comm, Nat.mul_assoc]
    have e2 : y * β ^ (j + 1) = β * (y * β ^ j) := by rw [Nat.pow_succ]; simp [Nat.mul_comm, Nat.mul_left_comm]
    rw [e1, e2, Nat.add_assoc, ← Nat.mul_add, ih, Nat.mul_add]; omega

theorem val_zeros (β k : Nat) : val β (List.replicate k 0) = 0 := by
  induction k with
  | zero => rfl
  | succ k ih => simp [List.replicate_succ, val, ih]
theorem dg_zeros (k i : Nat) : dg (List.replicate k 0) i = 0 := by
  simp [dg, List.getElem?_replicate]; split <;> rfl

/-- One step of the school method: the digit and what is carried on. -/
theorem mul_step {β S S' c d x t m k P : Nat} (hβ : 0 < β) (ht : t = c + x + d * (m / β ^ k % β)) (hS : S' + x * P = S + t % β * P) {X : Nat} (hX : S + c * P = X) :
    S' + t / β * (P * β) = X + d * (m / β ^ k % β) * P := by
  have e : t / β * (P * β) + t % β * P = t * P := by
    have h := Nat.div_add_mod t β
    have e1 : t / β * (P * β) = β * (t / β) * P := by simp [Nat.mul_comm, Nat.mul_left_comm]
    rw [e1, ← Nat.add_mul, h]
  have e2 : t * P = c * P + x * P + d * (m / β ^ k % β) * P := by rw [ht]; simp [Nat.add_mul]
  omega

/-- A product's sum so far, digit by digit. -/
theorem part_step (β n m i k : Nat) : n % β ^ i * m + β ^ i * (n / β ^ i % β) * (m % β ^ (k + 1)) = n % β ^ i * m + β ^ i * (n / β ^ i % β) * (m % β ^ k) + n / β ^ i % β * (m / β ^ k % β) * β ^ (i + k) := by
  have e : m % β ^ (k + 1) = m % β ^ k + β ^ k * (m / β ^ k % β) := by rw [Nat.pow_succ, Nat.mod_mul]
  rw [e, Nat.mul_add, Nat.pow_add, Nat.add_assoc]
  congr 2
  simp [Nat.mul_comm, Nat.mul_left_comm, Nat.mul_assoc]

theorem part_end (β n m i : Nat) : n % β ^ i * m + β ^ i * (n / β ^ i % β) * m = n % β ^ (i + 1) * m := by
  rw [Nat.pow_succ, Nat.mod_mul, ← Nat.add_mul]

theorem mul_bound {β c x d y : Nat} (hc : c < β) (hx : x < β) (hd : d < β) (hy : y < β) : c + x + d * y < β * β := by
  have h1 : d * y ≤ (β - 1) * (β - 1) := Nat.mul_le_mul (by omega) (by omega)
  obtain ⟨b, rfl⟩ : ∃ b, β = b + 1 := ⟨β - 1, by omega⟩
  simp only [Nat.add_sub_cancel] at h1
  rw [Nat.add_mul, Nat.mul_add]
  omega

theorem shl_digit (T R q : Nat) (hT : 0 < T) (hR : 0 < R) : q / R % (T * R) = T * (q / (T * R) % (T * R) % R) + q % (T * R) / R := by
  have hd := Nat.div_add_mod q (T * R)
  have e1 : q / R = T * (q / (T * R)) + q % (T * R) / R := by
    have e2 : q = q % (T * R) + R * (T * (q / (T * R))) := by
      have : R * (T * (q / (T * R))) = T * R * (q / (T * R)) := by rw [← Nat.mul_assoc, Nat.mul_comm R T]
      omega
    rw [Nat.add_comm (T * _)]
    conv => lhs; rw [e2]
    rw [Nat.add_mul_div_left _ _ hR]
  have e3 : q / (T * R) % (T * R) % R = q / (T * R) % R := by rw [Nat.mul_comm T R, Nat.mod_mul_right_mod]
  have h4 : q % (T * R) / R < T := by
    rw [Nat.div_lt_iff_lt_mul hR]; exact Nat.mod_lt _ (Nat.mul_pos hT hR)
  have h5 : T * (q / (T * R) % R) + T ≤ T * R := by
    rw [← Nat.mul_succ]; exact Nat.mul_le_mul_left _ (Nat.mod_lt _ hR)
  rw [e1, e3, Nat.add_mod, Nat.mul_mod_mul_left, Nat.mod_eq_of_lt (a := q % (T * R) / R) (by have := Nat.le_mul_of_pos_right T hR; omega), Nat.mod_eq_of_lt (by omega)]

/-- The digit at place e (0 below) of n, shifted up by less than a digit: T = 2^by, R = 2^(64 - by). -/
theorem shift_digit (T R n e : Nat) (hT : 0 < T) (hR : 0 < R) :
    n * T / (T * R) ^ (e + 1) % (T * R) = T * (n / (T * R) ^ (e + 1) % (T * R) % R) + n / (T * R) ^ e % (T * R) / R := by
  have h := shl_digit T R (n / (T * R) ^ e) hT hR
  rw [Nat.div_div_eq_div_mul, Nat.div_div_eq_div_mul, ← Nat.pow_succ] at h
  rw [← h]
  congr 1
  have e1 : (T * R) ^ (e + 1) = (T * R) ^ e * R * T := by rw [Nat.pow_succ, Nat.mul_assoc, Nat.mul_comm R T]
  rw [e1, Nat.mul_div_mul_right _ _ hT]
theorem shift_digit0 (T R n : Nat) (hR : 0 < R) : n * T / (T * R) ^ 0 % (T * R) = T * (n / (T * R) ^ 0 % (T * R) % R) := by
  simp only [Nat.pow_zero, Nat.div_one]
  rw [Nat.mul_comm T R, Nat.mod_mul_right_mod, Nat.mul_comm R T, Nat.mul_comm n T, Nat.mul_mod_mul_left]

theorem pow_inj_len {β a b n : Nat} (hβ : 2 ≤ β) (ha : n < β ^ a) (hb : b = 0 ∨ β ^ (b - 1) ≤ n) : b ≤ a := by
  rcases hb with hb | hb
  · omega
  · rcases Nat.lt_or_ge a b with h | h
    · have := Nat.pow_le_pow_right (n := β) (by omega) (show a ≤ b - 1 by omega)
      omega
    · exact h

/-- A number has one list of digits. -/
theorem dig_unique {β n : Nat} (hβ : 2 ≤ β) {l l' : List Nat} (h : Dig β l n) (hn : Norm β l n) (h' : Dig β l' n) (hn' : Norm β l' n) : l = l' := by
  have e : l.length = l'.length := Nat.le_antisymm (pow_inj_len hβ h'.1 hn) (pow_inj_len hβ h.1 hn')
  apply List.ext_getElem e
  intro i h1 h2
  have := (h.2 i).trans (h'.2 i).symm
  simpa [dg, h1, h2] using this

theorem dig_nil {β : Nat} : Dig β [] 0 := ⟨by simp, fun i => by simp [dg]⟩

theorem dig_one {β a : Nat} (ha : a < β) : Dig β [a] a := by
  refine ⟨by simpa using ha, fun i => ?_⟩
  cases i with
  | zero => simp [dg, Nat.mod_eq_of_lt ha]
  | succ i =>
    have h : a / β ^ (i + 1) = 0 := Nat.div_eq_of_lt (Nat.lt_of_lt_of_le ha (by rw [Nat.pow_succ]; exact Nat.le_mul_of_pos_left _ (Nat.pow_pos (by omega))))
    rw [h]; simp [dg]

theorem dig_two {β a b : Nat} (ha : a < β) (hb : b < β) : Dig β [a, b] (a + β * b) := by
  have h := val_dig (β := β) (by omega) [a, b] (fun i => by
    match i with
    | 0 => exact ha
    | 1 => exact hb
    | i + 2 => simp [dg]; omega)
  have e : val β [a, b] = a + β * b := by simp [val]
  rw [e] at h
  exact h

theorem val_append (β : Nat) : ∀ (l m : List Nat), val β (l ++ m) = val β l + β ^ l.length * val β m
  | [], m => by simp [val]
  | d :: l, m => by
    show d + β * val β (l ++ m) = d + β * val β l + β ^ (l.length + 1) * val β m
    rw [val_append β l m, Nat.mul_add, Nat.pow_succ, Nat.add_assoc, Nat.mul_comm (β ^ l.length) β, Nat.mul_assoc]

/-- 1, if a's lowest k digits are below b's. -/
def bor (β a b k : Nat) : Nat := if a % β ^ k < b % β ^ k then 1 else 0
theorem bor_le (β a b k : Nat) : bor β a b k ≤ 1 := by unfold bor; split <;> omega
theorem bor_zero (β a b : Nat) : bor β a b 0 = 0 := by simp [bor, Nat.mod_one]

theorem bor_succ {β : Nat} (hβ : 0 < β) (a b k : Nat) : bor β a b (k + 1) = if a / β ^ k % β < b / β ^ k % β + bor β a b k then 1 else 0 := by
  have e1 : a % β ^ (k + 1) = a % β ^ k + β ^ k * (a / β ^ k % β) := by rw [Nat.pow_succ, Nat.mod_mul]
  have e2 : b % β ^ (k + 1) = b % β ^ k + β ^ k * (b / β ^ k % β) := by rw [Nat.pow_succ, Nat.mod_mul]
  have hp : 0 < β ^ k := Nat.pow_pos hβ
  have ha := Nat.mod_lt a hp
  have hb := Nat.mod_lt b hp
  unfold bor
  rw [e1, e2]
  generalize a / β ^ k % β = u at *
  generalize b / β ^ k % β = v at *
  generalize β ^ k = P at *
  generalize a % P = x at *
  generalize b % P = y at *
  rcases Nat.lt_trichotomy u v with h | h | h
  · have : P * u + P ≤ P * v := by rw [← Nat.mul_succ]; exact Nat.mul_le_mul_left _ h
    rw [if_pos (by omega), if_pos (by omega)]
  · subst h
    by_cases hxy : x < y
    · rw [if_pos (by omega), if_pos hxy, if_pos (by omega)]
    · rw [if_neg (by omega), if_neg hxy, if_neg (by omega)]
  · have : P * v + P ≤ P * u := by rw [← Nat.mul_succ]; exact Nat.mul_le_mul_left _ h
    have h2 : (if x < y then 1 else 0) ≤ 1 := by split <;> omega
    rw [if_neg (by omega), if_neg (by omega)]

/-- The digit of a difference. -/
def sbd (β a b i : Nat) : Nat := if a / β ^ i % β < b / β ^ i % β + bor β a b i then a / β ^ i % β + β - b / β ^ i % β - bor β a b i else a / β ^ i % β - b / β ^ i % β - bor β a b i
theorem sbd_eq {β : Nat} (hβ : 0 < β) (a b k : Nat) : sbd β a b k < β ∧ sbd β a b k + (b / β ^ k % β + bor β a b k) = a / β ^ k % β + β * bor β a b (k + 1) := by
  rw [bor_succ hβ]
  unfold sbd
  have h1 := Nat.mod_lt (a / β ^ k) hβ
  have h2 := Nat.mod_lt (b / β ^ k) hβ
  have h3 := bor_le β a b k
  generalize a / β ^ k % β = u at *
  generalize b / β ^ k % β = v at *
  generalize bor β a b k = o at *
  by_cases h : u < v + o
  · rw [if_pos h, if_pos h]; omega
  · rw [if_neg h, if_neg h]; omega

theorem sbd_sum {β : Nat} (hβ : 0 < β) (a b k : Nat) : val β ((List.range k).map (sbd β a b)) + b % β ^ k = a % β ^ k + β ^ k * bor β a b k := by
  induction k with
  | zero => rw [bor_zero]; simp [val, Nat.mod_one]
  | succ k ih =>
    have hs := (sbd_eq hβ a b k).2
    have e0 : val β ((List.range (k + 1)).map (sbd β a b)) = val β ((List.range k).map (sbd β a b)) + β ^ k * sbd β a b k := by
      rw [List.range_succ, List.map_append, val_append]
      simp [val]
    have e1 : a % β ^ (k + 1) = a % β ^ k + β ^ k * (a / β ^ k % β) := by rw [Nat.pow_succ, Nat.mod_mul]
    have e2 : b % β ^ (k + 1) = b % β ^ k + β ^ k * (b / β ^ k % β) := by rw [Nat.pow_succ, Nat.mod_mul]
    have e3 : β ^ (k + 1) * bor β a b (k + 1) = β ^ k * (β * bor β a b (k + 1)) := by rw [Nat.pow_succ, Nat.mul_assoc]
    rw [e0, e1, e2, e3]
    have e4 : β ^ k * sbd β a b k + (β ^ k * (b / β ^ k % β) + β ^ k * bor β a b k) = β ^ k * (a / β ^ k % β) + β ^ k * (β * bor β a b (k + 1)) := by rw [← Nat.mul_add, ← Nat.mul_add, hs, Nat.mul_add]
    omega

/-- a without b, modulo β^K. -/
def subW (β K a b : Nat) : Nat := val β ((List.range K).map (sbd β a b))
theorem subW_dig {β : Nat} (hβ : 0 < β) (K a b : Nat) : Dig β ((List.range K).map (sbd β a b)) (subW β K a b) := by
  refine val_dig hβ _ (fun j => ?_)
  rcases Nat.lt_or_ge j K with h | h
  · have := (sbd_eq hβ a b j).1
    simpa [dg, h] using this
  · rw [getD_past _ _ (by simpa using h)]; exact hβ
theorem subW_digit {β : Nat} (hβ : 0 < β) (K a b i : Nat) (hi : i < K) : subW β K a b / β ^ i % β = sbd β a b i := by
  rw [← (subW_dig hβ K a b).2 i]; simp [dg, hi]
theorem subW_lt {β : Nat} (hβ : 0 < β) (K a b : Nat) : subW β K a b < β ^ K := by
  have := (subW_dig hβ K a b).1; simpa using this
/-- What it is. -/
theorem subW_eq {β : Nat} (hβ : 0 < β) (K a b : Nat) : subW β K a b + b % β ^ K = a % β ^ K + β ^ K * bor β a b K := sbd_sum hβ a b K

end Go.Proofs.YtidfegilddlglaaDoor.Plain

/- How a slice's value reads as a list of digits, over any program: 'Rd'. -/
set_option linter.unusedVariables false
set_option linter.unusedSimpArgs false
set_option maxRecDepth 8000
namespace Go.Proofs.YtidfegilddlglaaDoor
open Go.RowKit

theorem ret_int {k : IntKind} {a b : Int} (h : a = b) : Ending.returned (.int k a) = .returned (.int k b) := by rw [h]
theorem ret_bool {a b : Bool} (h : a = b) : Ending.returned (.bool a) = .returned (.bool b) := by rw [h]

theorem hide {p : Prop} (h : p) : Hid p := h
theorem unhide {p : Prop} (h : Hid p) : p := h

def mk32 (d : Nat) : Value := .int .u32 d
def mk64 (d : Nat) : Value := .int .u64 d
def mkB (d : Nat) : Value := .bool (d == 1)

/-- The slice value v reads, in the world w, as the digits l. -/
def Rd (mk : Nat → Value) (w : World) (v : Value) (l : List Nat) : Prop :=
  ∃ ao cap, v = .slice ao l.length cap ∧ l.length ≤ cap ∧ cap ≤ maxLen ∧
    (l.length = 0 ∨ ∃ b off, ao = some ⟨b, off, none⟩ ∧ b < w.heap.size ∧ ∀ i, i < l.length → w.cell? ⟨b, off + i, none⟩ = some (mk (Plain.dg l i)))

theorem Rd.below {mk : Nat → Value} {w w' : World} {v : Value} {l : List Nat} (h : Rd mk w v l) (hb : Below w.heap.size w w') : Rd mk w' v l := by
  obtain ⟨ao, cap, rfl, hc, hm, h⟩ := h
  refine ⟨ao, cap, rfl, hc, hm, ?_⟩
  rcases h with h | ⟨b, off, rfl, hlt, hcell⟩
  · exact .inl h
  · refine .inr ⟨b, off, rfl, Nat.lt_of_lt_of_le hlt hb.size, fun i hi => ?_⟩
    rw [hb.cell (p := ⟨b, off + i, none⟩) hlt]
    exact hcell i hi

theorem Rd.drew {mk : Nat → Value} {w : World} {v : Value} {l : List Nat} (h : Rd mk w v l) : Rd mk w.drew v l := h
theorem Rd.drewN {mk : Nat → Value} {w : World} {v : Value} {l : List Nat} (h : Rd mk w v l) (q : Nat) : Rd mk (w.drewN q) v l := h

theorem below_trans {a b c : World} (h : Below a.heap.size a b) (k : Below b.heap.size b c) : Below a.heap.size a c :=
  h.trans (k.mono h.size)

theorem Rd.nil (mk : Nat → Value) (w : World) : Rd mk w (.slice none 0 0) [] := ⟨none, 0, rfl, Nat.le_refl _, by simp [maxLen], .inl rfl⟩

/-- What the call owns reads as what it holds. -/
theorem Rd.of_owns {mk : Nat → Value} {w : World} {base : Nat} {e : TypeId} {v : Value} {l : List Nat} (h : w.ownsRow base e 1 v l.length (l.map mk)) : Rd mk w v l := by
  rcases h.2 with ⟨rfl, h0⟩ | ⟨g, cap, cur, rfl, hb, hg, hn, hm, hs, ht⟩
  · cases l with
    | nil => exact Rd.nil mk w
    | cons a l => simp at h0
  · refine ⟨_, cap, rfl, hn, hm, .inr ⟨g, 0, rfl, (Array.getElem?_eq_some_iff.1 hg).1, fun i hi => ?_⟩⟩
    have hc := h.cells (g := g) rfl i (mk (Plain.dg l i)) (by simp [hi, Plain.dg])
    have hadd : (⟨g, 0, none⟩ : Addr).add i = ⟨g, 0 + i, none⟩ := by unfold Addr.add; split <;> simp_all
    rw [hadd] at hc
    exact hc

/-- A slice cut at its end. -/
theorem Rd.take {mk : Nat → Value} {w : World} {ao : Option Addr} {cap : Nat} {l : List Nat} (h : Rd mk w (.slice ao l.length cap) l) (n : Nat) (hn : n ≤ l.length) : Rd mk w (.slice ao n cap) (l.take n) := by
  obtain ⟨ao', cap', he, hc, hm, h⟩ := h
  simp only [Value.slice.injEq, true_and] at he
  obtain ⟨rfl, rfl⟩ := he
  have hl : (l.take n).length = n := by simp; omega
  refine ⟨ao, cap, by rw [hl], by omega, hm, ?_⟩
  rw [hl]
  rcases h with h | ⟨b, off, rfl, hlt, hcell⟩
  · exact .inl (by omega)
  · refine .inr ⟨b, off, rfl, hlt, fun i hi => ?_⟩
    rw [hcell i (by omega)]
    rw [Plain.getD_take, if_pos hi]

theorem ownsRow_drew {w : World} {base : Nat} {e : TypeId} {size : Nat} {v : Value} {n : Nat} {xs : List Value} (h : w.ownsRow base e size v n xs) : w.drew.ownsRow base e size v n xs := h

/-- 'out = append(out, x)', out the call's own: one digit more. -/
theorem wpList_app1 {P : Program} {ops : Array Oper} {rest : List Oper} {o : Oper} {a : Act} {Q : Exit → Act → World → Prop} (w0 wr : World) (hgd : o.guard = none) (s x : Operand) (t : TypeId)
    (ho : o.op = .call { callee := .builtin .append, args := #[s, x], argTypes := #[t, t] })
    (base : Nat) (e : TypeId) (i : TypeInfo) (z : Value) (bytes : Nat) (ht : P.underlying t = some (.slice e)) (hi : P.info? e = some i) (hz : i.zero = some z)
    (hsize : i.size = 1) (hby : i.bytes = bytes) (hzs : z.cells.size = 1)
    (mk : Nat → Value) (v : Value) (n : Nat) (l : List Nat) (hs : a.eval s = v) (hown : wr.ownsRow base e 1 v n (l.map mk)) (hbel : Below base w0 wr)
    (y : Value) (d : Nat) (hy : y = mk d) (h1 : y.oneCell' = true) (hx : a.eval x = .slice (some ⟨wr.heap.size, 0, none⟩) 1 1)
    (h63 : n + 1 ≤ 9223372036854775807) (hbytes : (n + 1) * bytes ≤ 140737488355328) (hbase : base ≤ wr.heap.size)
    (h : ∀ v' w', w'.ownsRow base e 1 v' (n + 1) ((l ++ [d]).map mk) → Below base w0 w' → wpList P ops Q rest (a.put o.dst v') w') :
    wpList P ops Q (o :: rest) a (wr.alloc (.cells #[y] e)) := by
  refine wpList_append_own _ hgd s x t ho base e i z 1 bytes ht hi hz hsize hby hzs (by decide) v n (l.map mk) hs (hown.alloc _) ⟨wr.heap.size, 0, none⟩ 1 1 [y] hx rfl ?_ ?_ (by unfold maxLen; omega) hbytes (by simp; omega) ?_
  · intro j u hj
    match j, hj with
    | 0, hj => simp at hj; subst hj; simp [Addr.add]
  · intro u hu; simp at hu; subst hu; exact h1
  · intro v' w' ho' hg _
    refine h v' w' (by rw [List.map_append, List.map_singleton, ← hy]; exact ho') ?_
    refine (hbel.alloc hbase _).grown hg (by simp; omega) ?_
    intro k hk
    exact (hown.lt k hk).1

/-- The same behind a draw. -/
theorem wpList_app1d {P : Program} {ops : Array Oper} {rest : List Oper} {o : Oper} {a : Act} {Q : Exit → Act → World → Prop} (w0 wr : World) (hgd : o.guard = none) (s x : Operand) (t : TypeId)
    (ho : o.op = .call { callee := .builtin .append, args := #[s, x], argTypes := #[t, t] })
    (base : Nat) (e : TypeId) (i : TypeInfo) (z : Value) (bytes : Nat) (ht : P.underlying t = some (.slice e)) (hi : P.info? e = some i) (hz : i.zero = some z)
    (hsize : i.size = 1) (hby : i.bytes = bytes) (hzs : z.cells.size = 1)
    (mk : Nat → Value) (v : Value) (n : Nat) (l : List Nat) (hs : a.eval s = v) (hown : wr.ownsRow base e 1 v n (l.map mk)) (hbel : Below base w0 wr)
    (y : Value) (d : Nat) (hy : y = mk d) (h1 : y.oneCell' = true) (hx : a.eval x = .slice (some ⟨wr.heap.size, 0, none⟩) 1 1)
    (h63 : n + 1 ≤ 9223372036854775807) (hbytes : (n + 1) * bytes ≤ 140737488355328) (hbase : base ≤ wr.heap.size)
    (h : ∀ v' w', w'.ownsRow base e 1 v' (n + 1) ((l ++ [d]).map mk) → Below base w0 w' → wpList P ops Q rest (a.put o.dst v') w') :
    wpList P ops Q (o :: rest) a (wr.alloc (.cells #[y] e)).drew :=
  wpList_app1 w0 wr.drew hgd s x t ho base e i z bytes ht hi hz hsize hby hzs mk v n l hs (ownsRow_drew hown) hbel.drew y d hy h1 hx h63 hbytes hbase h

/-- 'out = append(out, x, y ..)', out the call's own, as one step of a region that draws its order. -/
theorem step_app {P : Program} {ops : Array Oper} {o : Oper} {a : Act} {K : Act → World → Prop} {Q : Exit → Act → World → Prop} {E : Prop} (w0 wr : World)
    (hg : o.guard = none) (s x : Operand) (t : TypeId) (hop : o.op = Op.call { callee := Callee.builtin Builtin.append, args := #[s, x], argTypes := #[t, t] })
    (base : Nat) (e : TypeId) (i : TypeInfo) (z : Value) (bytes : Nat) (ht : P.underlying t = some (.slice e)) (hi : P.info? e = some i) (hz : i.zero = some z)
    (hsize : i.size = 1) (hby : i.bytes = bytes) (hzs : z.cells.size = 1)
    (mk : Nat → Value) (v : Value) (n : Nat) (l : List Nat) (hs : a.eval s = v) (hown : wr.ownsRow base e 1 v n (l.map mk)) (hbel : Below base w0 wr)
    (ys : List Value) (ds : List Nat) (hy : ys = ds.map mk) (hmk : ∀ d, (mk d).oneCell' = true) (c : Nat) (hx : a.eval x = .slice (some ⟨wr.heap.size, 0, none⟩) ds.length c)
    (h63 : n + ds.length ≤ 9223372036854775807) (hbytes : (n + ds.length) * bytes ≤ 140737488355328) (hbase : base ≤ wr.heap.size)
    (hK : ∀ v' w', w'.ownsRow base e 1 v' (n + ds.length) ((l ++ ds).map mk) → Below base w0 w' → K (a.put o.dst v') w') :
    if Region.wanted o (yielded ops a.tmps) = true then Oper.wp P o a (wr.alloc (.cells ys.toArray e)) K Q else E := by
  have hw : Region.wanted o (yielded ops a.tmps) = true := by simp [Region.wanted, hg]
  rw [if_pos hw]
  have hlen : ys.length = ds.length := by rw [hy]; simp
  have h1 : ∀ u ∈ ys, u.oneCell' = true := by
    intro u hu
    rw [hy] at hu
    obtain ⟨d, _, rfl⟩ := List.mem_map.1 hu
    exact hmk d
  have hcell : ∀ j u, ys[j]? = some u → (wr.alloc (.cells ys.toArray e)).cell? ((⟨wr.heap.size, 0, none⟩ : Addr).add j) = some u := by
    intro j u hj
    have hadd : (⟨wr.heap.size, 0, none⟩ : Addr).add j = ⟨wr.heap.size, j, none⟩ := by unfold Addr.add; split <;> simp_all
    rw [hadd, cell_of_row _ wr.heap.size j ys.toArray e (0, 0) (heap_alloc_new wr _)]
    simpa using hj
  obtain ⟨v', w', hr, h2, h3, _⟩ := run_append_own (P := P) (wr.alloc (.cells ys.toArray e)) base t o.type e i z 1 bytes ht hi hz hsize hby hzs (by decide) v n (l.map mk) (hown.alloc _) ⟨wr.heap.size, 0, none⟩ ds.length c ys (by omega) hcell h1 (by unfold maxLen; omega) hbytes (by simp; omega)
  unfold Oper.wp
  simp [execOp, hop, resolve, invoke, builtin, hs, hx, hr, Result.andThen]
  refine hK v' w' (by rw [List.map_append, ← hy]; exact h2) ?_
  refine (hbel.alloc hbase _).grown h3 (by simp; omega) ?_
  intro k hk
  exact (hown.lt k hk).1

theorem below_drewN' {B : Nat} {a w : World} (h : Below B a w) (n : Nat) : Below B a (w.drewN n) := h.trans ⟨rfl, rfl, rfl, Nat.le_refl _, fun _ _ => rfl⟩
theorem ownsRow_drewN {w : World} {base : Nat} {e : TypeId} {size : Nat} {v : Value} {n : Nat} {xs : List Value} (h : w.ownsRow base e size v n xs) (q : Nat) : (w.drewN q).ownsRow base e size v n xs := h

theorem u64_nat {a : Int} (h : (Lit.int .u64 a).wf = true) : ∃ x : Nat, a = (x : Int) ∧ x < 18446744073709551616 := by
  simp only [Lit.wf, Bool.and_eq_true, decide_eq_true_eq] at h
  have hmin : IntKind.u64.min = 0 := rfl
  have hmax : IntKind.u64.max = 18446744073709551615 := rfl
  exact ⟨a.toNat, by omega, by omega⟩

theorem u16_nat {a : Int} (h : (Lit.int .u16 a).wf = true) : ∃ x : Nat, a = (x : Int) ∧ x < 65536 := by
  simp only [Lit.wf, Bool.and_eq_true, decide_eq_true_eq] at h
  have hmin : IntKind.u16.min = 0 := rfl
  have hmax : IntKind.u16.max = 65535 := rfl
  exact ⟨a.toNat, by omega, by omega⟩
theorem i64_bd {a : Int} (h : (Lit.int .i64 a).wf = true) : -9223372036854775808 ≤ a ∧ a ≤ 9223372036854775807 := by
  simp only [Lit.wf, Bool.and_eq_true, decide_eq_true_eq] at h
  have hmin : IntKind.i64.min = -9223372036854775808 := rfl
  have hmax : IntKind.i64.max = 9223372036854775807 := rfl
  omega

/-- What a law's frame tells of a slice of integers that came in. -/
def IsRow (k : IntKind) (w : World) (a : Option Addr) (len cap : Nat) (zs : List Int) : Prop :=
  (a = none ∧ len = 0 ∧ cap = 0 ∧ zs = []) ∨
  ∃ x, a = some x ∧ len ≤ cap ∧ cap ≤ maxLen ∧ zs.length = cap ∧ (∀ i, i < zs.length → w.cell? (x.add i) = some (.int k (zs.getD i 0))) ∧ ∀ n ∈ zs, (Lit.int k n).wf = true

theorem IsRow.rd {w : World} {a : Option Addr} {len cap : Nat} {zs : List Int} (h : IsRow .u64 w a len cap zs) :
    ∃ l n, l.length = len ∧ Rd mk64 w (.slice a len cap) l ∧ Plain.Dig 18446744073709551616 l n := by
  rcases h with ⟨rfl, rfl, rfl, rfl⟩ | ⟨x, rfl, hl, hm, hz, hcell, hwf⟩
  · exact ⟨[], 0, rfl, Rd.nil mk64 w, by decide, fun i => by simp [Plain.dg]⟩
  · have hlen : ((zs.take len).map Int.toNat).length = len := by simp; omega
    have hdg : ∀ i, i < len → ((Plain.dg ((zs.take len).map Int.toNat) i : Nat) : Int) = zs.getD i 0 ∧ Plain.dg ((zs.take len).map Int.toNat) i < 18446744073709551616 := by
      intro i hi
      have hi2 : i < zs.length := by omega
      obtain ⟨y, hy, hy2⟩ := u64_nat (hwf zs[i] (List.getElem_mem hi2))
      have e : Plain.dg ((zs.take len).map Int.toNat) i = y := by
        simp [Plain.dg, hi, hi2, hy]
      rw [e]
      simp [hi2, hy, hy2]
    refine ⟨(zs.take len).map Int.toNat, _, hlen, ?_, Plain.val_dig (by decide) _ ?_⟩
    · refine ⟨some x, cap, by rw [hlen], by rw [hlen]; exact hl, hm, ?_⟩
      rw [hlen]
      by_cases h0 : len = 0
      · exact .inl h0
      · obtain ⟨b, off, rfl, hc⟩ := ints_at hcell (by omega)
        refine .inr ⟨b, off, rfl, World.block_lt_of_cell? w ⟨b, off + 0, none⟩ (hc 0 (by omega)), fun i hi => ?_⟩
        rw [hc i (by omega)]
        unfold mk64
        rw [(hdg i hi).1]
    · intro i
      rcases Nat.lt_or_ge i len with h | h
      · exact (hdg i h).2
      · rw [Plain.getD_past _ _ (by omega)]; decide

/-- A slice literal. -/
theorem Rd.lit {mk : Nat → Value} (w : World) (e : TypeId) (xs : List Value) (ds : List Nat) (h : xs = ds.map mk) (c : Nat) (hc : ds.length ≤ c) (hm : c ≤ 1000) :
    Rd mk (w.alloc (.cells xs.toArray e)) (.slice (some ⟨w.heap.size, 0, none⟩) ds.length c) ds := by
  refine ⟨_, c, rfl, hc, by unfold maxLen; omega, .inr ⟨w.heap.size, 0, rfl, by simp, fun i hi => ?_⟩⟩
  rw [cell_of_row _ w.heap.size (0 + i) xs.toArray e (0, 0) (heap_alloc_new w _), h]
  simp [Plain.dg, hi]

theorem madeCells_one (z : Value) (hz : z.cells = #[z]) (n : Nat) : (madeCells z.cells (n * 1)).toList = List.replicate n z := by
  rw [hz]
  apply List.ext_getElem
  · simp [madeCells]
  · intro i h1 h2
    simp [madeCells, Nat.mod_one]

/-- 'make([]T, n)': n noughts. -/
theorem wpList_mk0 {P : Program} (w : World) {ops : Array Oper} {rest : List Oper} {o : Oper} {a : Act} {Q : Exit → Act → World → Prop}
    (hg : o.guard = none) (l c : Operand) (t : TypeId) (hop : o.op = Op.makeSlice t l c)
    (e : TypeId) (i : TypeInfo) (z : Value) (bytes : Nat) (h1 : P.underlying t = some (.slice e)) (h2 : P.info? e = some i) (h3 : i.zero = some z) (h4 : i.size = 1) (hby : i.bytes = bytes)
    (mk : Nat → Value) (hmk : mk 0 = z) (hcz : z.cells = #[z])
    (kl kc : IntKind) (L C : Int) (n : Nat) (hl : a.eval l = .int kl L) (hc : a.eval c = .int kc C) (hL : L = (n : Int)) (hC : C = (n : Int)) (b2 : bytes * n ≤ 281474976710656) (b3 : n ≤ 9223372036854775807)
    (hK : ∀ w', w'.ownsRow w.heap.size e 1 (.slice (some ⟨w.heap.size, 0, none⟩) n n) n ((List.replicate n 0).map mk) → Below w.heap.size w w' → wpList P ops Q rest (a.put o.dst (.slice (some ⟨w.heap.size, 0, none⟩) n n)) w') :
    wpList P ops Q (o :: rest) a w := by
  refine wpList_make_full w hg l c t hop w.heap.size e i z 1 h1 h2 h3 h4 kl kc L C n hl hc hL hC (by rw [hby]; exact b2) (by unfold maxLen; omega) (Nat.le_refl _) ?_
  intro w' ho hgr
  refine hK w' ?_ ((Below.refl _ _).grown hgr (Nat.le_refl _) (fun k h => by cases h))
  rw [madeCells_one z hcz] at ho
  rw [List.map_replicate, hmk]
  exact ho

/-- A store into the call's own row. -/
theorem owns_store {w : World} {base g n : Nat} {e : TypeId} {cap : Nat} {mk : Nat → Value} {l : List Nat} (h : w.ownsRow base e 1 (.slice (some ⟨g, 0, none⟩) n cap) n (l.map mk)) (j d : Nat) {w0 : World} (hb : Below base w0 w) (hg : base ≤ g) :
    (w.setCell ⟨g, j, none⟩ (mk d)).ownsRow base e 1 (.slice (some ⟨g, 0, none⟩) n cap) n ((l.set j d).map mk) ∧ Below base w0 (w.setCell ⟨g, j, none⟩ (mk d)) := by
  have h2 := (h.stored j (mk d)).1
  rw [← List.map_set] at h2
  exact ⟨h2, hb.setCell hg _⟩

theorem owns_cell {w : World} {base g n : Nat} {e : TypeId} {cap : Nat} {mk : Nat → Value} {l : List Nat} (h : w.ownsRow base e 1 (.slice (some ⟨g, 0, none⟩) n cap) n (l.map mk)) (hl : l.length = n) (j : Nat) (hj : j < n) :
    w.cell? ⟨g, j, none⟩ = some (mk (Plain.dg l j)) := by
  rw [h.cellAt j (by omega)]
  simp [Plain.dg, hl, hj]

theorem owns_form {w : World} {base n : Nat} {e : TypeId} {v : Value} {xs : List Value} (h : w.ownsRow base e 1 v n xs) (hn : n ≠ 0) :
    ∃ g cap, v = .slice (some ⟨g, 0, none⟩) n cap ∧ base ≤ g ∧ n ≤ cap ∧ cap ≤ 9223372036854775807 := by
  rcases h.2 with ⟨_, h0⟩ | ⟨g, cap, cur, rfl, hb, hg, hn2, hm, hs, ht⟩
  · exact absurd h0 hn
  · exact ⟨g, cap, rfl, hb, hn2, by unfold maxLen at hm; omega⟩

/-- A slice cut at its head. -/
theorem Rd.drop {mk : Nat → Value} {w : World} {b off cap : Nat} {l : List Nat} (h : Rd mk w (.slice (some ⟨b, off, none⟩) l.length cap) l) (n : Nat) (hn : n < l.length) : Rd mk w (.slice (some ⟨b, off + n, none⟩) (l.length - n) (cap - n)) (l.drop n) := by
  obtain ⟨ao', cap', he, hc, hm, h⟩ := h
  simp only [Value.slice.injEq, true_and] at he
  obtain ⟨rfl, rfl⟩ := he
  have hl : (l.drop n).length = l.length - n := by simp
  refine ⟨_, cap - n, by rw [hl], by omega, by unfold maxLen at hm ⊢; omega, ?_⟩
  rw [hl]
  rcases h with h | ⟨b', off', he, hlt, hcell⟩
  · omega
  · simp only [Option.some.injEq, Addr.mk.injEq, and_true] at he
    obtain ⟨rfl, rfl⟩ := he
    refine .inr ⟨b, off + n, rfl, hlt, fun i hi => ?_⟩
    rw [show off + n + i = off + (n + i) by omega, hcell (n + i) (by omega)]
    congr 2
    simp [Plain.dg]

/-- 'append(v, b...)', v the call's own, b whatever slice. -/
theorem wpList_appS {P : Program} {ops : Array Oper} {rest : List Oper} {o : Oper} {a : Act} {Q : Exit → Act → World → Prop} (w0 wr : World) (hgd : o.guard = none) (s x : Operand) (t : TypeId)
    (ho : o.op = .call { callee := .builtin .append, args := #[s, x], argTypes := #[t, t] })
    (base : Nat) (e : TypeId) (i : TypeInfo) (z : Value) (bytes : Nat) (ht : P.underlying t = some (.slice e)) (hi : P.info? e = some i) (hz : i.zero = some z)
    (hsize : i.size = 1) (hby : i.bytes = bytes) (hzs : z.cells.size = 1)
    (mk : Nat → Value) (hmk : ∀ d, (mk d).oneCell' = true) (v : Value) (n : Nat) (l : List Nat) (hs : a.eval s = v) (hown : wr.ownsRow base e 1 v n (l.map mk)) (hbel : Below base w0 wr)
    (vb : Value) (lb : List Nat) (hx : a.eval x = vb) (hrd : Rd mk wr vb lb)
    (h63 : n + lb.length ≤ 9223372036854775807) (hbytes : (n + lb.length) * bytes ≤ 140737488355328) (hbase : base ≤ wr.heap.size)
    (h : ∀ v' w', w'.ownsRow base e 1 v' (n + lb.length) ((l ++ lb).map mk) → Below base w0 w' → wpList P ops Q rest (a.put o.dst v') w') :
    wpList P ops Q (o :: rest) a wr := by
  obtain ⟨ao, cap, rfl, hc, hm, hr⟩ := hrd
  cases ao with
  | none =>
    have hl0 : lb.length = 0 := by
      rcases hr with hr | ⟨b, off, hh, _⟩
      · exact hr
      · cases hh
    have hnil : lb = [] := List.eq_nil_of_length_eq_zero hl0
    subst hnil
    have hrun : (Builtin.append_ #[t, t] o.type #[v, .slice none 0 cap]).run P wr = .ok v wr := by
      rcases hown.2 with ⟨rfl, rfl⟩ | ⟨g, cap2, cur, rfl, _, _, hnc, _⟩
      · simp [Builtin.append_, run_underlying ht, sizeOf, typeInfo, hi, Builtin.lenOf, Builtin.firstCells]
      · simp [Builtin.append_, run_underlying ht, sizeOf, typeInfo, hi, Builtin.lenOf, Builtin.firstCells, hnc, storeCells]
    refine wpList_plain hgd fun K hK => ?_
    have hx2 : a.eval x = .slice none 0 cap := hx
    unfold Oper.wp
    simp [execOp, ho, resolve, invoke, builtin, hs, hx2, hrun, Result.andThen]
    exact hK _ _ (h v wr (by simpa using hown) hbel)
  | some ad =>
    refine wpList_append_own _ hgd s x t ho base e i z 1 bytes ht hi hz hsize hby hzs (by decide) v n (l.map mk) hs hown ad lb.length cap (lb.map mk) hx (by simp) ?_ ?_ (by unfold maxLen; omega) hbytes hbase ?_
    · intro j u hj
      rcases hr with hr | ⟨b, off, he, hlt, hcell⟩
      · have : lb = [] := List.eq_nil_of_length_eq_zero hr
        subst this
        simp at hj
      · simp only [Option.some.injEq] at he
        subst he
        have hjl : j < lb.length := by
          have := (List.getElem?_eq_some_iff.1 hj).1
          simpa using this
        have hadd : (⟨b, off, none⟩ : Addr).add j = ⟨b, off + j, none⟩ := by unfold Addr.add; split <;> simp_all
        rw [hadd, hcell j hjl]
        rw [← hj]
        simp [Plain.dg, hjl]
    · intro u hu
      obtain ⟨d, _, rfl⟩ := List.mem_map.1 hu
      exact hmk d
    · intro v' w' ho' hg _
      refine h v' w' (by rw [List.map_append]; exact ho') ?_
      exact hbel.grown hg hbase (fun k hk => (hown.lt k hk).1)

theorem grownBy_trans {a b c : World} {row : Option Nat} (h : a.grownBy b row) (k : b.grownBy c row) : a.grownBy c row :=
  ⟨k.os.trans h.os, k.tape.trans h.tape, k.output.trans h.output, Nat.le_trans h.size k.size, fun i hi hr => (k.block i (Nat.lt_of_lt_of_le hi h.size) hr).trans (h.block i hi hr)⟩
theorem grownBy_refl (a : World) (row : Option Nat) : a.grownBy a row := ⟨rfl, rfl, rfl, Nat.le_refl _, fun _ _ _ => rfl⟩
theorem grownBy_of_below {a b : World} (h : Below a.heap.size a b) (row : Option Nat) : a.grownBy b row := ⟨h.os, h.tape, h.output, h.size, fun i hi _ => h.block i hi⟩
theorem grownBy_then {a b c : World} {row : Option Nat} {B : Nat} (h : a.grownBy b row) (hB : a.heap.size ≤ B) (k : Below B b c) : a.grownBy c row :=
  ⟨k.os.trans h.os, k.tape.trans h.tape, k.output.trans h.output, Nat.le_trans h.size k.size, fun i hi hr => (k.block i (by omega)).trans (h.block i hi hr)⟩
theorem below_of_grownBy {a b : World} {row : Option Nat} (h : a.grownBy b row) {B : Nat} (hB : B ≤ a.heap.size) (hr : ∀ k, row = some k → B ≤ k) : Below B a b :=
  ⟨h.os, h.tape, h.output, h.size, fun i hi => h.block i (by omega) (fun e => by have := hr i e.symm; omega)⟩

end Go.Proofs.YtidfegilddlglaaDoor

/- Contracts of radicandref01: digit, trim. -/
set_option linter.unusedVariables false
set_option linter.unusedSimpArgs false
set_option maxRecDepth 8000
namespace Go.Proofs.YtidfegilddlglaaDoor
open Go.RowKit

def digI (l : List Nat) (i : Int) : Int := if i < 0 then 0 else ((Plain.dg l i.toNat : Nat) : Int)

set_option maxHeartbeats 400000 in
theorem digit_any (l : List Nat) (v : Value) (w : World) (hr : Rd mk32 w v l) (hb : ∀ i, Plain.dg l i < 4294967296) (i : Int) :
    Calls Tryd.prog 107 #[v, .int .i64 i] w fun e w' => e = .returned (.int .u64 (digI l i)) ∧ w' = w := by
  obtain ⟨ao, cap, rfl, hc, hm, hr⟩ := hr
  unfold maxLen at hm
  by_cases h0 : i < 0
  · have HO : Hid (digI l i = 0) := by unfold Hid digI; rw [if_pos h0]
    clear hr hb
    go_enter Tryd.func107, Tryd.ntmps107
    go_wp2
    go_ret
    exact ⟨ret_int HO.out.symm, rfl⟩
  · obtain ⟨k, rfl⟩ := Int.eq_ofNat_of_zero_le (Int.not_lt.1 h0)
    by_cases h1 : k < l.length
    · rcases hr with hr | ⟨b, off, rfl, hlt, hcell⟩
      · omega
      · have hck := hcell k h1
        have hbk := hb k
        have HO : Hid (digI l k = ((Plain.dg l k : Nat) : Int)) := by unfold Hid digI; rw [if_neg h0]; simp
        unfold mk32 at hck
        generalize Plain.dg l k = d at *
        clear hcell hb hc
        go_enter Tryd.func107, Tryd.ntmps107
        go_wp2
        go_ret
        exact ⟨ret_int HO.out.symm, rfl⟩
    · have HO : Hid (digI l k = 0) := by unfold Hid digI; rw [if_neg h0, Int.toNat_natCast, Plain.getD_past l k (by omega)]; rfl
      clear hr hb
      go_enter Tryd.func107, Tryd.ntmps107
      go_wp2
      go_ret
      exact ⟨ret_int HO.out.symm, rfl⟩

set_option maxHeartbeats 400000 in
theorem trim_raw (l : List Nat) (ao : Option Addr) (cap : Nat) (w : World) (hr : Rd mk32 w (.slice ao l.length cap) l) :
    Calls Tryd.prog 75 #[.slice ao l.length cap] w fun e w' => ∃ k, k ≤ l.length ∧ e = .returned (.slice ao k cap) ∧ (∀ j, k ≤ j → Plain.dg l j = 0) ∧ (k = 0 ∨ Plain.dg l (k - 1) ≠ 0) ∧ w' = w := by
  obtain ⟨ao', cap', he, hc, hm, hr⟩ := hr
  simp only [Value.slice.injEq, true_and] at he
  obtain ⟨rfl, rfl⟩ := he
  unfold maxLen at hm
  have HR := hide hr
  clear hr
  go_enter Tryd.func75, Tryd.ntmps75
  go_wp2
  go_loop [3] (fun n => ∃ k : Nat, k ≤ l.length ∧ n = .int .i64 k ∧ ∀ j, k ≤ j → Plain.dg l j = 0) (fun n => (intOf n).toNat)
  case atStart => exact ⟨l.length, Nat.le_refl _, rfl, fun j hj => Plain.getD_past l j hj⟩
  case round =>
    obtain ⟨k, hk, rfl, hz⟩ := hrel
    have HZ := hide hz
    clear hz
    by_cases h0 : k = 0
    · subst h0
      go_wp2
      go_ret
      exact ⟨0, hk, rfl, unhide HZ, .inl rfl, rfl⟩
    · obtain ⟨m, rfl⟩ : ∃ m, k = m + 1 := ⟨k - 1, by omega⟩
      rcases unhide HR with hr | ⟨b, off, rfl, hlt, hcell⟩
      · omega
      · have hck := hcell m (by omega)
        unfold mk32 at hck
        clear hcell
        go_wp2
        · go_round
          case rel =>
            refine ⟨m, by omega, by go_num, fun j hj => ?_⟩
            rcases Nat.lt_or_ge m j with h1 | h1
            · exact unhide HZ j h1
            · have e : j = m := by omega
              subst e
              have hq : ((Plain.dg l j : Int) == 0) = true := by assumption
              simpa using hq
          case measure => simp [intOf]
        · go_ret
          have hq : ((Plain.dg l m : Int) == 0) = false := by assumption
          exact ⟨m + 1, hk, rfl, unhide HZ, .inr (by simpa using hq), rfl⟩

def BB : Nat := 4294967296

/-- The value v is the number n (radicandref01.Big), in at most K digits of 32 bits. -/
def BigV (w : World) (v : Value) (n K : Nat) : Prop := ∃ l, Rd mk32 w v l ∧ Plain.Dig BB l n ∧ Plain.Norm BB l n ∧ l.length ≤ K

theorem BigV.below {w w' : World} {v : Value} {n K : Nat} (h : BigV w v n K) (hb : Below w.heap.size w w') : BigV w' v n K := by
  obtain ⟨l, h1, h2⟩ := h; exact ⟨l, h1.below hb, h2⟩
theorem BigV.mono {w : World} {v : Value} {n K K' : Nat} (h : BigV w v n K) (hk : K ≤ K') : BigV w v n K' := by
  obtain ⟨l, h1, h2, h3, h4⟩ := h; exact ⟨l, h1, h2, h3, by omega⟩

theorem trim_any (l : List Nat) (n K : Nat) (v : Value) (w : World) (hr : Rd mk32 w v l) (hd : Plain.Dig BB l n) (hK : l.length ≤ K) :
    Calls Tryd.prog 75 #[v] w fun e w' => ∃ v', e = .returned v' ∧ BigV w v' n K ∧ w' = w := by
  have hr' := hr
  obtain ⟨ao, cap, rfl, -⟩ := hr'
  refine (trim_raw l ao cap w hr).mono ?_
  rintro e w' ⟨k, hk, rfl, hz, hn, rfl⟩
  refine ⟨_, rfl, ⟨l.take k, hr.take k hk, hd.cut (by decide) k hk hz, ?_, by simp; omega⟩, rfl⟩
  refine (hd.cut (by decide) k hk hz).norm (by decide) ?_
  rw [List.length_take, Nat.min_eq_left hk]
  rcases hn with hn | hn
  · exact .inl hn
  · by_cases h0 : k = 0
    · exact .inl h0
    · exact .inr (by rw [Plain.getD_take, if_pos (by omega)]; exact hn)

/-- The digit of BB^k. -/
def dgt (n k : Nat) : Nat := n / BB ^ k % BB
theorem dgt_lt (n k : Nat) : dgt n k < 4294967296 := Nat.mod_lt _ (by decide)

theorem digit_big (n K k : Nat) (v : Value) (w : World) (i : Int) (h : BigV w v n K) (hi : i = (k : Int)) :
    Calls Tryd.prog 107 #[v, .int .i64 i] w fun e w' => e = .returned (.int .u64 (dgt n k : Nat)) ∧ w' = w := by
  obtain ⟨l, hr, hd, _⟩ := h
  subst hi
  refine (digit_any l v w hr (fun i => hd.lt (by decide) i) k).mono ?_
  rintro e w' ⟨rfl, rfl⟩
  refine ⟨ret_int ?_, rfl⟩
  unfold digI dgt
  rw [if_neg (by omega), Int.toNat_natCast, hd.2]

set_option maxHeartbeats 400000 in
theorem cmp_any (n m K L : Nat) (va vb : Value) (w : World) (ha : BigV w va n K) (hb : BigV w vb m L) :
    Calls Tryd.prog 87 #[va, vb] w fun e w' => e = .returned (.int .i64 (Plain.cmpN n m)) ∧ w' = w := by
  have ha' := ha
  have hb' := hb
  obtain ⟨la, ⟨ao, ca, rfl, hca, hma, -⟩, hda, -⟩ := ha'
  obtain ⟨lb, ⟨bo, cb, rfl, hcb, hmb, -⟩, hdb, -⟩ := hb'
  unfold maxLen at hma hmb
  have HA : Hid (n < BB ^ la.length) := hda.1
  have HB : Hid (m < BB ^ lb.length) := hdb.1
  clear hda hdb
  generalize la.length = na at *
  generalize lb.length = nb at *
  go_enter Tryd.func87, Tryd.ntmps87
  go_wp2
  all_goals
    go_loop [5] (fun i => ∃ k : Nat, k ≤ na + nb ∧ k ≤ 9223372036854775807 ∧ i = .int .i64 ((k : Int) - 1) ∧ n / BB ^ k = m / BB ^ k) (fun i => (intOf i + 1).toNat)
    case atStart => first
      | exact ⟨na, by omega, by omega, rfl, by rw [Plain.div_zero_of (by decide) HA.out (Nat.le_refl _), Plain.div_zero_of (by decide) HB.out (by omega)]⟩
      | exact ⟨nb, by omega, by omega, rfl, by rw [Plain.div_zero_of (by decide) HA.out (by omega), Plain.div_zero_of (by decide) HB.out (Nat.le_refl _)]⟩
    case round =>
      obtain ⟨k, hk, hk2, rfl, hz⟩ := hrel
      have HZ := hide hz
      clear hz
      by_cases h0 : k = 0
      · subst h0
        go_wp2
        go_ret
        exact ⟨ret_int (Plain.cmp_eq HZ.out).symm, rfl⟩
      · obtain ⟨j, rfl⟩ : ∃ j, k = j + 1 := ⟨k - 1, by omega⟩
        go_wp2_with (go_at_call 107; refine (digit_big _ _ j _ _ _ (by assumption) (by omega)).mono ?_; rintro e w' ⟨rfl, rfl⟩)
        · go_ret
          have hq : dgt n j < dgt m j := by assumption
          exact ⟨ret_int (Plain.cmp_lt HZ.out hq).symm, rfl⟩
        · go_ret
          have hq : dgt m j < dgt n j := by assumption
          exact ⟨ret_int (Plain.cmp_gt HZ.out hq).symm, rfl⟩
        · go_round
          case rel =>
            have h1 : ¬ dgt m j < dgt n j := by assumption
            have h2 : ¬ dgt n j < dgt m j := by assumption
            exact ⟨j, by omega, by omega, by go_num, Plain.cmp_step HZ.out (by unfold dgt at h1 h2; omega)⟩
          case measure => simp [intOf]

end Go.Proofs.YtidfegilddlglaaDoor

/- Contracts of radicandref01: Add. -/
set_option linter.unusedVariables false
set_option linter.unusedSimpArgs false
set_option maxRecDepth 8000
namespace Go.Proofs.YtidfegilddlglaaDoor
open Go.RowKit

theorem info32 : (Tryd.prog.info? 95).map (fun i => (i.zero, i.size, i.bytes)) = some (some (.int .u32 0), 1, 4) := by kernel_rfl

theorem dgt_add (n m k : Nat) : ((Plain.carry BB n m k : Int) + (dgt n k : Int) + (dgt m k : Int)) % 4294967296 = (dgt (n + m) k : Int) := by
  have h := Plain.add_digit (n := n) (m := m) (k := k) (β := BB) (by decide)
  have e : (dgt (n + m) k : Int) = (((Plain.carry BB n m k + dgt n k + dgt m k) % 4294967296 : Nat) : Int) := congrArg _ h.symm
  rw [e]; omega
theorem cry_add (n m k : Nat) : ((Plain.carry BB n m k : Int) + (dgt n k : Int) + (dgt m k : Int)) / 4294967296 = (Plain.carry BB n m (k + 1) : Int) := by
  have h := Plain.add_carry (n := n) (m := m) (k := k) (β := BB) (by decide)
  have e : (Plain.carry BB n m (k + 1) : Int) = (((Plain.carry BB n m k + dgt n k + dgt m k) / 4294967296 : Nat) : Int) := congrArg _ h.symm
  rw [e]; omega

set_option maxHeartbeats 1000000 in
theorem refAdd_any (n m K L : Nat) (va vb : Value) (w : World) (ha : BigV w va n K) (hb : BigV w vb m L) (hK : K ≤ 1000000) (hL : L ≤ 1000000) :
    Calls Tryd.prog 76 #[va, vb] w fun e w' => ∃ v, e = .returned v ∧ BigV w' v (n + m) (max K L + 1) ∧ Below w.heap.size w w' := by
  have ha' := ha
  have hb' := hb
  obtain ⟨la, ⟨ao, ca, rfl, hca, hma, -⟩, hda, -, hka⟩ := ha'
  obtain ⟨lb, ⟨bo, cb, rfl, hcb, hmb, -⟩, hdb, -, hkb⟩ := hb'
  unfold maxLen at hma hmb
  have HA : Hid (n < BB ^ la.length) := hda.1
  have HB : Hid (m < BB ^ lb.length) := hdb.1
  clear hda hdb
  generalize la.length = na at *
  generalize lb.length = nb at *
  obtain ⟨i0, hi, hz0, hz1, hz2⟩ := info_parts info32
  rcases Nat.lt_or_ge na nb with hx | hx
  all_goals
    go_enter Tryd.func76, Tryd.ntmps76
    go_wp2
    go_loopw [5, 6, 7] (fun v c i wr => ∃ k : Nat, k ≤ max na nb + 1 ∧ i = .int .i64 k ∧ c = .int .u64 (Plain.carry BB n m k : Nat) ∧
        wr.ownsRow w.heap.size 95 1 v k ((Plain.dl BB (n + m) k).map mk32) ∧ Below w.heap.size w wr)
      (fun _ _ i _ => max na nb + 1 - (intOf i).toNat)
    case atStart => exact ⟨0, by omega, rfl, by rw [Plain.carry_zero]; rfl, World.ownsRow_nil _ _ _ _, Below.refl _ _⟩
    case round =>
      obtain ⟨k, hk, rfl, rfl, hown, hbel⟩ := hrel
      have ha1 := ha.below hbel
      have hb1 := hb.below hbel
      by_cases hlt : k ≤ max na nb
      · have b1 : Plain.carry BB n m k ≤ 1 := Plain.carry_le (by decide)
        have b2 := dgt_lt n k
        have b3 := dgt_lt m k
        have hsz := hbel.size
        go_wp2_with (first
          | (go_at_call 107; refine (digit_big _ _ k _ _ _ (by assumption) (by omega)).mono ?_; rintro e w' ⟨rfl, hw⟩; subst w')
          | (at_builtin; go_must (refine wpList_app1 w wr rfl _ _ 41 rfl w.heap.size 95 i0 (.int .u32 0) 4 Tryd.underlying41 hi hz0 hz1 hz2 rfl mk32 _ _ _ (by rfl) hown hbel _ (dgt (n + m) k) (congrArg (Value.int .u32) (dgt_add n m k)) rfl (by rfl) (by omega) (by omega) (by omega) ?_); intro v' w1 hown1 hbel1; clear hown hbel ha1 hb1 hsz))
        go_roundw
        case rel => exact ⟨k + 1, by omega, by go_num, congrArg (Value.int .u64) (cry_add n m k), by rw [Plain.dl_succ]; exact hown1, hbel1⟩
        case measure => simp [intOf]; omega
      · have hk : k = max na nb + 1 := by omega
        have hr := Rd.of_owns (l := Plain.dl BB (n + m) k) (by rw [Plain.dl_length]; exact hown)
        have hd := Plain.dl_dig BB (n + m) k (Plain.add_fits (by decide) HA.out HB.out (by omega) (by omega)) (by decide)
        have hl := Plain.dl_length BB (n + m) k
        have HK := hide hk
        clear hown ha1 hb1
        go_wp2_with (go_at_call 75; refine (trim_any _ _ (max K L + 1) _ _ hr hd (by omega)).mono ?_; rintro e w' ⟨v', rfl, hbig, hw⟩; subst w')
        go_ret
        exact ⟨_, rfl, hbig, hbel⟩

/-- The limbs l (of 64 bits) are the number n. -/
def LL : Nat := 18446744073709551616

theorem of_step (l : List Nat) (n k : Nat) (hd : Plain.Dig LL l n) : Plain.dl BB n (2 * (k + 1)) = Plain.dl BB n (2 * k) ++ [Plain.dg l k % 4294967296, Plain.dg l k / 4294967296] := by
  have e : 2 * (k + 1) = 2 * k + 1 + 1 := by omega
  have h := Plain.limb_digits BB n k
  rw [e, Plain.dl_succ, Plain.dl_succ, List.append_assoc, ← h.1, ← h.2, hd.2 k]
  rfl

set_option maxHeartbeats 1000000 in
theorem of_any (l : List Nat) (n : Nat) (va : Value) (w : World) (hr : Rd mk64 w va l) (hd : Plain.Dig LL l n) (hK : l.length ≤ 100000) :
    Calls Tryd.prog 108 #[va] w fun e w' => ∃ v, e = .returned v ∧ BigV w' v n (2 * l.length) ∧ Below w.heap.size w w' := by
  obtain ⟨ao, ca, rfl, hca, hma, hc⟩ := hr
  unfold maxLen at hma
  have HC := hide hc
  clear hc
  obtain ⟨i0, hi, hz0, hz1, hz2⟩ := info_parts info32
  go_enter Tryd.func108, Tryd.ntmps108
  go_wp2
  go_loopw [3, 4] (fun v i wr => ∃ k : Nat, k ≤ l.length ∧ i = .int .i64 k ∧
        wr.ownsRow w.heap.size 95 1 v (2 * k) ((Plain.dl BB n (2 * k)).map mk32) ∧ Below w.heap.size w wr)
      (fun _ i _ => l.length - (intOf i).toNat)
  case atStart => exact ⟨0, by omega, rfl, World.ownsRow_nil _ _ _ _, Below.refl _ _⟩
  case round =>
    obtain ⟨k, hk, rfl, hown, hbel⟩ := hrel
    by_cases hlt : k < l.length
    · rcases unhide HC with hc | ⟨b, off, rfl, hbl, hcell⟩
      · omega
      · have hck : wr.cell? ⟨b, off + k, none⟩ = some (.int .u64 (Plain.dg l k)) := (hbel.cell (p := ⟨b, off + k, none⟩) hbl).trans (hcell k hlt)
        have hb1 : Plain.dg l k < 18446744073709551616 := hd.lt (by decide) k
        have hsz := hbel.size
        have hi1 : (k : Int) < (l.length : Int) := by omega
        clear hcell
        have H2 : Hid ([Value.int .u32 (IntKind.u32.wrap (Plain.dg l k : Int)), Value.int .u32 (IntKind.u32.wrap ((Plain.dg l k : Int) / 4294967296))] = [Plain.dg l k % 4294967296, Plain.dg l k / 4294967296].map mk32) := by
          apply hide
          simp only [List.map_cons, List.map_nil, mk32, IntKind.wrap_u32]
          have e1 : (Plain.dg l k : Int) % 4294967296 = ((Plain.dg l k % 4294967296 : Nat) : Int) := by omega
          have e2 : (Plain.dg l k : Int) / 4294967296 % 4294967296 = ((Plain.dg l k / 4294967296 : Nat) : Int) := by omega
          rw [e1, e2]
        go_wp2
        go_region_law ((refine step_app w wr.drew rfl (.tmp 11) (.tmp 23) 41 rfl w.heap.size 95 i0 (.int .u32 0) 4 Tryd.underlying41 hi hz0 hz1 hz2 rfl mk32 _ _ _ (by rfl) (ownsRow_drew hown) hbel.drew _ _ (unhide H2) (fun _ => rfl) _ (by rfl) (by simp; omega) (by simp; omega) (by simp; omega) ?_; intro v' w1 hown1 hbel1; clear hown hbel hsz))
        all_goals
          have hown2 : w1.ownsRow w.heap.size 95 1 v' (2 * (k + 1)) ((Plain.dl BB n (2 * (k + 1))).map mk32) := by
            rw [of_step l n k hd]; exact hown1
          clear hown1
          go_wp2
          go_roundw
          case rel => exact ⟨k + 1, by omega, by go_num, hown2, hbel1⟩
          case measure => simp [intOf]; omega
    · have hk : k = l.length := by omega
      subst hk
      have hr := Rd.of_owns (l := Plain.dl BB n (2 * l.length)) (by rw [Plain.dl_length]; exact hown)
      have hd2 := Plain.dl_dig BB n (2 * l.length) (by rw [Nat.pow_mul]; exact hd.1) (by decide)
      have hl := Plain.dl_length BB n (2 * l.length)
      clear hown
      go_wp2_with (go_at_call 75; refine (trim_any _ _ (2 * l.length) _ _ hr hd2 (by omega)).mono ?_; rintro e w' ⟨v', rfl, hbig, hw⟩; subst w')
      go_ret
      exact ⟨_, rfl, hbig, hbel⟩

end Go.Proofs.YtidfegilddlglaaDoor

/- Contracts of radicandref01: Mul. -/
set_option linter.unusedVariables false
set_option linter.unusedSimpArgs false
set_option maxRecDepth 8000
namespace Go.Proofs.YtidfegilddlglaaDoor
open Go.RowKit Plain

def MulInv (n m na nb i k c : Nat) (o : List Nat) : Prop :=
  o.length = na + nb ∧ (∀ j, dg o j < BB) ∧ c < BB ∧ val BB o + c * BB ^ (i + k) = n % BB ^ i * m + BB ^ i * (n / BB ^ i % BB) * (m % BB ^ k) ∧ ∀ j, i + nb ≤ j → dg o j = 0
def MulOut (n m na nb i : Nat) (o : List Nat) : Prop :=
  o.length = na + nb ∧ (∀ j, dg o j < BB) ∧ val BB o = n % BB ^ i * m ∧ ∀ j, i + nb ≤ j → dg o j = 0

theorem mulOut_zero (n m na nb : Nat) : MulOut n m na nb 0 (List.replicate (na + nb) 0) :=
  ⟨by simp, fun j => by rw [dg_zeros]; decide, by rw [val_zeros]; simp [Nat.mod_one], fun j _ => dg_zeros _ j⟩
theorem mulInv_zero {n m na nb i : Nat} {o : List Nat} (h : MulOut n m na nb i o) : MulInv n m na nb i 0 0 o :=
  ⟨h.1, h.2.1, by decide, by rw [h.2.2.1]; simp [Nat.mod_one], h.2.2.2⟩
theorem mulInv_step {n m na nb i k c : Nat} {o : List Nat} (h : MulInv n m na nb i k c o) (hi : i < na) (hk : k < nb) :
    c + dg o (i + k) + dgt n i * dgt m k < 18446744073709551616 ∧
    MulInv n m na nb i (k + 1) ((c + dg o (i + k) + dgt n i * dgt m k) / 4294967296) (o.set (i + k) ((c + dg o (i + k) + dgt n i * dgt m k) % 4294967296)) := by
  obtain ⟨h1, h2, h3, h4, h5⟩ := h
  have hb := mul_bound h3 (h2 (i + k)) (dgt_lt n i) (dgt_lt m k)
  have hb' : c + dg o (i + k) + dgt n i * dgt m k < 18446744073709551616 := hb
  refine ⟨hb', by simp [h1], fun j => ?_, ?_, ?_, fun j hj => ?_⟩
  · rw [dg_set _ _ _ _ (by omega)]; split
    · exact Nat.mod_lt _ (by decide)
    · exact h2 j
  · show _ < 4294967296
    omega
  · have hs := val_set BB o (i + k) ((c + dg o (i + k) + dgt n i * dgt m k) % 4294967296) (by omega)
    have e := mul_step (β := BB) (d := dgt n i) (m := m) (k := k) (by decide) rfl hs h4
    rw [part_step, ← Nat.add_assoc i k 1, Nat.pow_succ]
    exact e
  · rw [dg_set _ _ _ _ (by omega), if_neg (by omega)]
    exact h5 j hj
theorem mulInv_end {n m na nb i c : Nat} {o : List Nat} (h : MulInv n m na nb i nb c o) (hi : i < na) (hm : m < BB ^ nb) : MulOut n m na nb (i + 1) (o.set (i + nb) c) := by
  obtain ⟨h1, h2, h3, h4, h5⟩ := h
  have hs := val_set BB o (i + nb) c (by omega)
  rw [h5 (i + nb) (Nat.le_refl _), Nat.zero_mul, Nat.add_zero, h4, Nat.mod_eq_of_lt hm, part_end] at hs
  refine ⟨by simp [h1], fun j => ?_, hs, fun j hj => ?_⟩
  · rw [dg_set _ _ _ _ (by omega)]; split
    · exact h3
    · exact h2 j
  · rw [dg_set _ _ _ _ (by omega), if_neg (by omega)]
    exact h5 j (by omega)
theorem mulOut_end {n m na nb : Nat} {o : List Nat} (h : MulOut n m na nb na o) (hn : n < BB ^ na) : Dig BB o (n * m) := by
  have := val_dig (β := BB) (by decide) o h.2.1
  rw [h.2.2.1, Nat.mod_eq_of_lt hn] at this
  exact this

theorem wrap_mul_add (c x d y : Nat) (h : c + x + d * y < 18446744073709551616) : IntKind.u64.wrap ((c : Int) + (x : Int) + IntKind.u64.wrap ((d : Int) * (y : Int))) = ((c + x + d * y : Nat) : Int) := by
  rw [← Int.natCast_mul, IntKind.wrap_u64, IntKind.wrap_u64]; omega

end Go.Proofs.YtidfegilddlglaaDoor

