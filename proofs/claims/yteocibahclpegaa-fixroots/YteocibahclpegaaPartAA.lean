/- Contracts and laws: Plain, NwtN, NrtN, GldN, GrtN. -/
/- Plain mathematics on naturals and lists of digits: nothing of the program is named here. -/
set_option linter.unusedVariables false
set_option linter.unusedSimpArgs false
set_option maxRecDepth 8000
namespace Go.Proofs.Yteocibahclpegaa.Plain

theorem split_mul (x1 x0 y1 y0 K : Nat) : (x1 * K + x0) * (y1 * K + y0) = x1 * y1 * (K * K) + (x1 * y0 + x0 * y1) * K + x0 * y0 := by
  simp only [Nat.mul_add, Nat.mul_comm, Nat.mul_left_comm]
  omega

theorem half_mul {a b : Nat} (ha : a ≤ 4294967295) (hb : b ≤ 4294967295) : a * b ≤ 18446744065119617025 := Nat.mul_le_mul ha hb

theorem mul_halves (x y : Nat) (hx : x < 18446744073709551616) (hy : y < 18446744073709551616) :
    (x % 4294967296) * (y % 4294967296) < 18446744073709551616 ∧
    (x / 4294967296) * (y % 4294967296) + (x % 4294967296) * (y % 4294967296) / 4294967296 < 18446744073709551616 ∧
    ((x / 4294967296) * (y % 4294967296) + (x % 4294967296) * (y % 4294967296) / 4294967296) % 4294967296 + (x % 4294967296) * (y / 4294967296) < 18446744073709551616 ∧
    (x / 4294967296) * (y / 4294967296) + ((x / 4294967296) * (y % 4294967296) + (x % 4294967296) * (y % 4294967296) / 4294967296) / 4294967296 +
      (((x / 4294967296) * (y % 4294967296) + (x % 4294967296) * (y % 4294967296) / 4294967296) % 4294967296 + (x % 4294967296) * (y / 4294967296)) / 4294967296 = x * y / 18446744073709551616 ∧
    (x / 4294967296) * (y / 4294967296) < 18446744073709551616 ∧ (x / 4294967296) * (y % 4294967296) < 18446744073709551616 ∧ (x % 4294967296) * (y / 4294967296) < 18446744073709551616 ∧
    x / 4294967296 * (y / 4294967296) + (x / 4294967296 * (y % 4294967296) + x % 4294967296 * (y % 4294967296) / 4294967296) / 4294967296 < 18446744073709551616 ∧
    x / 4294967296 * (y / 4294967296) + (x / 4294967296 * (y % 4294967296) + x % 4294967296 * (y % 4294967296) / 4294967296) / 4294967296 + ((x / 4294967296 * (y % 4294967296) + x % 4294967296 * (y % 4294967296) / 4294967296) % 4294967296 + x % 4294967296 * (y / 4294967296)) / 4294967296 < 18446744073709551616 := by
  have e : x * y = (x / 4294967296) * (y / 4294967296) * (4294967296 * 4294967296) + ((x / 4294967296) * (y % 4294967296) + (x % 4294967296) * (y / 4294967296)) * 4294967296 + (x % 4294967296) * (y % 4294967296) := by
    rw [← split_mul, Nat.div_add_mod' x 4294967296, Nat.div_add_mod' y 4294967296]
  have ha := half_mul (a := x / 4294967296) (b := y / 4294967296) (by omega) (by omega)
  have hb := half_mul (a := x / 4294967296) (b := y % 4294967296) (by omega) (by omega)
  have hc := half_mul (a := x % 4294967296) (b := y / 4294967296) (by omega) (by omega)
  have hd := half_mul (a := x % 4294967296) (b := y % 4294967296) (by omega) (by omega)
  rw [e]
  generalize (x / 4294967296) * (y / 4294967296) = a at *
  generalize (x / 4294967296) * (y % 4294967296) = b at *
  generalize (x % 4294967296) * (y / 4294967296) = c at *
  generalize (x % 4294967296) * (y % 4294967296) = d at *
  refine ⟨by omega, by omega, by omega, by omega, by omega, by omega, by omega, by omega, by omega⟩

/-- A digit; 0 beyond. -/
def dg (l : List Nat) (i : Nat) : Nat := l.getD i 0
theorem dg_eq (l : List Nat) (i : Nat) : dg l i = l.getD i 0 := rfl

/-- l are the digits of n to the base β, the lowest first. -/
def Dig (β : Nat) (l : List Nat) (n : Nat) : Prop := n < β ^ l.length ∧ ∀ i, dg l i = n / β ^ i % β
/-- Without noughts at the end. -/
def Norm (β : Nat) (l : List Nat) (n : Nat) : Prop := l.length = 0 ∨ β ^ (l.length - 1) ≤ n

theorem getD_past (l : List Nat) (k : Nat) (h : l.length ≤ k) : dg l k = 0 := by
  rw [dg_eq, List.getD_eq_getElem?_getD, List.getElem?_eq_none h]; rfl

theorem getD_take (l : List Nat) (k i : Nat) : dg (l.take k) i = if i < k then dg l i else 0 := by
  rw [dg_eq, dg_eq, List.getD_eq_getElem?_getD, List.getD_eq_getElem?_getD, List.getElem?_take]
  split <;> simp

theorem Dig.lt {β : Nat} {l : List Nat} {n : Nat} (h : Dig β l n) (hβ : 0 < β) (i : Nat) : dg l i < β := by
  rw [h.2 i]; exact Nat.mod_lt _ hβ

theorem div_pow_succ (n β k : Nat) : n / β ^ (k + 1) = n / β ^ k / β := by rw [Nat.pow_succ, Nat.div_div_eq_div_mul]

theorem lt_of_digit_zero {n β k : Nat} (hβ : 0 < β) (h : n < β ^ (k + 1)) (h0 : n / β ^ k % β = 0) : n < β ^ k := by
  have hp : 0 < β ^ k := Nat.pow_pos hβ
  have h1 : n / β ^ k < β := by rw [Nat.div_lt_iff_lt_mul hp]; rw [Nat.pow_succ, Nat.mul_comm] at h; exact h
  rw [Nat.mod_eq_of_lt h1] at h0
  rcases Nat.lt_or_ge n (β ^ k) with h2 | h2
  · exact h2
  · have := Nat.div_pos h2 hp; omega

theorem Dig.cut {β : Nat} {l : List Nat} {n : Nat} (hβ : 0 < β) (h : Dig β l n) (k : Nat) (hk : k ≤ l.length) (h0 : ∀ j, k ≤ j → dg l j = 0) : Dig β (l.take k) n := by
  have hlt : ∀ m, k ≤ m → m ≤ l.length → n < β ^ m → n < β ^ k := by
    intro m
    induction m with
    | zero => intro h1 _ h3; have : k = 0 := by omega
              subst this; exact h3
    | succ m ih =>
      intro h1 h2 h3
      rcases Nat.lt_or_ge m k with h4 | h4
      · have : k = m + 1 := by omega
        rw [this]; exact h3
      · exact ih h4 (by omega) (lt_of_digit_zero hβ h3 (by rw [← h.2 m]; exact h0 m h4))
  have hn : n < β ^ k := hlt l.length hk (Nat.le_refl _) h.1
  refine ⟨by rw [List.length_take, Nat.min_eq_left hk]; exact hn, fun i => ?_⟩
  rw [getD_take]
  split
  · exact h.2 i
  · rename_i hi
    rw [Nat.div_eq_of_lt (Nat.lt_of_lt_of_le hn (Nat.pow_le_pow_right hβ (by omega)))]
    simp

theorem Dig.norm {β : Nat} {l : List Nat} {n : Nat} (hβ : 0 < β) (h : Dig β l n) (h0 : l.length = 0 ∨ dg l (l.length - 1) ≠ 0) : Norm β l n := by
  rcases h0 with h0 | h0
  · exact .inl h0
  · refine .inr ?_
    rcases Nat.lt_or_ge n (β ^ (l.length - 1)) with h1 | h1
    · exfalso; apply h0; rw [h.2, Nat.div_eq_of_lt h1]; simp
    · exact h1

theorem div_split (n β j : Nat) : n / β ^ j = n / β ^ (j + 1) * β + n / β ^ j % β := by
  rw [div_pow_succ, Nat.mul_comm, Nat.div_add_mod]

theorem lt_of_div {n m p : Nat} (h : n / p < m / p) : n < m := by
  rcases Nat.lt_or_ge n m with h1 | h1
  · exact h1
  · have := Nat.div_le_div_right (c := p) h1; omega

/-- Which of two numbers is above. -/
def cmpN (n m : Nat) : Int := if n < m then -1 else if m < n then 1 else 0

theorem cmp_lt {n m β j : Nat} (h : n / β ^ (j + 1) = m / β ^ (j + 1)) (hd : n / β ^ j % β < m / β ^ j % β) : cmpN n m = -1 := by
  have h1 := div_split n β j
  have h2 := div_split m β j
  have : n < m := lt_of_div (p := β ^ j) (by rw [h1, h2, h]; omega)
  unfold cmpN; rw [if_pos this]

theorem cmp_gt {n m β j : Nat} (h : n / β ^ (j + 1) = m / β ^ (j + 1)) (hd : m / β ^ j % β < n / β ^ j % β) : cmpN n m = 1 := by
  have h1 := div_split n β j
  have h2 := div_split m β j
  have : m < n := lt_of_div (p := β ^ j) (by rw [h1, h2, h]; omega)
  unfold cmpN; rw [if_neg (by omega), if_pos this]

theorem cmp_step {n m β j : Nat} (h : n / β ^ (j + 1) = m / β ^ (j + 1)) (hd : n / β ^ j % β = m / β ^ j % β) : n / β ^ j = m / β ^ j := by
  have h1 := div_split n β j
  have h2 := div_split m β j
  rw [h1, h2, h]; omega

theorem cmp_eq {n m β : Nat} (h : n / β ^ 0 = m / β ^ 0) : cmpN n m = 0 := by
  simp at h; unfold cmpN; simp [h]

theorem div_zero_of {n β k l : Nat} (hβ : 0 < β) (h : n < β ^ l) (hk : l ≤ k) : n / β ^ k = 0 :=
  Nat.div_eq_of_lt (Nat.lt_of_lt_of_le h (Nat.pow_le_pow_right hβ hk))

/-- The lowest k digits of n. -/
def dl (β n k : Nat) : List Nat := (List.range k).map (fun j => n / β ^ j % β)
theorem dl_length (β n k : Nat) : (dl β n k).length = k := by simp [dl]
theorem dl_succ (β n k : Nat) : dl β n (k + 1) = dl β n k ++ [n / β ^ k % β] := by simp [dl, List.range_succ]
theorem dl_dig (β n k : Nat) (h : n < β ^ k) (hβ : 0 < β) : Dig β (dl β n k) n := by
  refine ⟨by rw [dl_length]; exact h, fun i => ?_⟩
  rcases Nat.lt_or_ge i k with hi | hi
  · simp [dg, dl, hi]
  · rw [getD_past _ _ (by rw [dl_length]; exact hi), Nat.div_eq_of_lt (Nat.lt_of_lt_of_le h (Nat.pow_le_pow_right hβ hi))]; simp

/-- What is carried of a sum behind k digits. -/
def carry (β n m k : Nat) : Nat := (n % β ^ k + m % β ^ k) / β ^ k
theorem carry_zero (β n m : Nat) : carry β n m 0 = 0 := by simp [carry, Nat.mod_one]
theorem carry_le {β n m k : Nat} (hβ : 0 < β) : carry β n m k ≤ 1 := by
  have hp : 0 < β ^ k := Nat.pow_pos hβ
  have h1 := Nat.mod_lt n hp
  have h2 := Nat.mod_lt m hp
  unfold carry
  have : (n % β ^ k + m % β ^ k) / β ^ k < 2 := by rw [Nat.div_lt_iff_lt_mul hp]; omega
  omega
theorem add_digit {β n m k : Nat} (hβ : 0 < β) : (carry β n m k + n / β ^ k % β + m / β ^ k % β) % β = (n + m) / β ^ k % β := by
  have hp : 0 < β ^ k := Nat.pow_pos hβ
  have e : (n + m) / β ^ k = n / β ^ k + m / β ^ k + carry β n m k := by
    have e1 : n + m = (n % β ^ k + m % β ^ k) + β ^ k * (n / β ^ k + m / β ^ k) := by
      have h1 := Nat.div_add_mod n (β ^ k)
      have h2 := Nat.div_add_mod m (β ^ k)
      rw [Nat.mul_add]; omega
    rw [e1, Nat.add_mul_div_left _ _ hp]
    unfold carry; omega
  rw [e, Nat.add_assoc, Nat.add_comm (carry β n m k), Nat.add_mod _ (carry β n m k), ← Nat.add_mod (n / β ^ k), ← Nat.add_mod]
theorem add_carry {β n m k : Nat} (hβ : 0 < β) : (carry β n m k + n / β ^ k % β + m / β ^ k % β) / β = carry β n m (k + 1) := by
  have hp : 0 < β ^ k := Nat.pow_pos hβ
  unfold carry
  rw [Nat.pow_succ, Nat.mod_mul, Nat.mod_mul, ← Nat.div_div_eq_div_mul]
  have e : n % β ^ k + β ^ k * (n / β ^ k % β) + (m % β ^ k + β ^ k * (m / β ^ k % β)) = (n % β ^ k + m % β ^ k) + β ^ k * (n / β ^ k % β + m / β ^ k % β) := by rw [Nat.mul_add]; omega
  rw [e, Nat.add_mul_div_left _ _ hp, Nat.add_assoc]
theorem add_fits {β n m a b k : Nat} (hβ : 2 ≤ β) (hn : n < β ^ a) (hm : m < β ^ b) (ha : a < k) (hb : b < k) : n + m < β ^ k := by
  have h1 : β ^ a ≤ β ^ (k - 1) := Nat.pow_le_pow_right (by omega) (by omega)
  have h2 : β ^ b ≤ β ^ (k - 1) := Nat.pow_le_pow_right (by omega) (by omega)
  have e : β ^ k = β ^ (k - 1) * β := by rw [← Nat.pow_succ]; congr 1; omega
  have h3 : β ^ (k - 1) * 2 ≤ β ^ (k - 1) * β := Nat.mul_le_mul_left _ hβ
  omega

/-- One limb of 64 bits is two digits of 32: of n to the base β * β. -/
theorem limb_digits (β n k : Nat) : n / (β * β) ^ k % (β * β) % β = n / β ^ (2 * k) % β ∧ n / (β * β) ^ k % (β * β) / β = n / β ^ (2 * k + 1) % β := by
  have e : (β * β) ^ k = β ^ (2 * k) := by rw [Nat.pow_mul, Nat.pow_two]
  rw [e, Nat.mod_mul_right_mod, Nat.mod_mul_right_div_self, div_pow_succ]
  exact ⟨rfl, rfl⟩

/-- What digits are worth. -/
def val (β : Nat) : List Nat → Nat
  | [] => 0
  | d :: l => d + β * val β l

theorem dg_cons_zero (d : Nat) (l : List Nat) : dg (d :: l) 0 = d := rfl
theorem dg_cons_succ (d : Nat) (l : List Nat) (i : Nat) : dg (d :: l) (i + 1) = dg l i := rfl

theorem val_dig {β : Nat} (hβ : 0 < β) : ∀ l : List Nat, (∀ i, dg l i < β) → Dig β l (val β l)
  | [], _ => ⟨by simp [val], fun i => by simp [val, dg]⟩
  | d :: l, h => by
    have ih := val_dig hβ l (fun i => h (i + 1))
    have hd : d < β := h 0
    refine ⟨?_, fun i => ?_⟩
    · show d + β * val β l < β ^ (l.length + 1)
      rw [Nat.pow_succ, Nat.mul_comm (β ^ l.length)]
      have h2 : β * (val β l + 1) ≤ β * β ^ l.length := Nat.mul_le_mul_left _ ih.1
      rw [Nat.mul_add] at h2; omega
    · cases i with
      | zero => simp [val, dg_cons_zero, Nat.mod_eq_of_lt hd]
      | succ i =>
        rw [dg_cons_succ, ih.2 i]
        show _ = (d + β * val β l) / β ^ (i + 1) % β
        rw [Nat.pow_succ, Nat.mul_comm (β ^ i), ← Nat.div_div_eq_div_mul, Nat.add_mul_div_left _ _ hβ, Nat.div_eq_of_lt hd, Nat.zero_add]

theorem dig_val {β : Nat} (hβ : 0 < β) : ∀ (l : List Nat) (n : Nat), Dig β l n → val β l = n
  | [], n, h => by have := h.1; simp at this; simp [val, this]
  | d :: l, n, h => by
    have h0 : d = n % β := by have := h.2 0; simpa [dg_cons_zero] using this
    have ih := dig_val hβ l (n / β) ⟨by
        have := h.1
        rw [List.length_cons, Nat.pow_succ] at this
        exact (Nat.div_lt_iff_lt_mul hβ).2 this, fun i => by
        have := h.2 (i + 1)
        rw [dg_cons_succ, Nat.pow_succ, Nat.mul_comm (β ^ i), ← Nat.div_div_eq_div_mul] at this
        exact this⟩
    show d + β * val β l = n
    rw [ih, h0, Nat.mod_add_div]

theorem dg_set (l : List Nat) (j y i : Nat) (hj : j < l.length) : dg (l.set j y) i = if i = j then y else dg l i := by
  simp only [dg, List.getD_eq_getElem?_getD, List.getElem?_set]
  by_cases h : j = i
  · subst h; simp [hj]
  · rw [if_neg h, if_neg (by omega)]

theorem val_set (β : Nat) : ∀ (l : List Nat) (j y : Nat), j < l.length → val β (l.set j y) + dg l j * β ^ j = val β l + y * β ^ j
  | [], j, y, h => by simp at h
  | d :: l, 0, y, _ => by simp [val, dg_cons_zero]; omega
  | d :: l, j + 1, y, h => by
    have ih := val_set β l j y (by simpa using h)
    show d + β * val β (l.set j y) + dg l j * β ^ (j + 1) = d + β * val β l + y * β ^ (j + 1)
    have e1 : dg l j * β ^ (j + 1) = β * (dg l j * β ^ j) := by rw [Nat.pow_succ]; simp [Nat.mul_comm, Nat.mul_assoc]
    have e2 : y * β ^ (j + 1) = β * (y * β ^ j) := by rw [Nat.pow_succ]; simp [Nat.mul_comm, Nat.mul_left_comm]
    rw [e1, e2, Nat.add_assoc, ← Nat.mul_add, ih, Nat.mul_add]; omega

theorem val_zeros (β k : Nat) : val β (List.replicate k 0) = 0 := by
  induction k with
  | zero => rfl
  | succ k ih => simp [List.replicate_succ, val, ih]
theorem dg_zeros (k i : Nat) : dg (List.replicate k 0) i = 0 := by
  simp [dg, List.getElem?_replicate]; split <;> rfl

/-- One step of the school method: the digit and what is carried on. -/
theorem mul_step {β S S' c d x t m k P : Nat} (hβ : 0 < β) (ht : t = c + x + d * (m / β ^ k % β)) (hS : S' + x * P = S + t % β * P) {X : Nat} (hX : S + c * P = X) :
    S' + t / β * (P * β) = X + d * (m / β ^ k % β) * P := by
  have e : t / β * (P * β) + t % β * P = t * P := by
    have h := Nat.div_add_mod t β
    have e1 : t / β * (P * β) = β * (t / β) * P := by simp [Nat.mul_comm, Nat.mul_left_comm]
    rw [e1, ← Nat.add_mul, h]
  have e2 : t * P = c * P + x * P + d * (m / β ^ k % β) * P := by rw [ht]; simp [Nat.add_mul]
  omega

/-- A product's sum so far, digit by digit. -/
theorem part_step (β n m i k : Nat) : n % β ^ i * m + β ^ i * (n / β ^ i % β) * (m % β ^ (k + 1)) = n % β ^ i * m + β ^ i * (n / β ^ i % β) * (m % β ^ k) + n / β ^ i % β * (m / β ^ k % β) * β ^ (i + k) := by
  have e : m % β ^ (k + 1) = m % β ^ k + β ^ k * (m / β ^ k % β) := by rw [Nat.pow_succ, Nat.mod_mul]
  rw [e, Nat.mul_add, Nat.pow_add, Nat.add_assoc]
  congr 2
  simp [Nat.mul_comm, Nat.mul_left_comm, Nat.mul_assoc]

theorem part_end (β n m i : Nat) : n % β ^ i * m + β ^ i * (n / β ^ i % β) * m = n % β ^ (i + 1) * m := by
  rw [Nat.pow_succ, Nat.mod_mul, ← Nat.add_mul]

theorem mul_bound {β c x d y : Nat} (hc : c < β) (hx : x < β) (hd : d < β) (hy : y < β) : c + x + d * y < β * β := by
  have h1 : d * y ≤ (β - 1) * (β - 1) := Nat.mul_le_mul (by omega) (by omega)
  obtain ⟨b, rfl⟩ : ∃ b, β = b + 1 := ⟨β - 1, by omega⟩
  simp only [Nat.add_sub_cancel] at h1
  rw [Nat.add_mul, Nat.mul_add]
  omega

theorem shl_digit (T R q : Nat) (hT : 0 < T) (hR : 0 < R) : q / R % (T * R) = T * (q / (T * R) % (T * R) % R) + q % (T * R) / R := by
  have hd := Nat.div_add_mod q (T * R)
  have e1 : q / R = T * (q / (T * R)) + q % (T * R) / R := by
    have e2 : q = q % (T * R) + R * (T * (q / (T * R))) := by
      have : R * (T * (q / (T * R))) = T * R * (q / (T * R)) := by rw [← Nat.mul_assoc, Nat.mul_comm R T]
      omega
    rw [Nat.add_comm (T * _)]
    conv => lhs; rw [e2]
    rw [Nat.add_mul_div_left _ _ hR]
  have e3 : q / (T * R) % (T * R) % R = q / (T * R) % R := by rw [Nat.mul_comm T R, Nat.mod_mul_right_mod]
  have h4 : q % (T * R) / R < T := by
    rw [Nat.div_lt_iff_lt_mul hR]; exact Nat.mod_lt _ (Nat.mul_pos hT hR)
  have h5 : T * (q / (T * R) % R) + T ≤ T * R := by
    rw [← Nat.mul_succ]; exact Nat.mul_le_mul_left _ (Nat.mod_lt _ hR)
  rw [e1, e3, Nat.add_mod, Nat.mul_mod_mul_left, Nat.mod_eq_of_lt (a := q % (T * R) / R) (by have := Nat.le_mul_of_pos_right T hR; omega), Nat.mod_eq_of_lt (by omega)]

/-- The digit at place e (0 below) of n, shifted up by less than a digit: T = 2^by, R = 2^(64 - by). -/
theorem shift_digit (T R n e : Nat) (hT : 0 < T) (hR : 0 < R) :
    n * T / (T * R) ^ (e + 1) % (T * R) = T * (n / (T * R) ^ (e + 1) % (T * R) % R) + n / (T * R) ^ e % (T * R) / R := by
  have h := shl_digit T R (n / (T * R) ^ e) hT hR
  rw [Nat.div_div_eq_div_mul, Nat.div_div_eq_div_mul, ← Nat.pow_succ] at h
  rw [← h]
  congr 1
  have e1 : (T * R) ^ (e + 1) = (T * R) ^ e * R * T := by rw [Nat.pow_succ, Nat.mul_assoc, Nat.mul_comm R T]
  rw [e1, Nat.mul_div_mul_right _ _ hT]
theorem shift_digit0 (T R n : Nat) (hR : 0 < R) : n * T / (T * R) ^ 0 % (T * R) = T * (n / (T * R) ^ 0 % (T * R) % R) := by
  simp only [Nat.pow_zero, Nat.div_one]
  rw [Nat.mul_comm T R, Nat.mod_mul_right_mod, Nat.mul_comm R T, Nat.mul_comm n T, Nat.mul_mod_mul_left]

theorem dig_nil {β : Nat} : Dig β [] 0 := ⟨by simp, fun i => by simp [dg]⟩

theorem dig_one {β a : Nat} (ha : a < β) : Dig β [a] a := by
  refine ⟨by simpa using ha, fun i => ?_⟩
  cases i with
  | zero => simp [dg, Nat.mod_eq_of_lt ha]
  | succ i =>
    have h : a / β ^ (i + 1) = 0 := Nat.div_eq_of_lt (Nat.lt_of_lt_of_le ha (by rw [Nat.pow_succ]; exact Nat.le_mul_of_pos_left _ (Nat.pow_pos (by omega))))
    rw [h]; simp [dg]

theorem val_append (β : Nat) : ∀ (l m : List Nat), val β (l ++ m) = val β l + β ^ l.length * val β m
  | [], m => by simp [val]
  | d :: l, m => by
    show d + β * val β (l ++ m) = d + β * val β l + β ^ (l.length + 1) * val β m
    rw [val_append β l m, Nat.mul_add, Nat.pow_succ, Nat.add_assoc, Nat.mul_comm (β ^ l.length) β, Nat.mul_assoc]

/-- 1, if a's lowest k digits are below b's. -/
def bor (β a b k : Nat) : Nat := if a % β ^ k < b % β ^ k then 1 else 0
theorem bor_le (β a b k : Nat) : bor β a b k ≤ 1 := by unfold bor; split <;> omega
theorem bor_zero (β a b : Nat) : bor β a b 0 = 0 := by simp [bor, Nat.mod_one]

theorem bor_succ {β : Nat} (hβ : 0 < β) (a b k : Nat) : bor β a b (k + 1) = if a / β ^ k % β < b / β ^ k % β + bor β a b k then 1 else 0 := by
  have e1 : a % β ^ (k + 1) = a % β ^ k + β ^ k * (a / β ^ k % β) := by rw [Nat.pow_succ, Nat.mod_mul]
  have e2 : b % β ^ (k + 1) = b % β ^ k + β ^ k * (b / β ^ k % β) := by rw [Nat.pow_succ, Nat.mod_mul]
  have hp : 0 < β ^ k := Nat.pow_pos hβ
  have ha := Nat.mod_lt a hp
  have hb := Nat.mod_lt b hp
  unfold bor
  rw [e1, e2]
  generalize a / β ^ k % β = u at *
  generalize b / β ^ k % β = v at *
  generalize β ^ k = P at *
  generalize a % P = x at *
  generalize b % P = y at *
  rcases Nat.lt_trichotomy u v with h | h | h
  · have : P * u + P ≤ P * v := by rw [← Nat.mul_succ]; exact Nat.mul_le_mul_left _ h
    rw [if_pos (by omega), if_pos (by omega)]
  · subst h
    by_cases hxy : x < y
    · rw [if_pos (by omega), if_pos hxy, if_pos (by omega)]
    · rw [if_neg (by omega), if_neg hxy, if_neg (by omega)]
  · have : P * v + P ≤ P * u := by rw [← Nat.mul_succ]; exact Nat.mul_le_mul_left _ h
    have h2 : (if x < y then 1 else 0) ≤ 1 := by split <;> omega
    rw [if_neg (by omega), if_neg (by omega)]

/-- The digit of a difference. -/
def sbd (β a b i : Nat) : Nat := if a / β ^ i % β < b / β ^ i % β + bor β a b i then a / β ^ i % β + β - b / β ^ i % β - bor β a b i else a / β ^ i % β - b / β ^ i % β - bor β a b i
theorem sbd_eq {β : Nat} (hβ : 0 < β) (a b k : Nat) : sbd β a b k < β ∧ sbd β a b k + (b / β ^ k % β + bor β a b k) = a / β ^ k % β + β * bor β a b (k + 1) := by
  rw [bor_succ hβ]
  unfold sbd
  have h1 := Nat.mod_lt (a / β ^ k) hβ
  have h2 := Nat.mod_lt (b / β ^ k) hβ
  have h3 := bor_le β a b k
  generalize a / β ^ k % β = u at *
  generalize b / β ^ k % β = v at *
  generalize bor β a b k = o at *
  by_cases h : u < v + o
  · rw [if_pos h, if_pos h]; omega
  · rw [if_neg h, if_neg h]; omega

theorem sbd_sum {β : Nat} (hβ : 0 < β) (a b k : Nat) : val β ((List.range k).map (sbd β a b)) + b % β ^ k = a % β ^ k + β ^ k * bor β a b k := by
  induction k with
  | zero => rw [bor_zero]; simp [val, Nat.mod_one]
  | succ k ih =>
    have hs := (sbd_eq hβ a b k).2
    have e0 : val β ((List.range (k + 1)).map (sbd β a b)) = val β ((List.range k).map (sbd β a b)) + β ^ k * sbd β a b k := by
      rw [List.range_succ, List.map_append, val_append]
      simp [val]
    have e1 : a % β ^ (k + 1) = a % β ^ k + β ^ k * (a / β ^ k % β) := by rw [Nat.pow_succ, Nat.mod_mul]
    have e2 : b % β ^ (k + 1) = b % β ^ k + β ^ k * (b / β ^ k % β) := by rw [Nat.pow_succ, Nat.mod_mul]
    have e3 : β ^ (k + 1) * bor β a b (k + 1) = β ^ k * (β * bor β a b (k + 1)) := by rw [Nat.pow_succ, Nat.mul_assoc]
    rw [e0, e1, e2, e3]
    have e4 : β ^ k * sbd β a b k + (β ^ k * (b / β ^ k % β) + β ^ k * bor β a b k) = β ^ k * (a / β ^ k % β) + β ^ k * (β * bor β a b (k + 1)) := by rw [← Nat.mul_add, ← Nat.mul_add, hs, Nat.mul_add]
    omega

/-- a without b, modulo β^K. -/
def subW (β K a b : Nat) : Nat := val β ((List.range K).map (sbd β a b))
theorem subW_dig {β : Nat} (hβ : 0 < β) (K a b : Nat) : Dig β ((List.range K).map (sbd β a b)) (subW β K a b) := by
  refine val_dig hβ _ (fun j => ?_)
  rcases Nat.lt_or_ge j K with h | h
  · have := (sbd_eq hβ a b j).1
    simpa [dg, h] using this
  · rw [getD_past _ _ (by simpa using h)]; exact hβ
theorem subW_digit {β : Nat} (hβ : 0 < β) (K a b i : Nat) (hi : i < K) : subW β K a b / β ^ i % β = sbd β a b i := by
  rw [← (subW_dig hβ K a b).2 i]; simp [dg, hi]
theorem subW_lt {β : Nat} (hβ : 0 < β) (K a b : Nat) : subW β K a b < β ^ K := by
  have := (subW_dig hβ K a b).1; simpa using this
/-- What it is. -/
theorem subW_eq {β : Nat} (hβ : 0 < β) (K a b : Nat) : subW β K a b + b % β ^ K = a % β ^ K + β ^ K * bor β a b K := sbd_sum hβ a b K

end Go.Proofs.Yteocibahclpegaa.Plain

/- Plain numbers of layers 17 and 19: how near the first guesses are; rounds that make a reciprocal better (nothing of the program). -/
set_option linter.unusedVariables false
set_option linter.unusedSimpArgs false
set_option maxRecDepth 8000
namespace Go.Proofs.Yteocibahclpegaa

end Go.Proofs.Yteocibahclpegaa

/- Plain numbers of layers 17 and 20: how near the first guesses of roots are; rounds that make a root's reciprocal better (nothing of the program). -/
set_option linter.unusedVariables false
set_option linter.unusedSimpArgs false
set_option maxRecDepth 8000
namespace Go.Proofs.Yteocibahclpegaa

end Go.Proofs.Yteocibahclpegaa

/- Plain numbers of layers 21 and 22: rounds that make a denominator 1, a product one half (nothing of the program). -/
set_option linter.unusedVariables false
set_option linter.unusedSimpArgs false
set_option maxRecDepth 8000
namespace Go.Proofs.Yteocibahclpegaa

end Go.Proofs.Yteocibahclpegaa

/- Plain numbers of layer 22: rounds that make a product one half, and keep a root (nothing of the program). -/
set_option linter.unusedVariables false
set_option linter.unusedSimpArgs false
set_option maxRecDepth 8000
namespace Go.Proofs.Yteocibahclpegaa

end Go.Proofs.Yteocibahclpegaa

