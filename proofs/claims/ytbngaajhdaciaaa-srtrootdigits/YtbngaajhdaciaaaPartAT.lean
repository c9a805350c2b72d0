/- Contracts and laws: SrtR, SrtG, SrtH, SrtI, SrtJ, TabF, SrqJ. -/
import Derived.Test.YtbngaajhdaciaaaPartAP
import Derived.Test.YtbngaajhdaciaaaPartAL
import Derived.Test.YtbngaajhdaciaaaPartAJ
import Derived.Test.YtbngaajhdaciaaaPartAG
import Derived.Test.YtbngaajhdaciaaaPartAM
/- Plain numbers of layer 16: the root so far stays within two thirds of its last digit's worth of the root (nothing of the program but the table's own numbers). -/
set_option linter.unusedVariables false
set_option linter.unusedSimpArgs false
set_option maxRecDepth 8000
namespace Go.Proofs.Ytbngaajhdaciaaa
open Plain

theorem mul4c (a b c d : Int) : (a * b) * (c * d) = (a * c) * (b * d) := by
  rw [Int.mul_assoc, Int.mul_left_comm b c d, ← Int.mul_assoc]
theorem sqc (P w c : Int) : (3 * P + c * w) * (3 * P + c * w) = 9 * (P * P) + 6 * (c * (P * w)) + c * c * (w * w) := by
  have e1 : (3 * P) * (3 * P) = 9 * (P * P) := by rw [mul4c]; rfl
  have e2 : (3 * P) * (c * w) = 3 * (c * (P * w)) := by rw [Int.mul_assoc, Int.mul_left_comm P c w]
  have e3 : (c * w) * (3 * P) = 3 * (c * (P * w)) := by rw [Int.mul_comm, e2]
  have e4 : (c * w) * (c * w) = c * c * (w * w) := mul4c _ _ _ _
  rw [Int.add_mul, Int.mul_add, Int.mul_add, e1, e2, e3, e4]
  omega

/-- How a step's worth stands to a 64th. -/
def WZ (j : Nat) (w Z : Int) : Prop := (j = 0 ∧ w = 16 * Z) ∨ (j = 1 ∧ w = 4 * Z) ∨ (j = 2 ∧ w = Z) ∨ (3 ≤ j ∧ 4 * w ≤ Z)

/-- One step: what a bound tells of the squares. G is Z w, H is s Z w, F what P has beyond s Z, times w, V is w w. -/
theorem root_step (N P Z w s y : Int) (j : Nat) (hZ : 0 < Z) (hw : 0 < w) (hj : WZ j w Z) (hs1 : s * Z ≤ P) (hs2 : P < (s + 1) * Z) (h32 : 32 ≤ s) (h64 : s ≤ 64)
    (hy1 : y * (Z * w) ≤ N - P * P) (hy2 : N - P * P < (y + 1) * (Z * w)) (hlo : (3 * P - 8 * w) * (3 * P - 8 * w) ≤ 9 * N) (hhi : 9 * N ≤ (3 * P + 8 * w) * (3 * P + 8 * w)) :
    -2 ≤ chN (rbN j s) y ∧ chN (rbN j s) y ≤ 2 ∧ (3 * (P + chN (rbN j s) y * w) - 2 * w) * (3 * (P + chN (rbN j s) y * w) - 2 * w) ≤ 9 * N ∧ 9 * N ≤ (3 * (P + chN (rbN j s) y * w) + 2 * w) * (3 * (P + chN (rbN j s) y * w) + 2 * w) := by
  have hG : 0 < Z * w := Int.mul_pos hZ hw
  have up : ∀ b : Int, b ≤ y → b * (Z * w) ≤ N - P * P := fun b hb => Int.le_trans (Int.mul_le_mul_of_nonneg_right hb (by omega)) hy1
  have dn : ∀ b : Int, ¬ b ≤ y → N - P * P < b * (Z * w) := fun b hb => Int.lt_of_lt_of_le hy2 (Int.mul_le_mul_of_nonneg_right (by omega) (by omega))
  obtain ⟨G, hGe⟩ : ∃ G, Z * w = G := ⟨_, rfl⟩
  obtain ⟨H, hHe⟩ : ∃ H, s * G = H := ⟨_, rfl⟩
  obtain ⟨Y, hYe⟩ : ∃ Y, P * w = Y := ⟨_, rfl⟩
  obtain ⟨V, hVe⟩ : ∃ V, w * w = V := ⟨_, rfl⟩
  have b1 : H ≤ Y := by
    rw [← hHe, ← hGe, ← hYe, ← Int.mul_assoc]
    exact Int.mul_le_mul_of_nonneg_right hs1 (by omega)
  have b2 : Y ≤ H + G := by
    have h := Int.mul_le_mul_of_nonneg_right (Int.le_of_lt hs2) (Int.le_of_lt hw)
    rw [Int.mul_assoc, Int.add_mul, Int.one_mul, hGe, hHe, hYe] at h
    exact h
  have b3 : 32 * G ≤ H := by rw [← hHe]; exact Int.mul_le_mul_of_nonneg_right h32 (by omega)
  have b4 : H ≤ 64 * G := by rw [← hHe]; exact Int.mul_le_mul_of_nonneg_right h64 (by omega)
  have b5 : 0 ≤ V := by rw [← hVe]; exact Int.mul_nonneg (by omega) (by omega)
  rw [hGe] at up dn hG
  have key : ∀ (f : Nat → Int) (q1 q2 : Int), f 0 = 3 * s + q1 → f 1 = s + q2 → f 2 = -s + q2 → f 3 = -3 * s + q1 →
      (q1 = 36 ∧ q2 = 4 ∧ V = 16 * G) ∨ (q1 = 9 ∧ q2 = 1 ∧ V = 4 * G) ∨ (q1 = 2 ∧ q2 = 0 ∧ V = G) ∨ (q1 = 0 ∧ q2 = 0 ∧ 4 * V ≤ G) →
      -2 ≤ chN f y ∧ chN f y ≤ 2 ∧ (3 * (P + chN f y * w) - 2 * w) * (3 * (P + chN f y * w) - 2 * w) ≤ 9 * N ∧ 9 * N ≤ (3 * (P + chN f y * w) + 2 * w) * (3 * (P + chN f y * w) + 2 * w) := by
    intro f q1 q2 e0 e1 e2 e3 hq
    have m0 : (3 * s + q1) * G = 3 * H + q1 * G := by rw [Int.add_mul, Int.mul_assoc, hHe]
    have m1 : (s + q2) * G = H + q2 * G := by rw [Int.add_mul, hHe]
    have m2 : (-s + q2) * G = -H + q2 * G := by rw [Int.add_mul, Int.neg_mul, hHe]
    have m3 : (-3 * s + q1) * G = -3 * H + q1 * G := by rw [Int.add_mul, Int.mul_assoc, hHe]
    have s4 := sqc P w (4)
    rw [hYe, hVe] at s4
    have s1 := sqc P w (1)
    rw [hYe, hVe] at s1
    have s5 := sqc P w (5)
    rw [hYe, hVe] at s5
    have sn2 := sqc P w (-2)
    rw [hYe, hVe] at sn2
    have s2 := sqc P w (2)
    rw [hYe, hVe] at s2
    have sn5 := sqc P w (-5)
    rw [hYe, hVe] at sn5
    have sn1 := sqc P w (-1)
    rw [hYe, hVe] at sn1
    have sn4 := sqc P w (-4)
    rw [hYe, hVe] at sn4
    unfold chN
    split
    · rename_i h
      have g := up _ h
      rw [e0, m0] at g
      refine ⟨by omega, by omega, ?_, ?_⟩
      · rw [show 3 * (P + 2 * w) - 2 * w = 3 * P + 4 * w by omega, s4]
        rcases hq with ⟨rfl, rfl, rfl⟩ | ⟨rfl, rfl, rfl⟩ | ⟨rfl, rfl, rfl⟩ | ⟨rfl, rfl, hv⟩ <;> omega
      · rw [show 3 * (P + 2 * w) + 2 * w = 3 * P + 8 * w by omega]
        exact hhi
    · rename_i h0
      have g0 := dn _ h0
      rw [e0, m0] at g0
      split
      · rename_i h
        have g := up _ h
        rw [e1, m1] at g
        refine ⟨by omega, by omega, ?_, ?_⟩
        · rw [show 3 * (P + 1 * w) - 2 * w = 3 * P + 1 * w by omega, s1]
          rcases hq with ⟨rfl, rfl, rfl⟩ | ⟨rfl, rfl, rfl⟩ | ⟨rfl, rfl, rfl⟩ | ⟨rfl, rfl, hv⟩ <;> omega
        · rw [show 3 * (P + 1 * w) + 2 * w = 3 * P + 5 * w by omega, s5]
          rcases hq with ⟨rfl, rfl, rfl⟩ | ⟨rfl, rfl, rfl⟩ | ⟨rfl, rfl, rfl⟩ | ⟨rfl, rfl, hv⟩ <;> omega
      · rename_i h1
        have g1 := dn _ h1
        rw [e1, m1] at g1
        split
        · rename_i h
          have g := up _ h
          rw [e2, m2] at g
          refine ⟨by omega, by omega, ?_, ?_⟩
          · rw [show 3 * (P + 0 * w) - 2 * w = 3 * P + -2 * w by omega, sn2]
            rcases hq with ⟨rfl, rfl, rfl⟩ | ⟨rfl, rfl, rfl⟩ | ⟨rfl, rfl, rfl⟩ | ⟨rfl, rfl, hv⟩ <;> omega
          · rw [show 3 * (P + 0 * w) + 2 * w = 3 * P + 2 * w by omega, s2]
            rcases hq with ⟨rfl, rfl, rfl⟩ | ⟨rfl, rfl, rfl⟩ | ⟨rfl, rfl, rfl⟩ | ⟨rfl, rfl, hv⟩ <;> omega
        · rename_i h2
          have g2 := dn _ h2
          rw [e2, m2] at g2
          split
          · rename_i h
            have g := up _ h
            rw [e3, m3] at g
            refine ⟨by omega, by omega, ?_, ?_⟩
            · rw [show 3 * (P + -1 * w) - 2 * w = 3 * P + -5 * w by omega, sn5]
              rcases hq with ⟨rfl, rfl, rfl⟩ | ⟨rfl, rfl, rfl⟩ | ⟨rfl, rfl, rfl⟩ | ⟨rfl, rfl, hv⟩ <;> omega
            · rw [show 3 * (P + -1 * w) + 2 * w = 3 * P + -1 * w by omega, sn1]
              rcases hq with ⟨rfl, rfl, rfl⟩ | ⟨rfl, rfl, rfl⟩ | ⟨rfl, rfl, rfl⟩ | ⟨rfl, rfl, hv⟩ <;> omega
          · rename_i h3
            have g3 := dn _ h3
            rw [e3, m3] at g3
            refine ⟨by omega, by omega, ?_, ?_⟩
            · rw [show 3 * (P + -2 * w) - 2 * w = 3 * P - 8 * w by omega]
              exact hlo
            · rw [show 3 * (P + -2 * w) + 2 * w = 3 * P + -4 * w by omega, sn4]
              rcases hq with ⟨rfl, rfl, rfl⟩ | ⟨rfl, rfl, rfl⟩ | ⟨rfl, rfl, rfl⟩ | ⟨rfl, rfl, hv⟩ <;> omega
  rcases hj with ⟨rfl, rfl⟩ | ⟨rfl, rfl⟩ | ⟨rfl, rfl⟩ | ⟨h3, h4⟩
  · exact key (rbN 0 s) 36 4 rfl rfl rfl rfl (.inl ⟨rfl, rfl, by rw [← hVe, ← hGe, Int.mul_assoc]⟩)
  · exact key (rbN 1 s) 9 1 rfl rfl rfl rfl (.inr (.inl ⟨rfl, rfl, by rw [← hVe, ← hGe, Int.mul_assoc]⟩))
  · exact key (rbN 2 s) 2 0 rfl rfl rfl rfl (.inr (.inr (.inl ⟨rfl, rfl, by rw [← hVe, ← hGe]⟩)))
  · rw [rb_far j s h3]
    exact key (rbN 3 s) 0 0 rfl rfl rfl rfl (.inr (.inr (.inr ⟨rfl, rfl, by rw [← hVe, ← hGe, ← Int.mul_assoc]; exact Int.mul_le_mul_of_nonneg_right h4 (by omega)⟩)))

theorem sq_lt {a b : Int} (ha : 0 ≤ a) (h : a < b) : a * a < b * b := by
  have h1 : a * a ≤ a * b := Int.mul_le_mul_of_nonneg_left (by omega) ha
  have h2 : a * b < b * b := Int.mul_lt_mul_of_pos_right h (by omega)
  omega
theorem sq_lt_of {a b : Int} (hb : 0 ≤ b) (h : a * a < b * b) : a < b := by
  rcases Int.lt_or_le a b with h1 | h1
  · exact h1
  · rcases Int.lt_or_le b a with h2 | h2
    · have := sq_lt hb h2; omega
    · have : a = b := by omega
      rw [this] at h; omega
theorem pow4_add (a b : Nat) : (4 : Int) ^ (a + b) = 4 ^ a * 4 ^ b := Int.pow_add _ _ _
theorem wz_pow {T j : Nat} (hT : 2 ≤ T) (hj : j ≤ T) : WZ j (4 ^ (T - j)) (4 ^ (T - 2)) ∧ ∃ c : Int, 32 * 4 ^ (T - 2) = c * 4 ^ (T - j) := by
  have h16 : (4 : Int) ^ 2 = 16 := rfl
  have h4 : (4 : Int) ^ 1 = 4 := rfl
  rcases (show j = 0 ∨ j = 1 ∨ j = 2 ∨ 3 ≤ j by omega) with rfl | rfl | rfl | h
  · have e : (4 : Int) ^ (T - 0) = 16 * 4 ^ (T - 2) := by rw [show T - 0 = 2 + (T - 2) by omega, pow4_add, h16]
    exact ⟨.inl ⟨rfl, e⟩, 2, by rw [e]; omega⟩
  · have e : (4 : Int) ^ (T - 1) = 4 * 4 ^ (T - 2) := by rw [show T - 1 = 1 + (T - 2) by omega, pow4_add, h4]
    exact ⟨.inr (.inl ⟨rfl, e⟩), 8, by rw [e]; omega⟩
  · exact ⟨.inr (.inr (.inl ⟨rfl, rfl⟩)), 32, rfl⟩
  · have e : (4 : Int) ^ (T - 2) = 4 ^ (j - 3) * (4 * 4 ^ (T - j)) := by
      rw [show T - 2 = (j - 3) + (1 + (T - j)) by omega, pow4_add, pow4_add, h4]
    have hp := pow4_pos (j - 3)
    have hw := pow4_pos (T - j)
    refine ⟨.inr (.inr (.inr ⟨h, ?_⟩)), 32 * (4 ^ (j - 3) * 4), by rw [e]; simp only [Int.mul_assoc]⟩
    rw [e]
    have := Int.mul_le_mul_of_nonneg_right (show (1 : Int) ≤ 4 ^ (j - 3) by omega) (show 0 ≤ 4 * (4 : Int) ^ (T - j) by omega)
    omega

/-- The root so far, the digits being worth 4^T down to 1. -/
def pR (N : Int) (T : Nat) : Nat → Int
  | 0 => 4 ^ (T + 1)
  | j + 1 => pR N T j + chN (rbN j (pR N T j / 4 ^ (T - 2))) ((N - pR N T j * pR N T j) / (4 ^ (T - 2) * 4 ^ (T - j))) * 4 ^ (T - j)
/-- The digit of a step. -/
def dgR (N : Int) (T j : Nat) : Int := chN (rbN j (pR N T j / 4 ^ (T - 2))) ((N - pR N T j * pR N T j) / (4 ^ (T - 2) * 4 ^ (T - j)))
theorem pR_succ (N : Int) (T j : Nat) : pR N T (j + 1) = pR N T j + dgR N T j * 4 ^ (T - j) := rfl

/-- What the root so far keeps: W is the worth of its last digit. -/
structure RootIs (N Z W P : Int) : Prop where
  lo : (3 * P - 2 * W) * (3 * P - 2 * W) ≤ 9 * N
  hi : 9 * N ≤ (3 * P + 2 * W) * (3 * P + 2 * W)
  p32 : 32 * Z ≤ P
  p64 : P ≤ 64 * Z
  dvd : ∃ a : Int, P = a * W

theorem RootIs.step {N Z w P : Int} {j : Nat} (h : RootIs N Z (4 * w) P) (hZ : 0 < Z) (hw : 0 < w) (hj : WZ j w Z) (hc : ∃ c : Int, 32 * Z = c * w) (hN1 : 32 * Z * (32 * Z) ≤ N) (hN2 : N < 64 * Z * (64 * Z)) :
    (-2 ≤ chN (rbN j (P / Z)) ((N - P * P) / (Z * w)) ∧ chN (rbN j (P / Z)) ((N - P * P) / (Z * w)) ≤ 2) ∧ RootIs N Z w (P + chN (rbN j (P / Z)) ((N - P * P) / (Z * w)) * w) := by
  have hG : 0 < Z * w := Int.mul_pos hZ hw
  have hs1 : P / Z * Z ≤ P := Int.ediv_mul_le P (by omega)
  have hs2 : P < (P / Z + 1) * Z := Int.lt_ediv_add_one_mul_self P hZ
  have h32 : 32 ≤ P / Z := (Int.le_ediv_iff_mul_le hZ).2 h.p32
  have h64 : P / Z ≤ 64 := by
    rcases Int.lt_or_le 64 (P / Z) with h1 | h1
    · have h2 : 65 * Z ≤ P / Z * Z := Int.mul_le_mul_of_nonneg_right (by omega) (by omega)
      have := h.p64
      omega
    · exact h1
  have hy1 := Int.ediv_mul_le (N - P * P) (show Z * w ≠ 0 by omega)
  have hy2 := Int.lt_ediv_add_one_mul_self (N - P * P) hG
  have hlo : (3 * P - 8 * w) * (3 * P - 8 * w) ≤ 9 * N := by
    have := h.lo
    rw [show 3 * P - 2 * (4 * w) = 3 * P - 8 * w by omega] at this
    exact this
  have hhi : 9 * N ≤ (3 * P + 8 * w) * (3 * P + 8 * w) := by
    have := h.hi
    rw [show 3 * P + 2 * (4 * w) = 3 * P + 8 * w by omega] at this
    exact this
  have hst := root_step N P Z w (P / Z) ((N - P * P) / (Z * w)) j hZ hw hj hs1 hs2 h32 h64 hy1 hy2 hlo hhi
  generalize chN (rbN j (P / Z)) ((N - P * P) / (Z * w)) = k at *
  obtain ⟨k1, k2, l1, l2⟩ := hst
  refine ⟨⟨k1, k2⟩, l1, l2, ?_, ?_, ?_⟩
  · -- not below 32 Z
    obtain ⟨a, ha⟩ := h.dvd
    obtain ⟨c, hc⟩ := hc
    have eP : P + k * w = (4 * a + k) * w := by rw [Int.add_mul, ha, Int.mul_left_comm a 4 w, ← Int.mul_assoc]
    have hwz : w ≤ 16 * Z := by rcases hj with ⟨_, h⟩ | ⟨_, h⟩ | ⟨_, h⟩ | ⟨_, h⟩ <;> omega
    have hkw : -2 * w ≤ k * w := Int.mul_le_mul_of_nonneg_right k1 (by omega)
    have hp := h.p32
    have h0 : 0 ≤ 3 * (P + k * w) + 2 * w := by omega
    have h1 : ¬ 3 * (P + k * w) + 2 * w < 96 * Z := by
      intro hlt
      have h2 := sq_lt h0 hlt
      have h3 : 96 * Z * (96 * Z) = 9 * (32 * Z * (32 * Z)) := by
        rw [mul4c 96 Z 96 Z, mul4c 32 Z 32 Z]; omega
      omega
    rw [hc, eP]
    rw [eP] at h1
    have e96 : 96 * Z = 3 * c * w := by rw [Int.mul_assoc, ← hc]; omega
    have e3 : 3 * ((4 * a + k) * w) + 2 * w = (3 * (4 * a + k) + 2) * w := by rw [Int.add_mul (3 * (4 * a + k)) 2 w, Int.mul_assoc 3 (4 * a + k) w]
    rw [e96, e3] at h1
    refine Int.mul_le_mul_of_nonneg_right ?_ (by omega)
    rcases Int.lt_or_le (4 * a + k) c with h4 | h4
    · exact absurd (Int.mul_lt_mul_of_pos_right (show 3 * (4 * a + k) + 2 < 3 * c by omega) hw) h1
    · exact h4
  · -- not above 64 Z
    obtain ⟨a, ha⟩ := h.dvd
    obtain ⟨c, hc⟩ := hc
    have eP : P + k * w = (4 * a + k) * w := by rw [Int.add_mul, ha, Int.mul_left_comm a 4 w, ← Int.mul_assoc]
    have h1 : 3 * (P + k * w) - 2 * w < 192 * Z := by
      refine sq_lt_of (by omega) ?_
      have h3 : 192 * Z * (192 * Z) = 9 * (64 * Z * (64 * Z)) := by
        rw [mul4c 192 Z 192 Z, mul4c 64 Z 64 Z]; omega
      omega
    rw [show 64 * Z = 2 * (32 * Z) by omega, hc, eP]
    rw [eP] at h1
    have e192 : 192 * Z = 6 * c * w := by rw [Int.mul_assoc, ← hc]; omega
    have e3 : 3 * ((4 * a + k) * w) - 2 * w = (3 * (4 * a + k) - 2) * w := by rw [Int.sub_mul (3 * (4 * a + k)) 2 w, Int.mul_assoc 3 (4 * a + k) w]
    rw [e192, e3] at h1
    rw [← Int.mul_assoc]
    refine Int.mul_le_mul_of_nonneg_right ?_ (by omega)
    rcases Int.lt_or_le (2 * c) (4 * a + k) with h4 | h4
    · exact absurd h1 (Int.not_lt.2 (Int.mul_le_mul_of_nonneg_right (show 6 * c ≤ 3 * (4 * a + k) - 2 by omega) (by omega)))
    · exact h4
  · obtain ⟨a, ha⟩ := h.dvd
    exact ⟨4 * a + k, by rw [Int.add_mul, ha, Int.mul_left_comm a 4 w, ← Int.mul_assoc]⟩

theorem pR_keeps {N : Int} {T : Nat} (hT : 2 ≤ T) (hN1 : 32 * 4 ^ (T - 2) * (32 * 4 ^ (T - 2)) ≤ N) (hN2 : N < 64 * 4 ^ (T - 2) * (64 * 4 ^ (T - 2))) :
    ∀ j, j ≤ T + 1 → RootIs N (4 ^ (T - 2)) (4 ^ (T + 1 - j)) (pR N T j)
  | 0, _ => by
    have e : (4 : Int) ^ (T + 1) = 64 * 4 ^ (T - 2) := by
      rw [show T + 1 = 3 + (T - 2) by omega, pow4_add]; rfl
    rw [Nat.sub_zero]
    show RootIs N (4 ^ (T - 2)) (4 ^ (T + 1)) (4 ^ (T + 1))
    rw [e]
    have hZ := pow4_pos (T - 2)
    generalize (4 : Int) ^ (T - 2) = Z at *
    have q1 : 32 * Z * (32 * Z) = 1024 * (Z * Z) := by rw [mul4c]; rfl
    have q2 : 64 * Z * (64 * Z) = 4096 * (Z * Z) := by rw [mul4c]; rfl
    have q3 : 320 * Z * (320 * Z) = 102400 * (Z * Z) := by rw [mul4c]; rfl
    have hz2 : 0 ≤ Z * Z := Int.mul_nonneg (by omega) (by omega)
    refine ⟨?_, ?_, by omega, Int.le_refl _, 1, by omega⟩
    · rw [show 3 * (64 * Z) - 2 * (64 * Z) = 64 * Z by omega]; omega
    · rw [show 3 * (64 * Z) + 2 * (64 * Z) = 320 * Z by omega]; omega
  | j + 1, hj => by
    have ih := pR_keeps hT hN1 hN2 j (by omega)
    rw [pow4_step (show j ≤ T by omega)] at ih
    have hw := wz_pow hT (show j ≤ T by omega)
    rw [show T + 1 - (j + 1) = T - j by omega]
    exact (ih.step (pow4_pos _) (pow4_pos _) hw.1 hw.2 hN1 hN2).2
theorem dgR_bd {N : Int} {T : Nat} (hT : 2 ≤ T) (hN1 : 32 * 4 ^ (T - 2) * (32 * 4 ^ (T - 2)) ≤ N) (hN2 : N < 64 * 4 ^ (T - 2) * (64 * 4 ^ (T - 2))) (j : Nat) (hj : j ≤ T) : -2 ≤ dgR N T j ∧ dgR N T j ≤ 2 := by
  have ih := pR_keeps hT hN1 hN2 j (by omega)
  rw [pow4_step hj] at ih
  have hw := wz_pow hT hj
  exact (ih.step (pow4_pos _) (pow4_pos _) hw.1 hw.2 hN1 hN2).1
/-- In the end: the root, or one more. -/
theorem pR_end {N P : Int} (hP : 1 ≤ P) (hlo : (3 * P - 2) * (3 * P - 2) ≤ 9 * N) (hhi : 9 * N ≤ (3 * P + 2) * (3 * P + 2)) :
    (P * P ≤ N → N < (P + 1) * (P + 1)) ∧ (N < P * P → (P - 1) * (P - 1) ≤ N) := by
  have e1 : (3 * P + 2) * (3 * P + 2) = 9 * (P * P) + 12 * P + 4 := by
    have := sqc P 1 2
    simp only [Int.mul_one] at this
    rw [this]; omega
  have e2 : (3 * P - 2) * (3 * P - 2) = 9 * (P * P) - 12 * P + 4 := by
    have := sqc P 1 (-2)
    simp only [Int.mul_one] at this
    rw [show 3 * P - 2 = 3 * P + -2 by omega, this]; omega
  have e3 : (P + 1) * (P + 1) = P * P + 2 * P + 1 := by rw [Int.add_mul, Int.mul_add]; omega
  have e4 : (P - 1) * (P - 1) = P * P - 2 * P + 1 := by rw [Int.sub_mul, Int.mul_sub]; omega
  rw [e1] at hhi
  rw [e2] at hlo
  rw [e3, e4]
  omega
end Go.Proofs.Ytbngaajhdaciaaa

/- Contracts: radicandref16.Run. -/
set_option linter.unusedVariables false
set_option linter.unusedSimpArgs false
set_option maxRecDepth 8000
namespace Go.Proofs.Ytbngaajhdaciaaa
open Go.RowKit Plain

/-- What Run goes by. -/
structure Rn16 (base : Nat) (ou : Option Addr) (lu cu U : Nat) (w W : World) : Prop where
  u : BigV W (.slice ou lu cu) U 300
  ub : ∀ b off, ou = some ⟨b, off, none⟩ → b < base
  o1 : w.heap.size ≤ base
  o3 : base ≤ W.heap.size
  bel : Below w.heap.size w W
section
variable {base lu cu U : Nat} {ou : Option Addr} {w W W' : World}
theorem Rn16.below (h : Rn16 base ou lu cu U w W) (hb : Below W.heap.size W W') : Rn16 base ou lu cu U w W' :=
  ⟨h.u.below hb, h.ub, h.o1, Nat.le_trans h.o3 hb.size, below_trans h.bel hb⟩
theorem Rn16.grown (h : Rn16 base ou lu cu U w W) {row : Option Nat} (hg : W.grownBy W' row) (hr : ∀ g, row = some g → base ≤ g) : Rn16 base ou lu cu U w W' := by
  have h1 := h.o1
  have ne : ∀ b, b < base → some b ≠ row := fun b hb e => by have := hr b e.symm; omega
  exact ⟨big_grown hg h.u fun b off e => ne b (h.ub b off e), h.ub, h1, Nat.le_trans h.o3 hg.size, h.bel.trans (below_of_grownBy hg h.bel.size fun k e => by have := hr k e; omega)⟩
end

set_option maxHeartbeats 8000000 in
theorem run16_walk (n U by_ steps : Nat) (pn : Nat → Nat) (lf dj : Nat → Int) (hst : steps ≤ 64) (hU : U ≠ 0) (h0 : pn 0 = 2 ^ 128)
    (hlf : Hid (∀ j, j < 64 → lf j = (U : Int) - ((pn j * pn j : Nat) : Int)))
    (hs : Hid (∀ j, j < 64 → ((pn (j + 1) : Nat) : Int) = ((pn j : Nat) : Int) + dj j * ((2 ^ (126 - 2 * j) : Nat) : Int)))
    (hd2 : Hid (∀ j, j < 64 → -2 ≤ dj j ∧ dj j ≤ 2)) (hsh : Hid (∀ j, j < 64 → 28 ≤ pn j / 2 ^ 122 ∧ pn j / 2 ^ 122 ≤ 64))
    (HNM : Hid (∀ w, Calls Try.prog 16 #[.agg #[.int .u64 (dgl (n) 0 : Nat), .int .u64 (dgl (n) 1 : Nat), .int .u64 (dgl (n) 2 : Nat), .int .u64 (dgl (n) 3 : Nat), .int .u64 (dgl (n) 4 : Nat), .int .u64 (dgl (n) 5 : Nat), .int .u64 (dgl (n) 6 : Nat), .int .u64 (dgl (n) 7 : Nat)]] w fun e w' => ∃ v, e = .returned (.tuple #[v, .int .i64 (by_ : Nat)]) ∧ BigV w' v U 300 ∧ Below w.heap.size w w'))
    (HPW : Hid (∀ w, Calls Try.prog 21 #[.int .i64 128] w fun e w' => ∃ v, e = .returned v ∧ BigV w' v (2 ^ 128) 7 ∧ Below w.heap.size w w'))
    (HRB : Hid (∀ j, j < 64 → ∀ w, Calls Try.prog 39 #[.int .i64 (j : Nat), .int .i64 ((pn j / 2 ^ 122 : Nat) : Int)] w fun e w' => e = .returned (.agg #[.int .i64 (rbN (j : Nat) ((pn j / 2 ^ 122 : Nat) : Int) 0), .int .i64 (rbN (j : Nat) ((pn j / 2 ^ 122 : Nat) : Int) 1), .int .i64 (rbN (j : Nat) ((pn j / 2 ^ 122 : Nat) : Int) 2), .int .i64 (rbN (j : Nat) ((pn j / 2 ^ 122 : Nat) : Int) 3)]) ∧ Below w.heap.size w w'))
    (HDN : Hid (∀ j, j < 64 → ∀ K v w, BigV w v (lf j).natAbs K → K ≤ 1000 → Calls Try.prog 40 #[.agg #[v, .bool (decide (lf j < 0))], .int .i64 ((248 - 2 * j : Nat) : Int)] w fun e w' => e = .returned (.int .i64 (lf j / 2 ^ (248 - 2 * j))) ∧ Below w.heap.size w w'))
    (HDG : Hid (∀ j, j < 64 → ∀ w, Calls Try.prog 38 #[.agg #[.int .i64 (rbN (j : Nat) ((pn j / 2 ^ 122 : Nat) : Int) 0), .int .i64 (rbN (j : Nat) ((pn j / 2 ^ 122 : Nat) : Int) 1), .int .i64 (rbN (j : Nat) ((pn j / 2 ^ 122 : Nat) : Int) 2), .int .i64 (rbN (j : Nat) ((pn j / 2 ^ 122 : Nat) : Int) 3)], .int .i64 (lf j / 2 ^ (248 - 2 * j))] w fun e w' => e = .returned (.int .i64 (dj j)) ∧ Below w.heap.size w w')) (w : World) :
    Calls Try.prog 12 #[.agg #[.int .u64 (dgl (n) 0 : Nat), .int .u64 (dgl (n) 1 : Nat), .int .u64 (dgl (n) 2 : Nat), .int .u64 (dgl (n) 3 : Nat), .int .u64 (dgl (n) 4 : Nat), .int .u64 (dgl (n) 5 : Nat), .int .u64 (dgl (n) 6 : Nat), .int .u64 (dgl (n) 7 : Nat)], .int .i64 (steps : Nat)] w fun e w' => ∃ v vl, e = .returned (.tuple #[v, vl]) ∧ Rd mkZ w' v (seqL dj steps) ∧ BigV w' vl (pn steps) 100 ∧ Below w.heap.size w w' := by
  obtain ⟨i0, hi, hz0, hz1, hz2⟩ := info_parts int_infoZ
  go_enter Try.func12, Try.ntmps12
  go_wp2_with fail
  refine (HNM.out _).mono ?_
  rintro e w1 ⟨v1, rfl, h1, hb1⟩
  obtain ⟨ou, lu, cu, rfl⟩ := bgs_slice h1
  have HU := hide h1
  have HB1 := hide (below_alloc_then hb1)
  clear h1 hb1 HNM
  go_wp2_with fail
  refine (HPW.out _).mono ?_
  rintro e w2 ⟨v2, rfl, h2, hb2⟩
  obtain ⟨o2, l2, c2, rfl⟩ := bgs_slice h2
  obtain ⟨base, hbase⟩ : ∃ base, w2.heap.size = base := ⟨_, rfl⟩
  have HU0 := hide hU
  have HRN : Hid (Rn16 base ou lu cu U w w2) := by
    have hu := HU.out.below hb2
    have hbel := below_trans HB1.out hb2
    refine ⟨hu, fun b off e => ?_, by rw [← hbase]; exact hbel.size, by omega, hbel⟩
    subst e
    rw [← hbase]
    exact big_lt hu HU0.out
  have HV : Hid (BigV w2 (.slice o2 l2 c2) (pn 0) (10 + 0)) := by rw [h0]; exact h2.mono (by decide)
  clear h2 hb2 HU HB1 HPW hbase
  go_wp2
  go_loopw [8, 9, 10] (fun vp vo i wr => ∃ (j : Nat) (ao : Option Addr) (l c : Nat), j ≤ steps ∧ i = .int .i64 j ∧ vp = .slice ao l c ∧ Hid (Rn16 base ou lu cu U w wr) ∧ Hid (BigV wr (.slice ao l c) (pn j) (10 + j)) ∧ Hid (wr.ownsRow base 3 1 vo j ((seqL dj j).map mkZ)) ∧ Hid (∀ g, vo.ownBlock = some g → ∀ b off, ao = some ⟨b, off, none⟩ → b ≠ g))
    (fun _ _ i _ => steps - (intOf i).toNat)
  case atStart => exact ⟨0, o2, l2, c2, by omega, rfl, rfl, HRN, HV, World.ownsRow_nil _ _ _ _, fun g hg => by simp [Value.ownBlock] at hg⟩
  case round =>
    clear HRN HV
    obtain ⟨j, ao, l, c, hj, rfl, rfl, HRN, HV, HOWN, HAP⟩ := hrel
    obtain ⟨oo, lo, co, rfl⟩ := owns_slice HOWN.out
    obtain ⟨x, hx⟩ : ∃ x, pn j = x := ⟨_, rfl⟩
    rw [hx] at HV
    by_cases hlt : j < steps
    · have hj64 : j < 64 := by omega
      have hjs : (j : Int) < (steps : Int) := by omega
      obtain ⟨p2, hp2e⟩ : ∃ p2, 2 * j = p2 := ⟨_, rfl⟩
      obtain ⟨p3, hp3e⟩ : ∃ p3, 248 - p2 = p3 := ⟨_, rfl⟩
      obtain ⟨p4, hp4e⟩ : ∃ p4, 126 - p2 = p4 := ⟨_, rfl⟩
      have hp2 : IntKind.i64.wrap (2 * (j : Int)) = ((p2 : Nat) : Int) := by rw [IntKind.wrap_i64]; omega
      have hp3 : IntKind.i64.wrap (248 - ((p2 : Nat) : Int)) = ((p3 : Nat) : Int) := by rw [IntKind.wrap_i64]; omega
      have hp4 : IntKind.i64.wrap (126 - ((p2 : Nat) : Int)) = ((p4 : Nat) : Int) := by rw [IntKind.wrap_i64]; omega
      obtain ⟨s, hse⟩ : ∃ s, x / 2 ^ 122 = s := ⟨_, rfl⟩
      have hsb := hsh.out j hj64
      rw [hx, hse] at hsb
      obtain ⟨k, hk⟩ : ∃ k, dj j = k := ⟨_, rfl⟩
      have hkb := hd2.out j hj64
      rw [hk] at hkb
      obtain ⟨m, hm⟩ : ∃ m, k.natAbs = m := ⟨_, rfl⟩
      have HM2 := hide (show m < 18446744073709551616 by omega)
      have hnk : IntKind.i64.wrap (-k) = -k := by rw [IntKind.wrap_i64]; omega
      have hmx : IntKind.u64.wrap (max k (-k)) = ((m : Nat) : Int) := by rw [IntKind.wrap_u64]; omega
      have HKJ := hide hk
      have HKZ : Hid (Value.int .i64 k = mkZ (nof k)) := (mkZ_nof (by omega)).symm
      obtain ⟨yq, hyq⟩ : ∃ yq, lf j / 2 ^ (248 - 2 * j) = yq := ⟨_, rfl⟩
      obtain ⟨bz, hbz⟩ : ∃ bz, decide (lf j < 0) = bz := ⟨_, rfl⟩
      obtain ⟨za, hza⟩ : ∃ za, (lf j).natAbs = za := ⟨_, rfl⟩
      obtain ⟨mx, hmxe⟩ : ∃ mx, m * 2 ^ p4 = mx := ⟨_, rfl⟩
      have HMX := hide hmxe
      have HLE := hlf.out j hj64
      rw [hx] at HLE
      have hstep := hs.out j hj64
      have hkx : k * ((2 ^ (126 - 2 * j) : Nat) : Int) = if k < 0 then -((mx : Nat) : Int) else ((mx : Nat) : Int) := by
        rw [hp2e, hp4e, ← hmxe, Int.natCast_mul]
        split
        · rw [show k = -((m : Nat) : Int) by omega, Int.neg_mul]
        · rw [show k = ((m : Nat) : Int) by omega]
      rw [hk, hkx, hx] at hstep
      have HSUB : Hid (k < 0 → mx ≤ x ∧ x - mx = pn (j + 1)) := hide fun h => by rw [if_pos h] at hstep; omega
      have HADD : Hid (¬ k < 0 → x + mx = pn (j + 1)) := hide fun h => by rw [if_neg h] at hstep; omega
      have HPP : Hid (∀ w, Calls Try.prog 21 #[.int .i64 ((p4 : Nat) : Int)] w fun e w' => ∃ v, e = .returned v ∧ BigV w' v (2 ^ p4) 7 ∧ Below w.heap.size w w') := fun w => by
        refine (refPower_int p4 (2 ^ p4) _ (by omega) rfl rfl w).mono ?_
        rintro e w' ⟨v, rfl, hv, hb⟩
        exact ⟨v, rfl, hv.mono (by omega), hb⟩
      have HRBj : Hid (∀ W, Calls Try.prog 39 #[.int .i64 ((j : Nat) : Int), .int .i64 ((s : Nat) : Int)] W fun e w' => e = .returned (.agg #[.int .i64 (rbN (j : Nat) ((s : Nat) : Int) 0), .int .i64 (rbN (j : Nat) ((s : Nat) : Int) 1), .int .i64 (rbN (j : Nat) ((s : Nat) : Int) 2), .int .i64 (rbN (j : Nat) ((s : Nat) : Int) 3)]) ∧ Below W.heap.size W w') := fun W => by
        have g := HRB.out j hj64 W
        rw [hx, hse] at g
        exact g
      have HDGj : Hid (∀ W, Calls Try.prog 38 #[.agg #[.int .i64 (rbN (j : Nat) ((s : Nat) : Int) 0), .int .i64 (rbN (j : Nat) ((s : Nat) : Int) 1), .int .i64 (rbN (j : Nat) ((s : Nat) : Int) 2), .int .i64 (rbN (j : Nat) ((s : Nat) : Int) 3)], .int .i64 yq] W fun e w' => e = .returned (.int .i64 k) ∧ Below W.heap.size W w') := fun W => by
        have g := HDG.out j hj64 W
        rw [hyq, hk, hx, hse] at g
        exact g
      have HA : Hid (Rn16 base ou lu cu U w wr ∧ BigV wr (.slice ao l c) x (10 + j) ∧ wr.ownsRow base 3 1 (.slice oo lo co) (j) ((seqL dj j).map mkZ)) := ⟨HRN.out, HV.out, HOWN.out⟩
      have hupA : ∀ {V V' : World}, Below V.heap.size V V' → (Rn16 base ou lu cu U w V ∧ BigV V (.slice ao l c) x (10 + j) ∧ V.ownsRow base 3 1 (.slice oo lo co) (j) ((seqL dj j).map mkZ)) → (Rn16 base ou lu cu U w V' ∧ BigV V' (.slice ao l c) x (10 + j) ∧ V'.ownsRow base 3 1 (.slice oo lo co) (j) ((seqL dj j).map mkZ)) := fun hb h => ⟨h.1.below hb, h.2.1.below hb, ownsZ_below h.2.2 hb⟩
      have HMU := hide (refMul_any x x (10 + j) (10 + j) _ _ _ HV.out HV.out (by omega) (by omega))
      clear HRN HV HOWN
      go_wp2_with fail
      refine HMU.out.mono ?_
      rintro e w1 ⟨v1, rfl, hv1, hb1⟩
      obtain ⟨o1, l1, c1, rfl⟩ := bgs_slice hv1
      replace HA := hide (hupA hb1 HA.out)
      have HSB := hide (sub15_any ((U : Nat) : Int) ((x * x : Nat) : Int) 300 (10 + j + (10 + j)) _ _ w1 (by rw [Int.natAbs_natCast]; exact HA.out.1.u) (by rw [Int.natAbs_natCast]; exact hv1) (by decide) (by omega))
      rw [← HLE, hbz, hza, decide_eq_false (show ¬ ((U : Nat) : Int) < 0 by omega), decide_eq_false (show ¬ ((x * x : Nat) : Int) < 0 by omega)] at HSB
      clear hv1 hb1 HMU
      go_wp2_with fail
      refine HSB.out.mono ?_
      rintro e w2 ⟨v2, rfl, hv2, -, hb2⟩
      obtain ⟨al, ll, cl, rfl⟩ := bgs_slice hv2
      replace HA := hide (hupA hb2 HA.out)
      have HDNj : Hid (∀ W, BigV W (.slice al ll cl) za 400 → Calls Try.prog 40 #[.agg #[.slice al ll cl, .bool bz], .int .i64 ((p3 : Nat) : Int)] W fun e w' => e = .returned (.int .i64 yq) ∧ Below W.heap.size W w') := fun W h => by
        have g := HDN.out j hj64 400 (.slice al ll cl) W (by rw [hza]; exact h) (by decide)
        rw [hbz, hyq, hp2e, hp3e] at g
        exact g
      have HVL := hide (hv2.mono (show _ ≤ 400 by omega))
      clear hv2 hb2 HSB HLE hk hm hyq hbz hza hp2e hp3e hp4e hj64 hstep hkx hmxe
      have hbw := below_allocs w2 (.cells #[.slice al ll cl, .bool bz] 65)
      go_upto_region 8 with fail
      refine wp_gen (fun W => ((Rn16 base ou lu cu U w W ∧ BigV W (.slice ao l c) x (10 + j) ∧ W.ownsRow base 3 1 (.slice oo lo co) (j) ((seqL dj j).map mkZ)) ∧ (W.cell? ⟨w2.heap.size, 0, none⟩ = some (.slice al ll cl) ∧ W.cell? ⟨w2.heap.size, 1, none⟩ = some (.bool bz) ∧ BigV W (.slice al ll cl) za 400 ∧ w2.heap.size < W.heap.size))) ⟨hupA hbw HA.out, by simp [go_sem], by simp [go_sem], HVL.out.below hbw, by simp⟩ ?_
      clear HA HVL hbw
      generalize w2.heap.size = q at *
      rintro W8 h8
      have HA := hide h8
      clear h8
      have hupQ : ∀ {V V' : World}, Below V.heap.size V V' → ((Rn16 base ou lu cu U w V ∧ BigV V (.slice ao l c) x (10 + j) ∧ V.ownsRow base 3 1 (.slice oo lo co) (j) ((seqL dj j).map mkZ)) ∧ (V.cell? ⟨q, 0, none⟩ = some (.slice al ll cl) ∧ V.cell? ⟨q, 1, none⟩ = some (.bool bz) ∧ BigV V (.slice al ll cl) za 400 ∧ q < V.heap.size)) → ((Rn16 base ou lu cu U w V' ∧ BigV V' (.slice ao l c) x (10 + j) ∧ V'.ownsRow base 3 1 (.slice oo lo co) (j) ((seqL dj j).map mkZ)) ∧ (V'.cell? ⟨q, 0, none⟩ = some (.slice al ll cl) ∧ V'.cell? ⟨q, 1, none⟩ = some (.bool bz) ∧ BigV V' (.slice al ll cl) za 400 ∧ q < V'.heap.size)) := fun hb h => ⟨⟨h.1.1.below hb, h.1.2.1.below hb, ownsZ_below h.1.2.2 hb⟩, ⟨(Below.cell hb (p := ⟨q, 0, none⟩) h.2.2.2.2).trans h.2.1, (Below.cell hb (p := ⟨q, 1, none⟩) h.2.2.2.2).trans h.2.2.1, h.2.2.2.1.below hb, Nat.lt_of_lt_of_le h.2.2.2.2 (Below.size hb)⟩⟩
      have HSR := hide (refShr_any x (10 + j) 122 _ _ HA.out.1.2.1 (by omega) (by decide))
      rw [hse] at HSR
      go_wp2_with fail
      refine HSR.out.mono ?_
      rintro e w3 ⟨v3, rfl, hv3, hb3⟩
      replace HA := hide (hupQ hb3 HA.out)
      obtain ⟨lr, ⟨ro, rc, rfl, hrc, hrm, hrx⟩, hrd, -, hrk⟩ := hv3
      have hlen : 0 < lr.length := by
        rcases Nat.eq_zero_or_pos lr.length with h | h
        · have h1 := hrd.1
          rw [h, Nat.pow_zero] at h1
          omega
        · exact h
      have hd0 : dg lr 0 = s := by
        have h1 := hrd.2 0
        rw [Nat.pow_zero, Nat.div_one] at h1
        rw [h1]
        exact Nat.mod_eq_of_lt (show s < 4294967296 by omega)
      obtain ⟨b, off, rfl, hbl, hcell⟩ : ∃ b off, ro = some ⟨b, off, none⟩ ∧ b < w3.heap.size ∧ ∀ i, i < lr.length → w3.cell? ⟨b, off + i, none⟩ = some (mk32 (dg lr i)) := by
        rcases hrx with h | h
        · omega
        · exact h
      have hck : w3.cell? ⟨b, off, none⟩ = some (.int .u32 (s : Nat)) := by
        have h := hcell 0 hlen
        rw [Nat.add_zero, hd0] at h
        exact h
      have hlr : (0 : Int) < (lr.length : Int) := by omega
      have hrm2 : rc ≤ 9223372036854775807 := by unfold maxLen at hrm; omega
      clear hcell hrx hrd hd0 hb3 HSR hbl hse
      go_upto_region 9 with fail
      refine wp_region_grow 10 [(38, .val (.int .i64 ((j : Nat) : Int))), (39, .val (.int .i64 ((s : Nat) : Int))), (40, .val (.agg #[.int .i64 (rbN (j : Nat) ((s : Nat) : Int) 0), .int .i64 (rbN (j : Nat) ((s : Nat) : Int) 1), .int .i64 (rbN (j : Nat) ((s : Nat) : Int) 2), .int .i64 (rbN (j : Nat) ((s : Nat) : Int) 3)])), (41, .val (.agg #[.slice al ll cl, .bool bz])), (42, .val (.int .i64 ((j : Nat) : Int))), (43, .val (.int .i64 ((p2 : Nat) : Int))), (44, .val (.int .i64 ((p3 : Nat) : Int))), (45, .val (.int .i64 yq)), (46, .val (.int .i64 k)), (13, .val (.int .i64 k))]
        (fun W => ((Rn16 base ou lu cu U w W ∧ BigV W (.slice ao l c) x (10 + j) ∧ W.ownsRow base 3 1 (.slice oo lo co) (j) ((seqL dj j).map mkZ)) ∧ (W.cell? ⟨q, 0, none⟩ = some (.slice al ll cl) ∧ W.cell? ⟨q, 1, none⟩ = some (.bool bz) ∧ BigV W (.slice al ll cl) za 400 ∧ q < W.heap.size))) mixedOk (by kernel_rfl) (by kernel_rfl) (⟨⟨HA.out.1.1.below ((Below.refl w3.heap.size w3).drew), HA.out.1.2.1.below ((Below.refl w3.heap.size w3).drew), ownsZ_below HA.out.1.2.2 ((Below.refl w3.heap.size w3).drew)⟩, ⟨(Below.cell ((Below.refl w3.heap.size w3).drew) (p := ⟨q, 0, none⟩) HA.out.2.2.2.2).trans HA.out.2.1, (Below.cell ((Below.refl w3.heap.size w3).drew) (p := ⟨q, 1, none⟩) HA.out.2.2.2.2).trans HA.out.2.2.1, HA.out.2.2.2.1.below ((Below.refl w3.heap.size w3).drew), Nat.lt_of_lt_of_le HA.out.2.2.2.2 (Below.size ((Below.refl w3.heap.size w3).drew))⟩⟩) (fun W W' h hb => ⟨⟨h.1.1.below hb, h.1.2.1.below hb, ownsZ_below h.1.2.2 hb⟩, ⟨(Below.cell hb (p := ⟨q, 0, none⟩) h.2.2.2.2).trans h.2.1, (Below.cell hb (p := ⟨q, 1, none⟩) h.2.2.2.2).trans h.2.2.1, h.2.2.2.1.below hb, Nat.lt_of_lt_of_le h.2.2.2.2 (Below.size hb)⟩⟩) ?_ ?_
      · refine gSt (gStep_run rfl (gRun_move 10 38 (.inl rfl) rfl (by decide +kernel) (fun v w h => h))) ?_
        refine gSt (gStep_run rfl (gRun_move 12 39 (.inl rfl) rfl (by decide +kernel) (fun v w h => h))) ?_
        refine gSt (gStep_run rfl ?_) ?_
        · intro ρ W hC hc hf hL
          have e38 : ρ (.tmp 38) = .int .i64 ((j : Nat) : Int) := hL 38 (by decide +kernel)
          have e39 : ρ (.tmp 39) = .int .i64 ((s : Nat) : Int) := hL 39 (by decide +kernel)
          simp [go_sem, hc, hf, e38, e39]
          refine (HRBj.out W).mono ?_
          rintro e w' ⟨rfl, hb⟩
          exact ⟨_, rfl, by first | exact hb | (subst hb; exact Below.refl _ _), rfl⟩
        refine gSt (gStep_run rfl ?_) ?_
        · intro ρ W hC hc hf hL
          have e11 : ρ (.tmp 11) = .pointer (some ⟨q, 0, none⟩) := hL 11 (by decide +kernel)
          have lc0 := hC.2.1
          have lc1 := hC.2.2.1
          simp [go_sem, hc, hf, e11, lc0, lc1]
          exact ⟨Below.refl _ _, rfl⟩
        refine gSt (gStep_run rfl (gRun_move 10 42 (.inl rfl) rfl (by decide +kernel) (fun v w h => h))) ?_
        refine gSt (gStep_run rfl ?_) ?_
        · intro ρ W hC hc hf hL
          have e42 : ρ (.tmp 42) = .int .i64 ((j : Nat) : Int) := hL 42 (by decide +kernel)
          simp [go_sem, hc, hf, e42, hp2]
          exact ⟨Below.refl _ _, rfl⟩
        refine gSt (gStep_run rfl ?_) ?_
        · intro ρ W hC hc hf hL
          have e43 : ρ (.tmp 43) = .int .i64 ((p2 : Nat) : Int) := hL 43 (by decide +kernel)
          simp [go_sem, hc, hf, e43, hp3]
          exact ⟨Below.refl _ _, rfl⟩
        refine gSt (gStep_run rfl ?_) ?_
        · intro ρ W hC hc hf hL
          have e41 : ρ (.tmp 41) = .agg #[.slice al ll cl, .bool bz] := hL 41 (by decide +kernel)
          have e44 : ρ (.tmp 44) = .int .i64 ((p3 : Nat) : Int) := hL 44 (by decide +kernel)
          simp [go_sem, hc, hf, e41, e44]
          refine (HDNj.out W hC.2.2.2.1).mono ?_
          rintro e w' ⟨rfl, hb⟩
          exact ⟨_, rfl, by first | exact hb | (subst hb; exact Below.refl _ _), rfl⟩
        refine gSt (gStep_run rfl ?_) ?_
        · intro ρ W hC hc hf hL
          have e40 : ρ (.tmp 40) = .agg #[.int .i64 (rbN (j : Nat) ((s : Nat) : Int) 0), .int .i64 (rbN (j : Nat) ((s : Nat) : Int) 1), .int .i64 (rbN (j : Nat) ((s : Nat) : Int) 2), .int .i64 (rbN (j : Nat) ((s : Nat) : Int) 3)] := hL 40 (by decide +kernel)
          have e45 : ρ (.tmp 45) = .int .i64 yq := hL 45 (by decide +kernel)
          simp [go_sem, hc, hf, e40, e45]
          refine (HDGj.out W).mono ?_
          rintro e w' ⟨rfl, hb⟩
          exact ⟨_, rfl, by first | exact hb | (subst hb; exact Below.refl _ _), rfl⟩
        refine gSt (gStep_run rfl (gRun_move 46 13 (.inr rfl) rfl (by decide +kernel) (fun v w h => h))) ?_
        exact gSt0
      · intro W hC
        refine gFi 38 rfl ?_
        rintro _ rfl
        refine gFi 39 rfl ?_
        rintro _ rfl
        refine gFi 40 rfl ?_
        rintro _ rfl
        refine gFi 41 rfl ?_
        rintro _ rfl
        refine gFi 42 rfl ?_
        rintro _ rfl
        refine gFi 43 rfl ?_
        rintro _ rfl
        refine gFi 44 rfl ?_
        rintro _ rfl
        refine gFi 45 rfl ?_
        rintro _ rfl
        refine gFi 46 rfl ?_
        rintro _ rfl
        refine gFi 13 rfl ?_
        rintro _ rfl
        refine gFi0 ?_
        simp only [List.drop_succ_cons, List.drop_zero, Act.put, List.setIfInBounds_toArray, List.set_cons_succ, List.set_cons_zero]
        have HS9 := hide hC.1
        clear hC HA
        go_wp2_with (at_builtin; (refine wpList_appG W rfl _ _ 31 rfl base 3 i0 (.int .i64 0) 8 Try.underlying31 hi hz0 hz1 hz2 rfl mkZ _ j (seqL dj j) (by rfl) HS9.out.2.2 _ (nof k) HKZ.out rfl (by rfl) (by omega) (by omega) HS9.out.1.o3 ?_); intro v' wn hown1 hg1)
        have HROW : Hid (∀ g, (Value.slice oo lo co).ownBlock = some g → base ≤ g) := fun g hg => (HS9.out.2.2.lt g hg).1
        have HA : Hid (Rn16 base ou lu cu U w wn ∧ BigV wn (.slice ao l c) x (10 + j) ∧ wn.ownsRow base 3 1 v' (j + 1) ((seqL dj j ++ [nof k]).map mkZ)) :=
          ⟨HS9.out.1.grown hg1 HROW.out, big_grown hg1 HS9.out.2.1 fun b off e e2 => HAP.out b e2.symm b off e rfl, hown1⟩
        clear HS9 hg1 hown1 HAP HROW
        have HSM := hide (fun w => small_any m HM2.out w)
        have hup : ∀ {V V' : World} {vo : Value}, Below V.heap.size V V' → (Rn16 base ou lu cu U w V ∧ BigV V (.slice ao l c) x (10 + j) ∧ V.ownsRow base 3 1 vo (j + 1) ((seqL dj j ++ [nof k]).map mkZ)) → (Rn16 base ou lu cu U w V' ∧ BigV V' (.slice ao l c) x (10 + j) ∧ V'.ownsRow base 3 1 vo (j + 1) ((seqL dj j ++ [nof k]).map mkZ)) := fun hb h => ⟨h.1.below hb, h.2.1.below hb, ownsZ_below h.2.2 hb⟩
        go_wp2_with fail
        refine (HSM.out _).mono ?_
        rintro e w4 ⟨vm, rfl, hvm, hb4⟩
        obtain ⟨om, lm, cm, rfl⟩ := bgs_slice hvm
        replace HA := hide (hup hb4 HA.out)
        have HVM := hide hvm
        clear hvm hb4 HSM
        go_wp2_with fail
        refine (HPP.out _).mono ?_
        rintro e w5 ⟨vp, rfl, hvp, hb5⟩
        obtain ⟨op, lp, cp, rfl⟩ := bgs_slice hvp
        replace HA := hide (hup hb5 HA.out)
        have HMU := hide (refMul_any m (2 ^ p4) 2 7 _ _ _ (HVM.out.below hb5) hvp (by decide) (by decide))
        rw [HMX.out] at HMU
        clear hvp hb5 HPP HVM
        go_wp2_with fail
        refine HMU.out.mono ?_
        rintro e w6 ⟨vx, rfl, hvx, hb6⟩
        obtain ⟨ox, lx, cx, rfl⟩ := bgs_slice hvx
        replace HA := hide (hup hb6 HA.out)
        have HVX := hide hvx
        clear hvx hb6 HMU
        by_cases hk0 : k < 0
        · have HSU := hide (refSubF_any x mx (10 + j) (2 + 7) _ _ _ HA.out.2.1 HVX.out (by omega) (HSUB.out hk0).1)
          rw [(HSUB.out hk0).2] at HSU
          clear HVX
          go_wp2_with fail
          refine HSU.out.mono ?_
          rintro e w7 ⟨vr, rfl, hvr, hfr, hb7⟩
          obtain ⟨orr, lr, cr, rfl⟩ := bgs_slice hvr
          have HG := hide (hup hb7 HA.out)
          have HF' : Hid (∀ g, v'.ownBlock = some g → ∀ b off, orr = some ⟨b, off, none⟩ → b ≠ g) := fun g hg b off e => by
            have h1 := (HA.out.2.2.lt g hg).2
            subst e
            have h2 := hfr b off lr cr rfl
            omega
          have HV := hide (hvr.mono (show _ ≤ 10 + (j + 1) by omega))
          have HOW : Hid (w7.ownsRow base 3 1 v' (j + 1) ((seqL dj (j + 1)).map mkZ)) := by
            have h := HG.out.2.2
            rw [seqL_succ, HKJ.out]
            exact h
          have HRN := hide HG.out.1
          clear HSU hvr hfr hb7 HA HG
          go_wp2
          go_roundw
          case rel => exact ⟨j + 1, orr, lr, cr, by omega, by first | rfl | go_num, rfl, HRN, HV, HOW, HF'⟩
          case measure => simp [intOf]; omega
  
        · have HSU := hide (refAddF_any x mx (10 + j) (2 + 7) _ _ _ HA.out.2.1 HVX.out (by omega) (by decide))
          rw [HADD.out (by omega)] at HSU
          clear HVX
          go_wp2_with fail
          refine HSU.out.mono ?_
          rintro e w7 ⟨vr, rfl, hvr, hfr, hb7⟩
          obtain ⟨orr, lr, cr, rfl⟩ := bgs_slice hvr
          have HG := hide (hup hb7 HA.out)
          have HF' : Hid (∀ g, v'.ownBlock = some g → ∀ b off, orr = some ⟨b, off, none⟩ → b ≠ g) := fun g hg b off e => by
            have h1 := (HA.out.2.2.lt g hg).2
            subst e
            have h2 := hfr b off lr cr rfl
            omega
          have HV := hide (hvr.mono (show _ ≤ 10 + (j + 1) by omega))
          have HOW : Hid (w7.ownsRow base 3 1 v' (j + 1) ((seqL dj (j + 1)).map mkZ)) := by
            have h := HG.out.2.2
            rw [seqL_succ, HKJ.out]
            exact h
          have HRN := hide HG.out.1
          clear HSU hvr hfr hb7 HA HG
          go_wp2
          go_roundw
          case rel => exact ⟨j + 1, orr, lr, cr, by omega, by first | rfl | go_num, rfl, HRN, HV, HOW, HF'⟩
          case measure => simp [intOf]; omega
  
  
    · have hk : j = steps := by omega
      subst hk
      have HR : Hid (Rd mkZ wr (.slice oo lo co) (seqL dj j) ∧ BigV wr (.slice ao l c) (pn j) 100 ∧ Below w.heap.size w wr) := ⟨infoZ_rd (seqL_len dj j) HOWN.out, by rw [hx]; exact HV.out.mono (by omega), HRN.out.bel⟩
      clear HRN HV HOWN HAP hx
      go_wp2
      exact bodyPost_ret (v := .tuple #[.slice oo lo co, .slice ao l c]) (by simp [results, Try.results12, go_sem]) rfl ⟨_, _, rfl, HR.out.1, HR.out.2.1, HR.out.2.2⟩

end Go.Proofs.Ytbngaajhdaciaaa

/- radicandref16.Run: the digits, and the root so far, in plain numbers. -/
set_option linter.unusedVariables false
set_option linter.unusedSimpArgs false
set_option maxRecDepth 8000
namespace Go.Proofs.Ytbngaajhdaciaaa
open Go.RowKit Plain

/-- The root so far behind j steps; what is left; the digit of a step. -/
def pn16 (n j : Nat) : Nat := (pR ((up16 n : Nat) : Int) 63 j).toNat
def lf16 (n j : Nat) : Int := ((up16 n : Nat) : Int) - ((pn16 n j * pn16 n j : Nat) : Int)
def dg16 (n j : Nat) : Int := dgR ((up16 n : Nat) : Int) 63 j

theorem up16_bd (n : Nat) (h0 : n ≠ 0) (hL : Go.bitLen n ≤ 256) : 2 ^ 254 ≤ up16 n ∧ up16 n < 2 ^ 256 := by
  have hb := bitLen_up n (2 * nb16 n) h0
  have hs := bitLen_spec (up16 n)
  have hp := Nat.two_pow_pos (2 * nb16 n)
  have h3 : up16 n ≠ 0 := by
    have := Nat.mul_pos (Nat.pos_of_ne_zero h0) hp
    unfold up16
    omega
  have e : Go.bitLen (up16 n) = Go.bitLen n + 2 * nb16 n := hb
  have hn : nb16 n = (256 - Go.bitLen n) / 2 := rfl
  have h1 := hs.1
  have h2 := hs.2 h3
  generalize Go.bitLen (up16 n) = B at *
  constructor
  · exact Nat.le_trans (Nat.pow_le_pow_right (by decide) (show 254 ≤ B - 1 by omega)) h2
  · exact Nat.lt_of_lt_of_le h1 (Nat.pow_le_pow_right (by decide) (show B ≤ 256 by omega))

/-- The run's conditions. -/
structure Ok16 (n : Nat) : Prop where
  lo : (32 : Int) * 4 ^ (63 - 2) * (32 * 4 ^ (63 - 2)) ≤ ((up16 n : Nat) : Int)
  hi : ((up16 n : Nat) : Int) < 64 * 4 ^ (63 - 2) * (64 * 4 ^ (63 - 2))
theorem ok16 (n : Nat) (h0 : n ≠ 0) (hL : Go.bitLen n ≤ 256) : Ok16 n := by
  have hb := up16_bd n h0 hL
  have e1 : (32 : Int) * 4 ^ (63 - 2) * (32 * 4 ^ (63 - 2)) = ((2 ^ 254 : Nat) : Int) := by decide +kernel
  have e2 : (64 : Int) * 4 ^ (63 - 2) * (64 * 4 ^ (63 - 2)) = ((2 ^ 256 : Nat) : Int) := by decide +kernel
  refine ⟨by rw [e1]; exact_mod_cast hb.1, by rw [e2]; exact_mod_cast hb.2⟩
theorem Ok16.keeps {n : Nat} (h : Ok16 n) (j : Nat) (hj : j ≤ 64) : RootIs ((up16 n : Nat) : Int) (4 ^ (63 - 2)) (4 ^ (64 - j)) (pR ((up16 n : Nat) : Int) 63 j) :=
  pR_keeps (T := 63) (by decide) h.lo h.hi j hj
theorem Ok16.cast {n : Nat} (h : Ok16 n) (j : Nat) (hj : j ≤ 64) : ((pn16 n j : Nat) : Int) = pR ((up16 n : Nat) : Int) 63 j := by
  have h1 := (h.keeps j hj).p32
  have h2 := pow4_pos (63 - 2)
  exact Int.toNat_of_nonneg (by omega)
theorem Ok16.bd {n : Nat} (h : Ok16 n) (j : Nat) (hj : j < 64) : -2 ≤ dg16 n j ∧ dg16 n j ≤ 2 :=
  dgR_bd (T := 63) (by decide) h.lo h.hi j (by omega)
theorem z122 : (4 : Int) ^ (63 - 2) = ((2 ^ 122 : Nat) : Int) := by decide +kernel
theorem Ok16.sh {n : Nat} (h : Ok16 n) (j : Nat) (hj : j ≤ 64) : 28 ≤ pn16 n j / 2 ^ 122 ∧ pn16 n j / 2 ^ 122 ≤ 64 := by
  have hk := h.keeps j hj
  have h1 := hk.p32
  have h2 := hk.p64
  rw [← h.cast j hj, z122] at h1 h2
  have hp := Nat.two_pow_pos 122
  generalize (2 ^ 122 : Nat) = Z at *
  have a : 28 * Z ≤ pn16 n j := by omega
  have b : pn16 n j ≤ Z * 64 := by omega
  exact ⟨(Nat.le_div_iff_mul_le hp).2 a, Nat.div_le_of_le_mul b⟩
theorem Ok16.step {n : Nat} (h : Ok16 n) (j : Nat) (hj : j < 64) : ((pn16 n (j + 1) : Nat) : Int) = ((pn16 n j : Nat) : Int) + dg16 n j * ((2 ^ (126 - 2 * j) : Nat) : Int) := by
  rw [h.cast j (by omega), h.cast (j + 1) (by omega), pR_succ, pow4_two, show 2 * (63 - j) = 126 - 2 * j by omega]
  rfl
theorem Ok16.dg {n : Nat} (h : Ok16 n) (j : Nat) (hj : j < 64) : dg16 n j = chN (rbN (j : Nat) ((pn16 n j / 2 ^ 122 : Nat) : Int)) (lf16 n j / 2 ^ (248 - 2 * j)) := by
  unfold dg16 dgR lf16
  rw [Int.natCast_mul, h.cast j (by omega), Int.natCast_ediv, h.cast j (by omega), z122, pow4_two, ← Int.natCast_mul, ← Nat.pow_add, show 122 + 2 * (63 - j) = 248 - 2 * j by omega]
  simp
theorem root_left (N P Z w W : Int) (hZ : 0 < Z) (hw : 0 < w) (hW : W = 4 * w) (hw2 : w ≤ 16 * Z) (h : RootIs N Z W P) : -(456 * (Z * w)) ≤ N - P * P ∧ N - P * P ≤ 456 * (Z * w) := by
  have h1 := h.lo
  have h2 := h.hi
  have hp := h.p64
  have e1 := sqc P W 2
  have e2 := sqc P W (-2)
  rw [show 3 * P - 2 * W = 3 * P + -2 * W by omega, e2] at h1
  rw [e1] at h2
  have a : P * W ≤ 64 * Z * W := Int.mul_le_mul_of_nonneg_right hp (by omega)
  have b : W * W ≤ 64 * Z * W := Int.mul_le_mul_of_nonneg_right (by omega) (by omega)
  have e3 : 64 * Z * W = 256 * (Z * w) := by
    rw [hW, mul4c]
    rfl
  rw [e3] at a b
  have c : 0 ≤ W * W := Int.mul_nonneg (by omega) (by omega)
  omega
theorem Ok16.small {n : Nat} (h : Ok16 n) (j : Nat) (hj : j < 64) : (lf16 n j).natAbs / 2 ^ (248 - 2 * j) < 4294967295 := by
  have hk := h.keeps j (by omega)
  have hw := (wz_pow (T := 63) (j := j) (by decide) (by omega)).1
  have hz := pow4_pos (63 - 2)
  have hp := pow4_pos (63 - j)
  have hw2 : (4 : Int) ^ (63 - j) ≤ 16 * 4 ^ (63 - 2) := by
    rcases hw with ⟨_, h⟩ | ⟨_, h⟩ | ⟨_, h⟩ | ⟨_, h⟩ <;> omega
  have hr := root_left _ _ _ (4 ^ (63 - j)) _ hz hp (by rw [show 64 - j = (63 - j) + 1 by omega, Int.pow_succ, Int.mul_comm]) hw2 hk
  rw [z122, pow4_two, ← Int.natCast_mul, ← Nat.pow_add, show 122 + 2 * (63 - j) = 248 - 2 * j by omega, ← h.cast j (by omega), ← Int.natCast_mul] at hr
  have hl : lf16 n j = ((up16 n : Nat) : Int) - ((pn16 n j * pn16 n j : Nat) : Int) := rfl
  rw [← hl] at hr
  generalize (2 ^ (248 - 2 * j) : Nat) = E at *
  have h2 : (lf16 n j).natAbs ≤ E * 456 := by omega
  have h3 := Nat.div_le_of_le_mul h2
  omega

/-- Run: the digits, and the root so far. -/
theorem run16_any (n steps : Nat) (hn : n < QQ) (h0 : n ≠ 0) (hL : Go.bitLen n ≤ 256) (hst : steps ≤ 64) (w : World) :
    Calls Try.prog 12 #[.agg #[.int .u64 (dgl (n) 0 : Nat), .int .u64 (dgl (n) 1 : Nat), .int .u64 (dgl (n) 2 : Nat), .int .u64 (dgl (n) 3 : Nat), .int .u64 (dgl (n) 4 : Nat), .int .u64 (dgl (n) 5 : Nat), .int .u64 (dgl (n) 6 : Nat), .int .u64 (dgl (n) 7 : Nat)], .int .i64 (steps : Nat)] w fun e w' => ∃ v vl, e = .returned (.tuple #[v, vl]) ∧ Rd mkZ w' v (seqL (dg16 n) steps) ∧ BigV w' vl (pn16 n steps) 100 ∧ Below w.heap.size w w' := by
  have ok := ok16 n h0 hL
  have hU : up16 n ≠ 0 := by
    have := (up16_bd n h0 hL).1
    have := Nat.two_pow_pos 254
    omega
  refine run16_walk n (up16 n) (2 * nb16 n) steps (pn16 n) (lf16 n) (dg16 n) hst hU (show ((4 : Int) ^ (63 + 1)).toNat = 2 ^ 128 by decide +kernel) (hide fun j _ => rfl) (hide fun j hj => ok.step j hj) (hide fun j hj => ok.bd j hj) (hide fun j hj => ok.sh j (by omega))
    (hide fun w => norm16_any n hn h0 w) (hide fun w => refPower_int 128 (2 ^ 128) 128 (by decide) rfl rfl w)
    (hide fun j hj w => rrootB_any j _ (by omega) (by have := (ok.sh j (by omega)).1; omega) (by have := (ok.sh j (by omega)).2; omega) w)
    (hide fun j hj K v w hv hK => down15_any (lf16 n j) (248 - 2 * j) K v w hv (by omega) (by omega) (ok.small j hj))
    (hide fun j hj w => by rw [ok.dg j hj]; exact rdigit_any _ _ w) w
end Go.Proofs.Ytbngaajhdaciaaa

/- What the digits come to in the end: the quotient or one more, the root or one more (plain numbers). -/
set_option linter.unusedVariables false
set_option linter.unusedSimpArgs false
set_option maxRecDepth 8000
namespace Go.Proofs.Ytbngaajhdaciaaa
open Go.RowKit Plain

theorem Ok16.fin {n : Nat} (h : Ok16 n) :
    (pn16 n 64 * pn16 n 64 ≤ up16 n → up16 n < (pn16 n 64 + 1) * (pn16 n 64 + 1)) ∧
    (up16 n < pn16 n 64 * pn16 n 64 → (pn16 n 64 - 1) * (pn16 n 64 - 1) ≤ up16 n) ∧ 1 ≤ pn16 n 64 := by
  have hk := h.keeps 64 (by decide)
  rw [Nat.sub_self, Int.pow_zero] at hk
  rw [← h.cast 64 (by decide)] at hk
  have h1 : 1 ≤ pn16 n 64 := by
    have := hk.p32
    have := pow4_pos (63 - 2)
    omega
  have he := pR_end (N := ((up16 n : Nat) : Int)) (P := ((pn16 n 64 : Nat) : Int)) (by omega) (by simpa using hk.lo) (by simpa using hk.hi)
  refine ⟨fun g => ?_, fun g => ?_, h1⟩
  · have := he.1 (by exact_mod_cast g)
    exact_mod_cast this
  · have := he.2 (by exact_mod_cast g)
    rw [show ((pn16 n 64 : Nat) : Int) - 1 = ((pn16 n 64 - 1 : Nat) : Int) by omega] at this
    exact_mod_cast this
/-- A root, shifted down again. -/
theorem root_down (n S m : Nat) (h1 : S * S ≤ n * 2 ^ (2 * m)) (h2 : n * 2 ^ (2 * m) < (S + 1) * (S + 1)) : S / 2 ^ m * (S / 2 ^ m) ≤ n ∧ n < (S / 2 ^ m + 1) * (S / 2 ^ m + 1) := by
  have hp := Nat.two_pow_pos m
  have e : 2 ^ (2 * m) = 2 ^ m * 2 ^ m := by rw [← Nat.pow_add, Nat.two_mul]
  rw [e] at h1 h2
  have a := Nat.div_mul_le_self S (2 ^ m)
  have b : S < (S / 2 ^ m + 1) * 2 ^ m := by
    have := Nat.lt_mul_of_div_lt (Nat.lt_succ_self (S / 2 ^ m)) hp
    simpa using this
  generalize 2 ^ m = P at *
  generalize S / P = q at *
  have hPP : 0 < P * P := Nat.mul_pos hp hp
  constructor
  · have c : q * P * (q * P) ≤ n * (P * P) := Nat.le_trans (Nat.mul_le_mul a a) h1
    rw [Nat.mul_mul_mul_comm] at c
    exact Nat.le_of_mul_le_mul_right c hPP
  · have c : n * (P * P) < (q + 1) * P * ((q + 1) * P) := Nat.lt_of_lt_of_le h2 (Nat.mul_le_mul b b)
    rw [Nat.mul_mul_mul_comm] at c
    exact Nat.lt_of_mul_lt_mul_right c
end Go.Proofs.Ytbngaajhdaciaaa

/- The digits' row, and the number that fly.Convert makes of it (plain numbers). -/
set_option linter.unusedVariables false
set_option linter.unusedSimpArgs false
set_option maxRecDepth 8000
namespace Go.Proofs.Ytbngaajhdaciaaa
open Go.RowKit Plain

end Go.Proofs.Ytbngaajhdaciaaa

/- Contracts: table.Row. -/
set_option linter.unusedVariables false
set_option linter.unusedSimpArgs false
set_option maxRecDepth 8000
namespace Go.Proofs.Ytbngaajhdaciaaa
open Go.RowKit Plain

end Go.Proofs.Ytbngaajhdaciaaa

/- A row of digits, digit by digit. -/
set_option linter.unusedVariables false
set_option linter.unusedSimpArgs false
set_option maxRecDepth 8000
namespace Go.Proofs.Ytbngaajhdaciaaa
open Go.RowKit Plain

theorem rd_seq {w : World} {ao : Option Addr} {ca k : Nat} {f : Nat → Int} (h : Rd mkZ w (.slice ao k ca) (seqL f k)) (h0 : 0 < k) (hb : ∀ i, i < k → -9223372036854775808 ≤ f i) :
    ∃ b off, ao = some ⟨b, off, none⟩ ∧ b < w.heap.size ∧ ∀ i, i < k → w.cell? ⟨b, off + i, none⟩ = some (.int .i64 (f i)) := by
  obtain ⟨bo, ca2, he, h1, h2, h3⟩ := h
  rw [seqL_len] at he h3
  obtain ⟨rfl, rfl⟩ : ao = bo ∧ ca = ca2 := by
    simp only [Value.slice.injEq] at he
    exact ⟨he.1, he.2.2⟩
  rcases h3 with h3 | ⟨b, off, h4, h5, h6⟩
  · omega
  · refine ⟨b, off, h4, h5, fun i hi => ?_⟩
    have h7 := h6 i hi
    rw [seqL_get f k i hi, mkZ_nof (hb i hi)] at h7
    exact h7
/-- The row is a slice of so many ints. -/
theorem rd_slice {w : World} {v : Value} {k : Nat} {f : Nat → Int} (h : Rd mkZ w v (seqL f k)) : ∃ ao ca, v = .slice ao k ca := by
  obtain ⟨ao, ca, rfl, -⟩ := h
  exact ⟨ao, ca, by rw [seqL_len]⟩
theorem u8_natS {a : Int} (h : (Lit.int .u8 a).wf = true) : ∃ x : Nat, a = (x : Int) ∧ x < 256 := by
  simp only [Lit.wf, Bool.and_eq_true, decide_eq_true_eq] at h
  have hmin : IntKind.u8.min = 0 := rfl
  have hmax : IntKind.u8.max = 255 := rfl
  exact ⟨a.toNat, by omega, by omega⟩
end Go.Proofs.Ytbngaajhdaciaaa

