/- Contracts: limb.Shift. -/
import Derived.Test.YtenbomfoihajhaaLimbG
set_option linter.unusedVariables false
set_option linter.unusedSimpArgs false
set_option maxRecDepth 8000
namespace Go.Proofs.Ytenbomfoihajhaa
open Go.RowKit Plain

theorem and63 (n : Int) : bits .and .i64 n 63 = ((n % 64).toNat : Nat) := by
  have h63 : (BitVec.ofInt 64 63).toNat = 2 ^ 6 - 1 := by decide
  have key : (BitVec.ofInt 64 n &&& BitVec.ofInt 64 63).toNat = (n % ((2 ^ 64 : Nat) : Int)).toNat % 2 ^ 6 := by
    rw [BitVec.toNat_and, BitVec.toNat_ofInt, h63, Nat.and_two_pow_sub_one_eq_mod]
  show IntKind.i64.wrap ((BitVec.ofInt 64 n &&& BitVec.ofInt 64 63).toNat : Nat) = _
  rw [key, IntKind.wrap_i64]
  omega

/-- n times 2^k, or divided by 2^-k, without rest. -/
def sh (n : Nat) (k : Int) : Nat := if k < 0 then n / 2 ^ (-k).toNat else n * 2 ^ k.toNat

theorem LLpow (s : Nat) : (18446744073709551616 : Nat) ^ s = 2 ^ (64 * s) := by rw [Nat.pow_mul]

theorem sh_pos (n s b : Nat) : sh n (64 * (s : Int) + (b : Int)) = n * 2 ^ b * 18446744073709551616 ^ s := by
  unfold sh
  rw [if_neg (by omega), LLpow, show (64 * (s : Int) + (b : Int)).toNat = b + 64 * s by omega, Nat.pow_add, Nat.mul_assoc]
theorem sh_neg (n t b : Nat) (ht : 1 ≤ t) (hb : b < 64) : sh n (-64 * (t : Int) + (b : Int)) = n * 2 ^ b / 18446744073709551616 ^ t := by
  unfold sh
  rw [if_pos (by omega), LLpow, show (-(-64 * (t : Int) + (b : Int))).toNat = 64 * t - b by omega]
  have e : 2 ^ (64 * t) = 2 ^ (64 * t - b) * 2 ^ b := by rw [← Nat.pow_add]; congr 1; omega
  rw [e, Nat.mul_div_mul_right _ _ (Nat.two_pow_pos b)]

theorem sh_digit (n b : Nat) (k : Int) (hb : b = (k % 64).toNat) (j : Nat) : shd n b ((j : Int) - k / 64) = sh n k / 18446744073709551616 ^ j % 18446744073709551616 := by
  by_cases hk : k / 64 < 0
  · obtain ⟨t, ht⟩ : ∃ t : Nat, k / 64 = -(t : Int) := ⟨(-(k / 64)).toNat, by omega⟩
    have ek : k = -64 * (t : Int) + (b : Int) := by omega
    rw [ek, sh_neg n t b (by omega) (by omega), Nat.div_div_eq_div_mul, ← Nat.pow_add]
    have e2 : (-64 * (t : Int) + (b : Int)) / 64 = -(t : Int) := by omega
    rw [e2]
    unfold shd
    rw [if_neg (by omega), show ((j : Int) - -(t : Int)).toNat = t + j by omega]
  · obtain ⟨s, hs⟩ : ∃ s : Nat, k / 64 = (s : Int) := ⟨(k / 64).toNat, by omega⟩
    have ek : k = 64 * (s : Int) + (b : Int) := by omega
    rw [ek, sh_pos]
    have e2 : (64 * (s : Int) + (b : Int)) / 64 = (s : Int) := by omega
    rw [e2]
    unfold shd
    by_cases hj : j < s
    · rw [if_pos (by omega)]
      have e3 : n * 2 ^ b * 18446744073709551616 ^ s = 18446744073709551616 ^ j * (n * 2 ^ b * 18446744073709551616 ^ (s - j - 1) * 18446744073709551616) := by
        have : s = j + (s - j - 1 + 1) := by omega
        conv => lhs; rw [this]
        rw [Nat.pow_add, Nat.pow_succ]
        simp [Nat.mul_comm, Nat.mul_left_comm, Nat.mul_assoc]
      rw [e3, Nat.mul_div_cancel_left _ (Nat.pow_pos (by decide)), Nat.mul_mod_left]
    · rw [if_neg (by omega), show ((j : Int) - (s : Int)).toNat = j - s by omega]
      have e3 : (18446744073709551616 : Nat) ^ j = 18446744073709551616 ^ (j - s) * 18446744073709551616 ^ s := by rw [← Nat.pow_add]; congr 1; omega
      rw [e3, Nat.mul_div_mul_right _ _ (Nat.pow_pos (by decide))]

theorem sh_fits (n len : Nat) (k : Int) (hn : n < 18446744073709551616 ^ len) : sh n k < 18446744073709551616 ^ ((len : Int) + k / 64 + 1).toNat := by
  obtain ⟨b, hb⟩ : ∃ b, b = (k % 64).toNat := ⟨_, rfl⟩
  have h1 : n * 2 ^ b < 18446744073709551616 ^ (len + 1) := by
    rw [Nat.pow_succ]
    have : 2 ^ b ≤ 2 ^ 64 := Nat.pow_le_pow_right (by decide) (by omega)
    exact Nat.mul_lt_mul_of_lt_of_le hn this (by decide)
  by_cases hk : k / 64 < 0
  · obtain ⟨t, ht⟩ : ∃ t : Nat, k / 64 = -(t : Int) := ⟨(-(k / 64)).toNat, by omega⟩
    have ek : k = -64 * (t : Int) + (b : Int) := by omega
    have e := sh_neg n t b (by omega) (by omega)
    rw [← ek] at e
    rw [e]
    rcases Nat.lt_or_ge (len + 1) t with h | h
    · have e1 : ((len : Int) + k / 64 + 1).toNat = 0 := by omega
      rw [e1, Nat.div_eq_of_lt (Nat.lt_of_lt_of_le h1 (Nat.pow_le_pow_right (by decide) (by omega)))]
      decide
    · have e1 : ((len : Int) + k / 64 + 1).toNat = len + 1 - t := by omega
      rw [e1, Nat.div_lt_iff_lt_mul (Nat.pow_pos (by decide)), ← Nat.pow_add]
      have : len + 1 - t + t = len + 1 := by omega
      rw [this]; exact h1
  · obtain ⟨s, hs⟩ : ∃ s : Nat, k / 64 = (s : Int) := ⟨(k / 64).toNat, by omega⟩
    have ek : k = 64 * (s : Int) + (b : Int) := by omega
    have e := sh_pos n s b
    rw [← ek] at e
    have e1 : ((len : Int) + k / 64 + 1).toNat = len + 1 + s := by omega
    rw [e, e1, Nat.pow_add]
    exact Nat.mul_lt_mul_of_pos_right h1 (Nat.pow_pos (by decide))

/-- What the closure of limb.Shift finds in its boxes. -/
structure ShiftInv (B : Nat) (va : Value) (s : Int) (b : Nat) (w wr : World) : Prop where
  a : wr.cell? ⟨B, 0, none⟩ = some va
  s : wr.cell? ⟨B + 1, 0, none⟩ = some (.int .i64 s)
  y : wr.cell? ⟨B + 1 + 1, 0, none⟩ = some (.int .u64 (b : Nat))
  bel : Below B w wr

theorem ShiftInv.below {B b : Nat} {va : Value} {s : Int} {w wr wr' : World} (h : ShiftInv B va s b w wr) (hb : Below (B + 1 + 1 + 1) wr wr') : ShiftInv B va s b w wr' :=
  ⟨(hb.cell (p := ⟨B, 0, none⟩) (show B < B + 1 + 1 + 1 by omega)).trans h.a, (hb.cell (p := ⟨B + 1, 0, none⟩) (show B + 1 < B + 1 + 1 + 1 by omega)).trans h.s,
   (hb.cell (p := ⟨B + 1 + 1, 0, none⟩) (show B + 1 + 1 < B + 1 + 1 + 1 by omega)).trans h.y, h.bel.trans (hb.mono (by omega))⟩

theorem ShiftInv.start (w : World) (va : Value) (s : Int) (b : Nat) :
    ShiftInv w.heap.size va s b w (((w.alloc (Obj.cells #[va] 92)).alloc (Obj.cells #[Value.int IntKind.i64 s] 3)).alloc (Obj.cells #[Value.int IntKind.u64 (b : Nat)] 86)) := by
  refine ⟨?_, ?_, ?_, ?_⟩
  · simp [go_sem]
  · simp [go_sem]
  · simp [go_sem]
  · exact Below.alloc (Below.alloc (Below.alloc (Below.refl _ _) (Nat.le_refl _) _) (by simp) _) (by simp; omega) _

/-- From what limb.list hands back to the number. -/
theorem list_num {f : Nat → Nat} {N nn k : Nat} (hf : ∀ j, f j = N / 18446744073709551616 ^ j % 18446744073709551616) (hN : N < 18446744073709551616 ^ nn) (hk : k ≤ nn) (hz : ∀ j, k ≤ j → j < nn → f j = 0) (hn : k = 0 ∨ f (k - 1) ≠ 0) :
    Dig 18446744073709551616 (((List.range nn).map f).take k) N ∧ Norm 18446744073709551616 (((List.range nn).map f).take k) N ∧ (((List.range nn).map f).take k).length = k := by
  have el : (List.range nn).map f = dl 18446744073709551616 N nn := by unfold dl; congr 1; funext j; exact hf j
  rw [el]
  have hdig := dl_dig 18446744073709551616 N nn hN (by decide)
  have hl := dl_length 18446744073709551616 N nn
  have hzz : ∀ j, k ≤ j → dg (dl 18446744073709551616 N nn) j = 0 := by
    intro j hj
    rcases Nat.lt_or_ge j nn with h | h
    · rw [hdig.2 j, ← hf]; exact hz j hj h
    · exact getD_past _ _ (by rw [hl]; exact h)
  have hcut := hdig.cut (by decide) k (by rw [hl]; exact hk) hzz
  have hlk : ((dl 18446744073709551616 N nn).take k).length = k := by rw [List.length_take, hl]; omega
  refine ⟨hcut, hcut.norm (by decide) ?_, hlk⟩
  rw [hlk]
  rcases hn with h | h
  · exact .inl h
  · by_cases h0 : k = 0
    · exact .inl h0
    · exact .inr (by rw [getD_take, if_pos (by omega), hdig.2, ← hf]; exact h)

end Go.Proofs.Ytenbomfoihajhaa
