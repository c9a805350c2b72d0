/- Contracts and laws: LimbA. -/
import Derived.Test.YteocibahclpegaaRows
import Derived.WalkKit
import Derived.WalkSpells
import Derived.WalkLawsBesides
import Derived.Laws.Externs
import Derived.Laws.Bits64b
import Derived.Test.YteocibahclpegaaPartAA
import Derived.Test.YteocibahclpegaaPartAD
/- Contracts of limb.one, limb.Add, limb.Sub, limb.Mul: what each call returns, for all limbs; the world stays. -/
set_option linter.unusedVariables false
set_option linter.unusedSimpArgs false
set_option maxRecDepth 8000
namespace Go.Proofs.Yteocibahclpegaa
open Go.RowKit

/-- 1 of what isn't 0. -/
def oneI (c : Int) : Int := if c = 0 then 0 else 1
theorem oneI_01 (c : Int) : oneI c = 0 ∨ oneI c = 1 := by unfold oneI; split <;> simp

def M64 : Int := 18446744073709551616
def lo64 (a : Int) : Int := a % M64
def hi64 (a : Int) : Int := a / M64

theorem add64_run (x y c : Int) (hx : 0 ≤ x) (hy : 0 ≤ y) (hc0 : 0 ≤ c) (hc : c ≤ 1) (w : World) :
    (callFunc 111 #[.int .u64 x, .int .u64 y, .int .u64 c]).run Try.prog w =
      .ok (.value (.tuple #[.int .u64 (lo64 (x + y + c)), .int .u64 (hi64 (x + y + c))])) w := by
  rw [run_callFunc_extern Try.func111 (by kernel_rfl) (by kernel_rfl) (by kernel_rfl) (e := add64Entry) (by kernel_rfl), run_add64 x y c hx hy hc0 hc]
  rfl

def subRow : Array Value → Sem Value := (Extern.MathBitsCarry.rows[1]'(by decide)).2

theorem run_subRow {P : Program} (x y b : Nat) (hb : b ≤ 1) (w : World) :
    (subRow #[.int .u64 x, .int .u64 y, .int .u64 b]).run P w =
      .ok (.tuple #[.int .u64 (((x + 18446744073709551616 - y - b) % 18446744073709551616 : Nat) : Int), .int .u64 ((if x < y + b then 1 else 0 : Nat) : Int)]) w := by
  have : b = 0 ∨ b = 1 := by omega
  rcases this with rfl | rfl <;> rfl

theorem sub64_run (x y c : Int) (hx : 0 ≤ x) (hy : 0 ≤ y) (hy1 : y < M64) (hc0 : 0 ≤ c) (hc : c ≤ 1) (w : World) :
    (callFunc 102 #[.int .u64 x, .int .u64 y, .int .u64 c]).run Try.prog w =
      .ok (.value (.tuple #[.int .u64 (lo64 (x - y - c)), .int .u64 (if x < y + c then 1 else 0)])) w := by
  obtain ⟨x, rfl⟩ := Int.eq_ofNat_of_zero_le hx
  obtain ⟨y, rfl⟩ := Int.eq_ofNat_of_zero_le hy
  obtain ⟨c, rfl⟩ := Int.eq_ofNat_of_zero_le hc0
  unfold M64 at hy1
  rw [run_callFunc_extern Try.func102 (by kernel_rfl) (by kernel_rfl) (by kernel_rfl) (e := subRow) (by kernel_rfl), run_subRow x y c (by omega)]
  have e1 : (((x + 18446744073709551616 - y - c) % 18446744073709551616 : Nat) : Int) = lo64 ((x : Int) - y - c) := by unfold lo64 M64; omega
  have e2 : ((if x < y + c then 1 else 0 : Nat) : Int) = (if (x : Int) < y + c then 1 else 0) := by split <;> split <;> omega
  rw [e1, e2]
  rfl

set_option maxHeartbeats 400000 in
theorem one_any (c : Int) (w : World) :
    Calls Try.prog 103 #[.int .u64 c] w fun e w' => e = .returned (.int .u64 (oneI c)) ∧ w' = w := by
  by_cases h : c = 0
  · have hb : (c != 0) = false := by simp [h]
    have HO : Hid (oneI c = 0) := by unfold Hid oneI; simp [h]
    clear h
    go_enter Try.func103, Try.ntmps103
    go_wp2
    go_ret
    exact ⟨ret_int HO.out.symm, rfl⟩
  · have hb : (c != 0) = true := by simp [h]
    have HO : Hid (oneI c = 1) := by unfold Hid oneI; simp [h]
    clear h
    go_enter Try.func103, Try.ntmps103
    go_wp2
    go_ret
    exact ⟨ret_int HO.out.symm, rfl⟩

set_option maxHeartbeats 400000 in
theorem limbAdd_any (a b c : Int) (w : World) (ha : 0 ≤ a) (hb : 0 ≤ b) :
    Calls Try.prog 99 #[.int .u64 a, .int .u64 b, .int .u64 c] w fun e w' =>
      e = .returned (.tuple #[.int .u64 (lo64 (a + b + oneI c)), .int .u64 (hi64 (a + b + oneI c))]) ∧ w' = w := by
  have h1 : 0 ≤ oneI c ∧ oneI c ≤ 1 := by rcases oneI_01 c with h | h <;> omega
  have hr := fun w => add64_run a b (oneI c) ha hb h1.1 h1.2 w
  clear h1
  go_enter Try.func99, Try.ntmps99
  go_wp2_with (go_at_call 103; refine (one_any _ _).mono ?_; rintro e w' ⟨rfl, rfl⟩)
  go_ret2
  exact ⟨rfl, rfl⟩

set_option maxHeartbeats 400000 in
theorem limbSub_any (a b c : Int) (w : World) (ha : 0 ≤ a) (hb : 0 ≤ b) (hb1 : b < M64) :
    Calls Try.prog 84 #[.int .u64 a, .int .u64 b, .int .u64 c] w fun e w' =>
      e = .returned (.tuple #[.int .u64 (lo64 (a - b - oneI c)), .int .u64 (if a < b + oneI c then 1 else 0)]) ∧ w' = w := by
  have h1 : 0 ≤ oneI c ∧ oneI c ≤ 1 := by rcases oneI_01 c with h | h <;> omega
  have hr := fun w => sub64_run a b (oneI c) ha hb hb1 h1.1 h1.2 w
  clear h1 hb1
  generalize (if a < b + oneI c then (1 : Int) else 0) = t at *
  go_enter Try.func84, Try.ntmps84
  go_wp2_with (go_at_call 103; refine (one_any _ _).mono ?_; rintro e w' ⟨rfl, rfl⟩)
  go_ret2
  exact ⟨rfl, rfl⟩

theorem maskN (a : Nat) (ha : a < 18446744073709551616) : bits .and .u64 (a : Int) 4294967295 = ((a % 4294967296 : Nat) : Int) := by
  have h := bits_and_u64_nat a 4294967295 ha (by omega)
  have e : a &&& 4294967295 = a % 4294967296 := Nat.and_two_pow_sub_one_eq_mod a 32
  rw [e] at h
  exact h
theorem divN (a : Nat) : (a : Int) / 4294967296 = ((a / 4294967296 : Nat) : Int) := by omega
theorem mulN (a b : Nat) : (a : Int) * (b : Int) = ((a * b : Nat) : Int) := (Int.natCast_mul a b).symm
theorem addN (a b : Nat) : (a : Int) + (b : Int) = ((a + b : Nat) : Int) := (Int.natCast_add a b).symm
theorem wrapN (a : Nat) (ha : a < 18446744073709551616) : IntKind.u64.wrap (a : Int) = (a : Int) := by rw [IntKind.wrap_u64]; omega
theorem wrapM (a : Nat) : IntKind.u64.wrap (a : Int) = ((a % 18446744073709551616 : Nat) : Int) := by rw [IntKind.wrap_u64]; omega

set_option maxHeartbeats 1000000 in
theorem mul64_nat (x y : Nat) (hx : x < 18446744073709551616) (hy : y < 18446744073709551616) (w : World) :
    Calls Try.prog 112 #[.int .u64 x, .int .u64 y] w fun e w' => e = .returned (.tuple #[.int .u64 ((x * y / 18446744073709551616 : Nat) : Int), .int .u64 ((x * y % 18446744073709551616 : Nat) : Int)]) ∧ w' = w := by
  obtain ⟨bd, bt, bw, hhi, ba, bb, bc, bh1, bh⟩ := Plain.mul_halves x y hx hy
  go_enter Try.func112, Try.ntmps112
  go_wp2
  simp only [maskN x hx, maskN y hy, divN, mulN, addN, wrapN _ bd, wrapN _ bb, wrapN _ bt, maskN _ bt, wrapN _ bc, wrapN _ bw, wrapN _ ba, wrapN _ bh1, wrapN _ bh, wrapM (x * y)]
  rw [hhi]
  go_ret2
  exact ⟨rfl, rfl⟩

theorem limbMul_any (a b : Int) (w : World) (ha : 0 ≤ a) (ha1 : a < M64) (hb : 0 ≤ b) (hb1 : b < M64) :
    Calls Try.prog 100 #[.int .u64 a, .int .u64 b] w fun e w' =>
      e = .returned (.tuple #[.int .u64 (hi64 (a * b)), .int .u64 (lo64 (a * b))]) ∧ w' = w := by
  obtain ⟨x, rfl⟩ := Int.eq_ofNat_of_zero_le ha
  obtain ⟨y, rfl⟩ := Int.eq_ofNat_of_zero_le hb
  unfold M64 at ha1 hb1
  have e1 : hi64 ((x : Int) * (y : Int)) = ((x * y / 18446744073709551616 : Nat) : Int) := by rw [mulN]; unfold hi64 M64; omega
  have e2 : lo64 ((x : Int) * (y : Int)) = ((x * y % 18446744073709551616 : Nat) : Int) := by rw [mulN]; unfold lo64 M64; omega
  rw [e1, e2]
  have hm := fun w => mul64_nat x y (by omega) (by omega) w
  clear ha1 hb1 ha hb e1 e2
  generalize ((x * y / 18446744073709551616 : Nat) : Int) = h at *
  generalize ((x * y % 18446744073709551616 : Nat) : Int) = l at *
  have HM : Hid (∀ w, Calls Try.prog 112 #[.int .u64 x, .int .u64 y] w fun e w' => e = .returned (.tuple #[.int .u64 h, .int .u64 l]) ∧ w' = w) := hm
  clear hm
  go_enter Try.func100, Try.ntmps100
  go_wp2_with (go_at_call 112; refine (HM.out _).mono ?_; rintro e w' ⟨rfl, rfl⟩)
  go_ret2
  exact ⟨rfl, rfl⟩

end Go.Proofs.Yteocibahclpegaa

