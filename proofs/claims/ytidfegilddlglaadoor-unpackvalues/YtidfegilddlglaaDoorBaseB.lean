/- Contracts and laws: LimbA, LimbB, LimbD. -/
import Derived.Test.YtidfegilddlglaaDoorRows
import Derived.WalkKit
import Derived.WalkSpells
import Derived.WalkLawsBesides
import Derived.Laws.Externs
import Derived.Laws.Bits64b
import Derived.Test.YtidfegilddlglaaDoorBaseA
import Derived.Shelf.Abstract
/- Contracts of limb.one, limb.Add, limb.Sub, limb.Mul: what each call returns, for all limbs; the world stays. -/
set_option linter.unusedVariables false
set_option linter.unusedSimpArgs false
set_option maxRecDepth 8000
namespace Go.Proofs.YtidfegilddlglaaDoor
open Go.RowKit

/-- 1 of what isn't 0. -/
def oneI (c : Int) : Int := if c = 0 then 0 else 1
theorem oneI_01 (c : Int) : oneI c = 0 ∨ oneI c = 1 := by unfold oneI; split <;> simp

def M64 : Int := 18446744073709551616
def lo64 (a : Int) : Int := a % M64
def hi64 (a : Int) : Int := a / M64

theorem add64_run (x y c : Int) (hx : 0 ≤ x) (hy : 0 ≤ y) (hc0 : 0 ≤ c) (hc : c ≤ 1) (w : World) :
    (callFunc 115 #[.int .u64 x, .int .u64 y, .int .u64 c]).run Tryd.prog w =
      .ok (.value (.tuple #[.int .u64 (lo64 (x + y + c)), .int .u64 (hi64 (x + y + c))])) w := by
  rw [run_callFunc_extern Tryd.func115 (by kernel_rfl) (by kernel_rfl) (by kernel_rfl) (e := add64Entry) (by kernel_rfl), run_add64 x y c hx hy hc0 hc]
  rfl

def subRow : Array Value → Sem Value := (Extern.MathBitsCarry.rows[1]'(by decide)).2

theorem run_subRow {P : Program} (x y b : Nat) (hb : b ≤ 1) (w : World) :
    (subRow #[.int .u64 x, .int .u64 y, .int .u64 b]).run P w =
      .ok (.tuple #[.int .u64 (((x + 18446744073709551616 - y - b) % 18446744073709551616 : Nat) : Int), .int .u64 ((if x < y + b then 1 else 0 : Nat) : Int)]) w := by
  have : b = 0 ∨ b = 1 := by omega
  rcases this with rfl | rfl <;> rfl

theorem sub64_run (x y c : Int) (hx : 0 ≤ x) (hy : 0 ≤ y) (hy1 : y < M64) (hc0 : 0 ≤ c) (hc : c ≤ 1) (w : World) :
    (callFunc 119 #[.int .u64 x, .int .u64 y, .int .u64 c]).run Tryd.prog w =
      .ok (.value (.tuple #[.int .u64 (lo64 (x - y - c)), .int .u64 (if x < y + c then 1 else 0)])) w := by
  obtain ⟨x, rfl⟩ := Int.eq_ofNat_of_zero_le hx
  obtain ⟨y, rfl⟩ := Int.eq_ofNat_of_zero_le hy
  obtain ⟨c, rfl⟩ := Int.eq_ofNat_of_zero_le hc0
  unfold M64 at hy1
  rw [run_callFunc_extern Tryd.func119 (by kernel_rfl) (by kernel_rfl) (by kernel_rfl) (e := subRow) (by kernel_rfl), run_subRow x y c (by omega)]
  have e1 : (((x + 18446744073709551616 - y - c) % 18446744073709551616 : Nat) : Int) = lo64 ((x : Int) - y - c) := by unfold lo64 M64; omega
  have e2 : ((if x < y + c then 1 else 0 : Nat) : Int) = (if (x : Int) < y + c then 1 else 0) := by split <;> split <;> omega
  rw [e1, e2]
  rfl

set_option maxHeartbeats 400000 in
theorem one_any (c : Int) (w : World) :
    Calls Tryd.prog 116 #[.int .u64 c] w fun e w' => e = .returned (.int .u64 (oneI c)) ∧ w' = w := by
  by_cases h : c = 0
  · have hb : (c != 0) = false := by simp [h]
    have HO : Hid (oneI c = 0) := by unfold Hid oneI; simp [h]
    clear h
    go_enter Tryd.func116, Tryd.ntmps116
    go_wp2
    go_ret
    exact ⟨ret_int HO.out.symm, rfl⟩
  · have hb : (c != 0) = true := by simp [h]
    have HO : Hid (oneI c = 1) := by unfold Hid oneI; simp [h]
    clear h
    go_enter Tryd.func116, Tryd.ntmps116
    go_wp2
    go_ret
    exact ⟨ret_int HO.out.symm, rfl⟩

set_option maxHeartbeats 400000 in
theorem limbAdd_any (a b c : Int) (w : World) (ha : 0 ≤ a) (hb : 0 ≤ b) :
    Calls Tryd.prog 100 #[.int .u64 a, .int .u64 b, .int .u64 c] w fun e w' =>
      e = .returned (.tuple #[.int .u64 (lo64 (a + b + oneI c)), .int .u64 (hi64 (a + b + oneI c))]) ∧ w' = w := by
  have h1 : 0 ≤ oneI c ∧ oneI c ≤ 1 := by rcases oneI_01 c with h | h <;> omega
  have hr := fun w => add64_run a b (oneI c) ha hb h1.1 h1.2 w
  clear h1
  go_enter Tryd.func100, Tryd.ntmps100
  go_wp2_with (go_at_call 116; refine (one_any _ _).mono ?_; rintro e w' ⟨rfl, rfl⟩)
  go_ret2
  exact ⟨rfl, rfl⟩

set_option maxHeartbeats 400000 in
theorem limbSub_any (a b c : Int) (w : World) (ha : 0 ≤ a) (hb : 0 ≤ b) (hb1 : b < M64) :
    Calls Tryd.prog 109 #[.int .u64 a, .int .u64 b, .int .u64 c] w fun e w' =>
      e = .returned (.tuple #[.int .u64 (lo64 (a - b - oneI c)), .int .u64 (if a < b + oneI c then 1 else 0)]) ∧ w' = w := by
  have h1 : 0 ≤ oneI c ∧ oneI c ≤ 1 := by rcases oneI_01 c with h | h <;> omega
  have hr := fun w => sub64_run a b (oneI c) ha hb hb1 h1.1 h1.2 w
  clear h1 hb1
  generalize (if a < b + oneI c then (1 : Int) else 0) = t at *
  go_enter Tryd.func109, Tryd.ntmps109
  go_wp2_with (go_at_call 116; refine (one_any _ _).mono ?_; rintro e w' ⟨rfl, rfl⟩)
  go_ret2
  exact ⟨rfl, rfl⟩

theorem maskN (a : Nat) (ha : a < 18446744073709551616) : bits .and .u64 (a : Int) 4294967295 = ((a % 4294967296 : Nat) : Int) := by
  have h := bits_and_u64_nat a 4294967295 ha (by omega)
  have e : a &&& 4294967295 = a % 4294967296 := Nat.and_two_pow_sub_one_eq_mod a 32
  rw [e] at h
  exact h
theorem divN (a : Nat) : (a : Int) / 4294967296 = ((a / 4294967296 : Nat) : Int) := by omega
theorem mulN (a b : Nat) : (a : Int) * (b : Int) = ((a * b : Nat) : Int) := (Int.natCast_mul a b).symm
theorem addN (a b : Nat) : (a : Int) + (b : Int) = ((a + b : Nat) : Int) := (Int.natCast_add a b).symm
theorem wrapN (a : Nat) (ha : a < 18446744073709551616) : IntKind.u64.wrap (a : Int) = (a : Int) := by rw [IntKind.wrap_u64]; omega
theorem wrapM (a : Nat) : IntKind.u64.wrap (a : Int) = ((a % 18446744073709551616 : Nat) : Int) := by rw [IntKind.wrap_u64]; omega

end Go.Proofs.YtidfegilddlglaaDoor

/- Contracts of limb: at, list. -/
set_option linter.unusedVariables false
set_option linter.unusedSimpArgs false
set_option maxRecDepth 8000
namespace Go.Proofs.YtidfegilddlglaaDoor
open Go.RowKit Plain

theorem info64 : (Tryd.prog.info? 22).map (fun i => (i.zero, i.size, i.bytes)) = some (some (.int .u64 0), 1, 8) := by kernel_rfl

set_option maxHeartbeats 400000 in
theorem at_any (l : List Nat) (v : Value) (w : World) (hr : Rd mk64 w v l) (i : Int) :
    Calls Tryd.prog 112 #[v, .int .i64 i] w fun e w' => e = .returned (.int .u64 (if i < 0 then 0 else (dg l i.toNat : Nat))) ∧ w' = w := by
  obtain ⟨ao, cap, rfl, hc, hm, hr⟩ := hr
  unfold maxLen at hm
  by_cases h0 : i < 0
  · rw [if_pos h0]
    clear hr
    go_enter Tryd.func112, Tryd.ntmps112
    go_wp2
    go_ret
    exact ⟨rfl, rfl⟩
  · rw [if_neg h0]
    obtain ⟨k, rfl⟩ := Int.eq_ofNat_of_zero_le (Int.not_lt.1 h0)
    rw [Int.toNat_natCast]
    by_cases h1 : k < l.length
    · rcases hr with hr | ⟨b, off, rfl, hlt, hcell⟩
      · omega
      · have hck := hcell k h1
        unfold mk64 at hck
        clear hcell hc
        go_enter Tryd.func112, Tryd.ntmps112
        go_wp2
        go_ret
        exact ⟨rfl, rfl⟩
    · have HO : Hid (dg l k = 0) := getD_past l k (by omega)
      clear hr
      go_enter Tryd.func112, Tryd.ntmps112
      go_wp2
      go_ret
      exact ⟨ret_int (by rw [HO.out]; rfl), rfl⟩

end Go.Proofs.YtidfegilddlglaaDoor

/- Contracts: limb.Less, ref01.Same. -/
set_option linter.unusedVariables false
set_option linter.unusedSimpArgs false
set_option maxRecDepth 8000
namespace Go.Proofs.YtidfegilddlglaaDoor
open Go.RowKit Plain

/-- The digit of 2^(64 k). -/
def dgl (n k : Nat) : Nat := n / 18446744073709551616 ^ k % 18446744073709551616
theorem dgl_lt (n k : Nat) : dgl n k < 18446744073709551616 := Nat.mod_lt _ (by decide)

theorem at_num (n k : Nat) (l : List Nat) (v : Value) (w : World) (i : Int) (hr : Rd mk64 w v l) (hd : Dig 18446744073709551616 l n) (hi : i = (k : Int)) :
    Calls Tryd.prog 112 #[v, .int .i64 i] w fun e w' => e = .returned (.int .u64 (dgl n k : Nat)) ∧ w' = w := by
  subst hi
  refine (at_any l v w hr k).mono ?_
  rintro e w' ⟨rfl, rfl⟩
  refine ⟨ret_int ?_, rfl⟩
  rw [if_neg (by omega), Int.toNat_natCast, hd.2]
  rfl

theorem less_eq {n m β : Nat} (h : n / β ^ 0 = m / β ^ 0) : decide (n < m) = false := by
  simp at h; simp [h]
theorem less_ne {n m β j : Nat} (h : n / β ^ (j + 1) = m / β ^ (j + 1)) (hd : n / β ^ j % β ≠ m / β ^ j % β) : decide (n < m) = decide (n / β ^ j % β < m / β ^ j % β) := by
  rcases Nat.lt_or_ge (n / β ^ j % β) (m / β ^ j % β) with h1 | h1
  · have := cmp_lt h h1
    unfold cmpN at this
    by_cases h2 : n < m
    · simp [h1, h2]
    · rw [if_neg h2] at this; split at this <;> omega
  · have := cmp_gt h (show m / β ^ j % β < n / β ^ j % β by omega)
    unfold cmpN at this
    by_cases h2 : n < m
    · rw [if_pos h2] at this; omega
    · simp [h2]; omega

set_option maxHeartbeats 400000 in
theorem less_any (n m : Nat) (la lb : List Nat) (va vb : Value) (w : World) (ha : Rd mk64 w va la) (hda : Dig 18446744073709551616 la n) (hb : Rd mk64 w vb lb) (hdb : Dig 18446744073709551616 lb m) :
    Calls Tryd.prog 120 #[va, vb] w fun e w' => e = .returned (.bool (decide (n < m))) ∧ w' = w := by
  have ha' := ha
  have hb' := hb
  obtain ⟨ao, ca, rfl, hca, hma, -⟩ := ha'
  obtain ⟨bo, cb, rfl, hcb, hmb, -⟩ := hb'
  unfold maxLen at hma hmb
  have HA := hide hda
  have HB := hide hdb
  have RA := hide ha
  have RB := hide hb
  clear ha hb hda hdb
  go_enter Tryd.func120, Tryd.ntmps120
  go_wp2
  all_goals
    go_loop [5] (fun i => ∃ k : Nat, k ≤ la.length + lb.length ∧ k ≤ 9223372036854775807 ∧ i = .int .i64 ((k : Int) - 1) ∧ n / 18446744073709551616 ^ k = m / 18446744073709551616 ^ k) (fun i => (intOf i + 1).toNat)
    case atStart => first
      | exact ⟨la.length, by omega, by omega, rfl, by rw [Plain.div_zero_of (by decide) HA.out.1 (Nat.le_refl _), Plain.div_zero_of (by decide) HB.out.1 (by omega)]⟩
      | exact ⟨lb.length, by omega, by omega, rfl, by rw [Plain.div_zero_of (by decide) HA.out.1 (by omega), Plain.div_zero_of (by decide) HB.out.1 (Nat.le_refl _)]⟩
    case round =>
      obtain ⟨k, hk, hk2, rfl, hz⟩ := hrel
      have HZ := hide hz
      clear hz
      by_cases h0 : k = 0
      · subst h0
        go_wp2
        go_ret
        exact ⟨ret_bool (less_eq HZ.out).symm, rfl⟩
      · obtain ⟨j, rfl⟩ : ∃ j, k = j + 1 := ⟨k - 1, by omega⟩
        by_cases hne : dgl n j = dgl m j
        · have hq : ((dgl n j : Int) != (dgl m j : Int)) = false := by simp [hne]
          have HNE := hide hne
          clear hne
          go_wp2_with (first
            | (go_at_call_of 112 (Value.slice ao la.length ca); refine (at_num n j la _ _ _ RA.out HA.out (by omega)).mono ?_; rintro e w' ⟨rfl, hw⟩; subst w')
            | (go_at_call_of 112 (Value.slice bo lb.length cb); refine (at_num m j lb _ _ _ RB.out HB.out (by omega)).mono ?_; rintro e w' ⟨rfl, hw⟩; subst w'))
          go_round
          case rel => exact ⟨j, by omega, by omega, by go_num, Plain.cmp_step HZ.out HNE.out⟩
          case measure => simp [intOf]
        · have hq : ((dgl n j : Int) != (dgl m j : Int)) = true := by simp; omega
          have HNE := hide hne
          clear hne
          go_wp2_with (first
            | (go_at_call_of 112 (Value.slice ao la.length ca); refine (at_num n j la _ _ _ RA.out HA.out (by omega)).mono ?_; rintro e w' ⟨rfl, hw⟩; subst w')
            | (go_at_call_of 112 (Value.slice bo lb.length cb); refine (at_num m j lb _ _ _ RB.out HB.out (by omega)).mono ?_; rintro e w' ⟨rfl, hw⟩; subst w'))
          go_ret
          exact ⟨ret_bool (by rw [less_ne HZ.out HNE.out]; simp [dgl]; exact decide_eq_decide.2 Iff.rfl), rfl⟩

end Go.Proofs.YtidfegilddlglaaDoor

