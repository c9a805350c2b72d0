/- Contracts and laws: ClsB, ClsC, ClsD, ClsE. -/
import Derived.Test.YtpcjdllijkjdkaaGreatDoorPartAQ
import Derived.Laws.BitsLemmas
/- Contracts: class.taken with its numbers; class.asked for ints and bools. -/
set_option linter.unusedVariables false
set_option linter.unusedSimpArgs false
set_option maxRecDepth 8000
namespace Go.Proofs.YtpcjdllijkjdkaaGreatDoor
open Go.RowKit Plain

theorem subQ_le {a v : Nat} (ha : a < QQ) (h : v ≤ a) : subQ a v = a - v := by
  have h1 : subQ a v + v % QQ = a % QQ + QQ * bor 18446744073709551616 a v 8 := subW_eq (by decide) 8 a v
  have h2 := subQ_lt a v
  rw [Nat.mod_eq_of_lt ha, Nat.mod_eq_of_lt (Nat.lt_of_le_of_lt h ha)] at h1
  rcases Nat.eq_zero_or_pos (bor 18446744073709551616 a v 8) with h3 | h3
  · rw [h3, Nat.mul_zero] at h1
    omega
  · have h4 : QQ * 1 ≤ QQ * bor 18446744073709551616 a v 8 := Nat.mul_le_mul_left _ h3
    omega
end Go.Proofs.YtpcjdllijkjdkaaGreatDoor

/- Contracts: class.Of. -/
set_option linter.unusedVariables false
set_option linter.unusedSimpArgs false
set_option maxRecDepth 8000
namespace Go.Proofs.YtpcjdllijkjdkaaGreatDoor
open Go.RowKit Plain

end Go.Proofs.YtpcjdllijkjdkaaGreatDoor

/- Contracts: class.Of with its numbers, Neg, Field; law06.awake. -/
set_option linter.unusedVariables false
set_option linter.unusedSimpArgs false
set_option maxRecDepth 8000
namespace Go.Proofs.YtpcjdllijkjdkaaGreatDoor
open Go.RowKit Plain

/-- The class of a field and a fraction. -/
def clsP (P F fd r : Nat) : Nat := if fd = 2 ^ F - 1 then (if r = 0 then 3 else if r / 2 ^ (P - 2) % 2 = 1 then 2 else 1) else if fd = 0 then (if r = 0 then 6 else 5) else 4
/-- The class of a word's number. -/
def clsN (B P F a : Nat) : Nat := if a < 2 ^ B then clsP P F (a / 2 ^ (P - 1) % 2 ^ F) (a % 2 ^ (P - 1)) else 0
def fldN (B P F a : Nat) : Nat := if a < 2 ^ B then a / 2 ^ (P - 1) % 2 ^ F else 0
def negN (B a : Nat) : Bool := decide (a < 2 ^ B) && (a / 2 ^ (B - 1) % 2 == 1)

end Go.Proofs.YtpcjdllijkjdkaaGreatDoor

/- Contracts: radicandref06.Field, Neg. -/
set_option linter.unusedVariables false
set_option linter.unusedSimpArgs false
set_option maxRecDepth 8000
namespace Go.Proofs.YtpcjdllijkjdkaaGreatDoor
open Go.RowKit Plain

theorem fld_step (a e c : Nat) : a / 2 ^ e % 2 ^ (c + 1) = 2 * (a / 2 ^ (e + 1) % 2 ^ c) + a / 2 ^ e % 2 := by
  rw [Nat.pow_succ', Nat.mod_mul, Nat.pow_succ, ← Nat.div_div_eq_div_mul]
  omega

set_option maxHeartbeats 1000000 in
theorem refFld_walk (f : Int) (B P F hi lo : Nat) (hB : B ≤ 128) (hP : 2 ≤ P) (hPF : B = P + F) (hF : F ≤ 15) (hh : hi < 18446744073709551616) (hl : lo < 18446744073709551616)
    (HN : Hid (∀ w, Calls Tryz.prog 33 #[.int .i64 f] w fun e w' => e = .returned (.int .i64 (B : Nat)) ∧ w' = w))
    (HP : Hid (∀ w, Calls Tryz.prog 8 #[.int .i64 f] w fun e w' => e = .returned (.int .i64 (P : Nat)) ∧ w' = w)) (w : World) :
    Calls Tryz.prog 92 #[.int .i64 f, .agg #[.int .u64 (hi : Nat), .int .u64 (lo : Nat)]] w fun e w' => e = .returned (.int .i64 (((lo + 18446744073709551616 * hi) / 2 ^ (P - 1) % 2 ^ F : Nat) : Int)) ∧ Below w.heap.size w w' := by
  have HBT := hide (fun n hn w => refBit5_any hi lo n hh hl hn (n : Int) rfl w)
  have HST := hide (fitSt_start hi lo w)
  have hB' : (B : Int) ≤ 128 := by omega
  have hB2 : (2 : Int) ≤ (B : Int) := by omega
  have hP' : (P : Int) ≤ 128 := by omega
  have hP2 : (2 : Int) ≤ (P : Int) := by omega
  clear hh hl
  generalize (lo + 18446744073709551616 * hi) = a at *
  go_enter Tryz.func92, Tryz.ntmps92
  go_wp2_with fail
  refine (HN.out _).mono ?_
  rintro e w1 ⟨rfl, hw⟩
  subst w1
  go_wp2_with fail
  go_loopw [5, 6] (fun v i wr => ∃ (c N : Nat) (z : Int), c ≤ F ∧ N < 65536 ∧ v = .int .i64 (N : Nat) ∧ i = .int .i64 z ∧ Hid (N = a / 2 ^ (B - 1 - c) % 2 ^ c ∧ z = (B : Int) - 2 - c) ∧ Hid (FitSt hi lo w wr)) (fun v i _ => (intOf i + 1).toNat)
  case atStart => exact ⟨0, 0, _, Nat.zero_le _, by decide, rfl, rfl, ⟨by rw [Nat.pow_zero, Nat.mod_one], by simp; omega⟩, HST⟩
  case round =>
    clear HST HN
    obtain ⟨c, N, z, hc, hN, rfl, rfl, hz, hst⟩ := hrel
    have hz2 := hz.out.2
    by_cases hlt : c < F
    · have hj : (P : Int) - 1 ≤ z := by omega
      have c0 := hst.out.h
      have c1 := hst.out.l
      have c2 := hst.out.lt
      have hN' : (N : Int) < 65536 := by omega
      obtain ⟨n, hn⟩ : ∃ n : Nat, z = (n : Int) := ⟨z.toNat, by omega⟩
      subst hn
      have hnb : n < 128 := by omega
      have hstep := fld_step a n c
      rw [show n + 1 = B - 1 - c by omega, ← hz.out.1] at hstep
      have HE := hide (show n = B - 1 - (c + 1) by omega)
      have hlow : a / 2 ^ n % 2 < 2 := Nat.mod_lt _ (by decide)
      have hN2 : a / 2 ^ n % 2 ^ (c + 1) < 65536 := by
        have h1 : a / 2 ^ n % 2 ^ (c + 1) < 2 ^ (c + 1) := Nat.mod_lt _ (Nat.two_pow_pos _)
        have h2 : 2 ^ (c + 1) ≤ 2 ^ 15 := Nat.pow_le_pow_right (by decide) (by omega)
        omega
      have HZ2 := hide (show (n : Int) - 1 = (B : Int) - 2 - ((c + 1 : Nat) : Int) by omega)
      have HN2 := hide hN2
      have HSTEP := hide hstep
      have hn1 : (n : Int) < 128 := by omega
      have hn0 : (1 : Int) ≤ (n : Int) := by omega
      clear hz hz2 hstep hN2
      go_wp2_with fail
      refine (HP.out _).mono ?_
      rintro e w1 ⟨rfl, hw⟩
      subst w1
      go_wp2_with fail
      refine (HBT.out n hnb _).mono ?_
      rintro e w1 ⟨rfl, hb1⟩
      have HS1 := hide (hst.out.below hb1)
      clear hb1 c0 c1 c2 hst
      by_cases hbit : a / 2 ^ n % 2 = 1
      · have hbb : (a / 2 ^ n % 2 == 1) = true := by rw [beq_iff_eq]; exact hbit
        rw [hbb]
        have HR : Hid (2 * N + 1 = a / 2 ^ (B - 1 - (c + 1)) % 2 ^ (c + 1)) := by unfold Hid; rw [← HE.out, HSTEP.out, hbit]
        have HR2 : Hid (2 * N + 1 < 65536) := by unfold Hid; have h1 := HN2.out; rw [HSTEP.out, hbit] at h1; exact h1
        clear hbit hbb HSTEP HN2 hlow
        go_wp2
        go_roundw
        case rel => exact ⟨c + 1, 2 * N + 1, _, by omega, HR2.out, rfl, rfl, ⟨HR.out, HZ2.out⟩, HS1⟩
        case measure =>
          show ((n : Int) - 1 + 1).toNat < ((n : Int) + 1).toNat
          omega
      · have hbb : (a / 2 ^ n % 2 == 1) = false := by rw [beq_eq_false_iff_ne]; exact hbit
        have hb0 : a / 2 ^ n % 2 = 0 := by
          generalize a / 2 ^ n % 2 = y at hbit hlow ⊢
          omega
        rw [hbb]
        have HR : Hid (2 * N = a / 2 ^ (B - 1 - (c + 1)) % 2 ^ (c + 1)) := by unfold Hid; rw [← HE.out, HSTEP.out, hb0, Nat.add_zero]
        have HR2 : Hid (2 * N < 65536) := by unfold Hid; have h1 := HN2.out; rw [HSTEP.out, hb0] at h1; exact h1
        clear hbit hbb HSTEP HN2 hlow hb0
        go_wp2
        go_roundw
        case rel => exact ⟨c + 1, 2 * N, _, by omega, HR2.out, rfl, rfl, ⟨HR.out, HZ2.out⟩, HS1⟩
        case measure =>
          show ((n : Int) - 1 + 1).toNat < ((n : Int) + 1).toNat
          omega
    · have hj : ¬ (P : Int) - 1 ≤ z := by omega
      have HR : Hid ((N : Int) = ((a / 2 ^ (P - 1) % 2 ^ F : Nat) : Int)) := by
        unfold Hid
        rw [hz.out.1, show B - 1 - c = P - 1 by omega, show c = F by omega]
      have hz1 : (0 : Int) ≤ z := by omega
      clear hz hz2
      go_wp2_with fail
      refine (HP.out _).mono ?_
      rintro e w1 ⟨rfl, hw⟩
      subst w1
      go_wp2
      go_ret
      exact ⟨ret_int HR.out, hst.out.bel⟩
theorem refFld_1 (hi lo : Nat) (hh : hi < 18446744073709551616) (hl : lo < 18446744073709551616) (w : World) : Calls Tryz.prog 92 #[.int .i64 1, .agg #[.int .u64 (hi : Nat), .int .u64 (lo : Nat)]] w fun e w' => e = .returned (.int .i64 (((lo + 18446744073709551616 * hi) / 2 ^ 10 % 2 ^ 5 : Nat) : Int)) ∧ Below w.heap.size w w' :=
  refFld_walk 1 16 11 5 hi lo (by decide) (by decide) rfl (by decide) hh hl (fun w => bits_1 w) (fun w => prec_1 w) w
theorem refFld_2 (hi lo : Nat) (hh : hi < 18446744073709551616) (hl : lo < 18446744073709551616) (w : World) : Calls Tryz.prog 92 #[.int .i64 2, .agg #[.int .u64 (hi : Nat), .int .u64 (lo : Nat)]] w fun e w' => e = .returned (.int .i64 (((lo + 18446744073709551616 * hi) / 2 ^ 23 % 2 ^ 8 : Nat) : Int)) ∧ Below w.heap.size w w' :=
  refFld_walk 2 32 24 8 hi lo (by decide) (by decide) rfl (by decide) hh hl (fun w => bits_2 w) (fun w => prec_2 w) w
theorem refFld_3 (hi lo : Nat) (hh : hi < 18446744073709551616) (hl : lo < 18446744073709551616) (w : World) : Calls Tryz.prog 92 #[.int .i64 3, .agg #[.int .u64 (hi : Nat), .int .u64 (lo : Nat)]] w fun e w' => e = .returned (.int .i64 (((lo + 18446744073709551616 * hi) / 2 ^ 52 % 2 ^ 11 : Nat) : Int)) ∧ Below w.heap.size w w' :=
  refFld_walk 3 64 53 11 hi lo (by decide) (by decide) rfl (by decide) hh hl (fun w => bits_3 w) (fun w => prec_3 w) w
theorem refFld_4 (hi lo : Nat) (hh : hi < 18446744073709551616) (hl : lo < 18446744073709551616) (w : World) : Calls Tryz.prog 92 #[.int .i64 4, .agg #[.int .u64 (hi : Nat), .int .u64 (lo : Nat)]] w fun e w' => e = .returned (.int .i64 (((lo + 18446744073709551616 * hi) / 2 ^ 112 % 2 ^ 15 : Nat) : Int)) ∧ Below w.heap.size w w' :=
  refFld_walk 4 128 113 15 hi lo (by decide) (by decide) rfl (by decide) hh hl (fun w => bits_4 w) (fun w => prec_4 w) w

end Go.Proofs.YtpcjdllijkjdkaaGreatDoor

