/- UnpackCmp: for any two numbers the law returns true. Conditions: those of the tied card (the table of formats is laid as the program lays it). -/
import Derived.Test.YtidfegilddlglaaDoorXUnI
import Derived.Test.YtidfegilddlglaaDoorRows
import Derived.Test.YtidfegilddlglaaDoorTie
import Derived.Test.YtidfegilddlglaaDoorCards
import Derived.LaidMore
import Derived.Stop.Joined
import Derived.SevenTiedAt
import Derived.Test.YtidfegilddlglaaDoorXFmtJ
import Derived.WalkKit
import Derived.ProofKit
import Derived.OpenShut
import Derived.ShutString
import Derived.ChangeOld
import Derived.Below
/- The walk of UnpackCmp. -/
set_option linter.unusedVariables false
set_option linter.unusedSimpArgs false
set_option maxRecDepth 8000
namespace Go.Proofs.YtidfegilddlglaaDoor
open Go.RowKit Plain

structure UcS (n1 n2 : Bool) (ea eb : Int) (a b : Nat) (w W : World) : Prop where
  s : GrSt n1 n2 ea eb a b w W
  g : FmtG W
theorem UcS.below {n1 n2 : Bool} {ea eb : Int} {a b : Nat} {w W W' : World} (h : UcS n1 n2 ea eb a b w W) (hb : Below W.heap.size W W') : UcS n1 n2 ea eb a b w W' := ⟨h.s.below hb, h.g.below hb⟩

/-- The trailing noughts of a number. -/
noncomputable def tz (s : Nat) : Nat := if h : s ≠ 0 then Classical.choose (odd_part s h) else 0
theorem tz_spec {s : Nat} (h : s ≠ 0) : s / 2 ^ tz s * 2 ^ tz s = s ∧ s / 2 ^ tz s % 2 = 1 ∧ ∀ n, n < tz s → s / 2 ^ n % 2 = 0 := by
  unfold tz
  rw [dif_pos h]
  exact Classical.choose_spec (odd_part s h)
theorem odd_uniq {q1 q2 i j : Nat} (h1 : q1 % 2 = 1) (h2 : q2 % 2 = 1) (h : q1 * 2 ^ i = q2 * 2 ^ j) : i = j ∧ q1 = q2 := by
  have key : ∀ {q1 q2 i j : Nat}, q1 % 2 = 1 → q1 * 2 ^ i = q2 * 2 ^ j → i ≤ j → i = j ∧ q1 = q2 := by
    intro q1 q2 i j h1 h hij
    obtain ⟨k, rfl⟩ : ∃ k, j = i + k := ⟨j - i, by omega⟩
    rw [Nat.pow_add, Nat.mul_comm (2 ^ i), ← Nat.mul_assoc] at h
    have e := Nat.eq_of_mul_eq_mul_right (Nat.two_pow_pos i) h
    rcases k with _ | k
    · exact ⟨rfl, by simpa using e⟩
    · rw [Nat.pow_succ, ← Nat.mul_assoc] at e
      omega
  rcases Nat.le_total i j with hij | hij
  · exact key h1 h hij
  · have := key h2 h.symm hij
    exact ⟨this.1.symm, this.2.symm⟩
/-- A number's exponent, made short. -/
noncomputable def shE (s : Nat) (z : Int) : Int := if s = 0 then 0 else z + (tz s : Int)
theorem short_any (neg : Bool) (z : Int) (s : Nat) (hs : s < QQ) (hr : rgt z = true) (w : World) : Calls Tryd.prog 47 #[.agg #[.bool (neg), .int .i64 (z), .int .u64 (dgl (s) 0 : Nat), .int .u64 (dgl (s) 1 : Nat), .int .u64 (dgl (s) 2 : Nat), .int .u64 (dgl (s) 3 : Nat), .int .u64 (dgl (s) 4 : Nat), .int .u64 (dgl (s) 5 : Nat), .int .u64 (dgl (s) 6 : Nat), .int .u64 (dgl (s) 7 : Nat)]] w fun e w' => e = .returned (.agg #[.bool (neg), .int .i64 (shE s z), .int .u64 (dgl (s / 2 ^ tz s) 0 : Nat), .int .u64 (dgl (s / 2 ^ tz s) 1 : Nat), .int .u64 (dgl (s / 2 ^ tz s) 2 : Nat), .int .u64 (dgl (s / 2 ^ tz s) 3 : Nat), .int .u64 (dgl (s / 2 ^ tz s) 4 : Nat), .int .u64 (dgl (s / 2 ^ tz s) 5 : Nat), .int .u64 (dgl (s / 2 ^ tz s) 6 : Nat), .int .u64 (dgl (s / 2 ^ tz s) 7 : Nat)]) ∧ Below w.heap.size w w' := by
  by_cases h0 : s = 0
  · subst h0
    have h := short_Z neg z 0 hr (rgt_bd hr) w
    rw [zeroN] at h
    rw [show shE 0 z = 0 from if_pos rfl, Nat.zero_div]
    exact h
  · obtain ⟨h1, h2, h3⟩ := tz_spec h0
    rw [show shE s z = z + (tz s : Int) from if_neg h0]
    exact short_Y neg z s hr (rgt_bd hr) hs h0 (tz s) h1 h2 h3 w
theorem same_vl {a b : Nat} {ea eb : Int} (ha : a ≠ 0) (hb : b ≠ 0) : (ea + (tz a : Int) = eb + (tz b : Int) ∧ a / 2 ^ tz a = b / 2 ^ tz b) ↔ vl a ea (min ea eb) = vl b eb (min ea eb) := by
  obtain ⟨a1, a2, -⟩ := tz_spec ha
  obtain ⟨b1, b2, -⟩ := tz_spec hb
  have e1 : vl a ea (min ea eb) = a / 2 ^ tz a * 2 ^ (tz a + (ea - min ea eb).toNat) := by
    unfold vl
    rw [Nat.pow_add, ← Nat.mul_assoc, a1]
  have e2 : vl b eb (min ea eb) = b / 2 ^ tz b * 2 ^ (tz b + (eb - min ea eb).toNat) := by
    unfold vl
    rw [Nat.pow_add, ← Nat.mul_assoc, b1]
  rw [e1, e2]
  constructor
  · rintro ⟨h1, h2⟩
    rw [h2, show tz a + (ea - min ea eb).toNat = tz b + (eb - min ea eb).toNat by omega]
  · intro h
    obtain ⟨h1, h2⟩ := odd_uniq a2 b2 h
    exact ⟨by omega, h2⟩
theorem cmpV_eq (a b : Nat) (ea eb : Int) : cmpV a ea b eb = 0 ↔ vl a ea (min ea eb) = vl b eb (min ea eb) := cmpN_zero _ _
theorem cmpV_neg (a b : Nat) (ea eb : Int) : cmpV b eb a ea = - cmpV a ea b eb := by
  unfold cmpV
  rw [show min eb ea = min ea eb by omega]
  unfold cmpN
  repeat' split
  all_goals omega
theorem cZ_neg (n1 n2 : Bool) (a b : Nat) (ea eb : Int) : cZ n2 b eb n1 a ea = - cZ n1 a ea n2 b eb := by
  unfold cZ
  by_cases h : sgnZ n1 a = sgnZ n2 b
  · rw [if_pos h, if_pos h.symm, cmpV_neg, h, Int.mul_neg]
  · rw [if_neg h, if_neg (fun e => h e.symm)]
    unfold cmpI
    repeat' split
    all_goals omega
theorem cZ_self (n : Bool) (a : Nat) (e : Int) : cZ n a e n a e = 0 := by
  have := cZ_neg n n a a e e
  omega
theorem cZ_bd (n1 n2 : Bool) (a b : Nat) (ea eb : Int) : -1 ≤ cZ n1 a ea n2 b eb ∧ cZ n1 a ea n2 b eb ≤ 1 := by
  have hb := cmpN_bd (vl a ea (min ea eb)) (vl b eb (min ea eb))
  have h1 := sgn_cases n1 a
  unfold cZ
  split
  · unfold cmpV
    generalize cmpN (vl a ea (min ea eb)) (vl b eb (min ea eb)) = g at *
    rcases h1 with ⟨_, h1⟩ | ⟨_, _, h1⟩ | ⟨_, _, h1⟩
    · rw [h1]; omega
    · rw [h1]; omega
    · rw [h1]; omega
  · unfold cmpI
    repeat' split
    all_goals omega
theorem same_cZ (n1 n2 : Bool) (a b : Nat) (ea eb : Int) : (n1 == n2 && (shE a ea == shE b eb && decide (a / 2 ^ tz a = b / 2 ^ tz b))) = ((cZ n1 a ea n2 b eb == 0) && (n1 == n2)) := by
  by_cases hn : n1 = n2
  · subst hn
    rw [show (n1 == n1) = true by simp, Bool.true_and, Bool.and_true, Bool.eq_iff_iff, Bool.and_eq_true, beq_iff_eq, beq_iff_eq, decide_eq_true_iff]
    by_cases ha : a = 0
    · by_cases hb : b = 0
      · subst ha; subst hb
        rw [show cZ n1 0 ea n1 0 eb = 0 by unfold cZ; rw [if_pos rfl, cmpV_zero, Int.mul_zero]]
        simp [shE]
      · obtain ⟨-, b2, -⟩ := tz_spec hb
        subst ha
        have h1 := sgn_cases n1 b
        have hc : cZ n1 0 ea n1 b eb ≠ 0 := by
          unfold cZ
          rw [show sgnZ n1 0 = 0 from rfl, if_neg (by omega)]
          unfold cmpI
          repeat' split
          all_goals omega
        rw [Nat.zero_div]
        constructor
        · intro h; omega
        · intro h; exact absurd h hc
    · by_cases hb : b = 0
      · obtain ⟨-, a2, -⟩ := tz_spec ha
        subst hb
        have h1 := sgn_cases n1 a
        have hc : cZ n1 a ea n1 0 eb ≠ 0 := by
          unfold cZ
          rw [show sgnZ n1 0 = 0 from rfl, if_neg (by omega)]
          unfold cmpI
          repeat' split
          all_goals omega
        rw [Nat.zero_div]
        constructor
        · intro h; omega
        · intro h; exact absurd h hc
      · rw [show shE a ea = ea + (tz a : Int) from if_neg ha, show shE b eb = eb + (tz b : Int) from if_neg hb, same_vl ha hb, ← cmpV_eq]
        have h1 := sgn_cases n1 a
        have h2 := sgn_cases n1 b
        have hs : sgnZ n1 a = sgnZ n1 b := by cases n1 <;> simp_all
        unfold cZ
        rw [if_pos hs]
        generalize cmpV a ea b eb = g
        rcases h1 with ⟨h0, _⟩ | ⟨_, _, h1⟩ | ⟨_, _, h1⟩
        · exact absurd h0 ha
        · rw [h1]; omega
        · rw [h1]; omega
  · rw [show (n1 == n2) = false by simpa using hn, Bool.false_and, Bool.and_false]
theorem usame_any (n1 n2 : Bool) (ea eb : Int) (a b : Nat) (ha : a < QQ) (hb : b < QQ) (hra : rgt ea = true) (hrb : rgt eb = true) (w : World) : Calls Tryd.prog 45 #[.agg #[.bool (n1), .int .i64 (ea), .int .u64 (dgl (a) 0 : Nat), .int .u64 (dgl (a) 1 : Nat), .int .u64 (dgl (a) 2 : Nat), .int .u64 (dgl (a) 3 : Nat), .int .u64 (dgl (a) 4 : Nat), .int .u64 (dgl (a) 5 : Nat), .int .u64 (dgl (a) 6 : Nat), .int .u64 (dgl (a) 7 : Nat)], .agg #[.bool (n2), .int .i64 (eb), .int .u64 (dgl (b) 0 : Nat), .int .u64 (dgl (b) 1 : Nat), .int .u64 (dgl (b) 2 : Nat), .int .u64 (dgl (b) 3 : Nat), .int .u64 (dgl (b) 4 : Nat), .int .u64 (dgl (b) 5 : Nat), .int .u64 (dgl (b) 6 : Nat), .int .u64 (dgl (b) 7 : Nat)]] w fun e w' => e = .returned (.bool ((cZ n1 a ea n2 b eb == 0) && (n1 == n2))) ∧ Below w.heap.size w w' := by
  have R1 := fun w => uRight_any n1 ea a w
  have R2 := fun w => uRight_any n2 eb b w
  rw [hra] at R1
  rw [hrb] at R2
  have qa : a / 2 ^ tz a < QQ := Nat.lt_of_le_of_lt (Nat.div_le_self _ _) ha
  have qb : b / 2 ^ tz b < QQ := Nat.lt_of_le_of_lt (Nat.div_le_self _ _) hb
  exact same_Y n1 n2 ea eb a b (shE a ea) (shE b eb) (a / 2 ^ tz a) (b / 2 ^ tz b) _ R1 R2 (fun w => short_any n1 ea a ha hra w) (fun w => short_any n2 eb b hb hrb w) (fun w => by
    have h := num_eq n1 n2 (shE a ea) (shE b eb) qa qb w
    rw [same_cZ] at h
    exact h) w
theorem usame_no (n1 n2 : Bool) (ea eb : Int) (a b : Nat) (h : (rgt ea && rgt eb) = false) (w : World) : Calls Tryd.prog 45 #[.agg #[.bool (n1), .int .i64 (ea), .int .u64 (dgl (a) 0 : Nat), .int .u64 (dgl (a) 1 : Nat), .int .u64 (dgl (a) 2 : Nat), .int .u64 (dgl (a) 3 : Nat), .int .u64 (dgl (a) 4 : Nat), .int .u64 (dgl (a) 5 : Nat), .int .u64 (dgl (a) 6 : Nat), .int .u64 (dgl (a) 7 : Nat)], .agg #[.bool (n2), .int .i64 (eb), .int .u64 (dgl (b) 0 : Nat), .int .u64 (dgl (b) 1 : Nat), .int .u64 (dgl (b) 2 : Nat), .int .u64 (dgl (b) 3 : Nat), .int .u64 (dgl (b) 4 : Nat), .int .u64 (dgl (b) 5 : Nat), .int .u64 (dgl (b) 6 : Nat), .int .u64 (dgl (b) 7 : Nat)]] w fun e w' => e = .returned (.bool false) ∧ Below w.heap.size w w' := by
  have R1 := fun w => uRight_any n1 ea a w
  have R2 := fun w => uRight_any n2 eb b w
  by_cases hr : rgt ea = true
  · rw [hr, Bool.true_and] at h
    rw [hr] at R1
    rw [h] at R2
    exact same_N2 n1 n2 ea eb a b 0 0 0 0 false R1 R2 w
  · have hr2 : rgt ea = false := by simpa using hr
    rw [hr2] at R1
    exact same_N1 n1 n2 ea eb a b 0 0 0 0 false R1 w

set_option maxHeartbeats 4000000 in
theorem unpackCmp_N1 (n1 n2 : Bool) (ea eb : Int) (a b : Nat) (c : Int)
    (HC1 : Hid (∀ w, Calls Tryd.prog 44 #[.agg #[.bool (n1), .int .i64 (ea), .int .u64 (dgl (a) 0 : Nat), .int .u64 (dgl (a) 1 : Nat), .int .u64 (dgl (a) 2 : Nat), .int .u64 (dgl (a) 3 : Nat), .int .u64 (dgl (a) 4 : Nat), .int .u64 (dgl (a) 5 : Nat), .int .u64 (dgl (a) 6 : Nat), .int .u64 (dgl (a) 7 : Nat)], .agg #[.bool (n2), .int .i64 (eb), .int .u64 (dgl (b) 0 : Nat), .int .u64 (dgl (b) 1 : Nat), .int .u64 (dgl (b) 2 : Nat), .int .u64 (dgl (b) 3 : Nat), .int .u64 (dgl (b) 4 : Nat), .int .u64 (dgl (b) 5 : Nat), .int .u64 (dgl (b) 6 : Nat), .int .u64 (dgl (b) 7 : Nat)]] w fun e w' => e = .returned (.int .i64 0) ∧ Below w.heap.size w w'))
    (HR1 : Hid (∀ w, Calls Tryd.prog 41 #[.agg #[.bool (n1), .int .i64 (ea), .int .u64 (dgl (a) 0 : Nat), .int .u64 (dgl (a) 1 : Nat), .int .u64 (dgl (a) 2 : Nat), .int .u64 (dgl (a) 3 : Nat), .int .u64 (dgl (a) 4 : Nat), .int .u64 (dgl (a) 5 : Nat), .int .u64 (dgl (a) 6 : Nat), .int .u64 (dgl (a) 7 : Nat)]] w fun e w' => e = .returned (.bool false) ∧ Below w.heap.size w w'))
    (HSM : Hid (∀ w, Calls Tryd.prog 45 #[.agg #[.bool (n1), .int .i64 (ea), .int .u64 (dgl (a) 0 : Nat), .int .u64 (dgl (a) 1 : Nat), .int .u64 (dgl (a) 2 : Nat), .int .u64 (dgl (a) 3 : Nat), .int .u64 (dgl (a) 4 : Nat), .int .u64 (dgl (a) 5 : Nat), .int .u64 (dgl (a) 6 : Nat), .int .u64 (dgl (a) 7 : Nat)], .agg #[.bool (n2), .int .i64 (eb), .int .u64 (dgl (b) 0 : Nat), .int .u64 (dgl (b) 1 : Nat), .int .u64 (dgl (b) 2 : Nat), .int .u64 (dgl (b) 3 : Nat), .int .u64 (dgl (b) 4 : Nat), .int .u64 (dgl (b) 5 : Nat), .int .u64 (dgl (b) 6 : Nat), .int .u64 (dgl (b) 7 : Nat)]] w fun e w' => e = .returned (.bool false) ∧ Below w.heap.size w w')) (w : World) (hg : FmtG w) :
    Calls Tryd.prog 9 #[.agg #[.bool (n1), .int .i64 (ea), .int .u64 (dgl (a) 0 : Nat), .int .u64 (dgl (a) 1 : Nat), .int .u64 (dgl (a) 2 : Nat), .int .u64 (dgl (a) 3 : Nat), .int .u64 (dgl (a) 4 : Nat), .int .u64 (dgl (a) 5 : Nat), .int .u64 (dgl (a) 6 : Nat), .int .u64 (dgl (a) 7 : Nat)], .agg #[.bool (n2), .int .i64 (eb), .int .u64 (dgl (b) 0 : Nat), .int .u64 (dgl (b) 1 : Nat), .int .u64 (dgl (b) 2 : Nat), .int .u64 (dgl (b) 3 : Nat), .int .u64 (dgl (b) 4 : Nat), .int .u64 (dgl (b) 5 : Nat), .int .u64 (dgl (b) 6 : Nat), .int .u64 (dgl (b) 7 : Nat)]] w fun e w' => e = .returned (.bool true) ∧ Below w.heap.size w w' := by
  have HS := hide (show UcS n1 n2 ea eb a b w _ from ⟨grSt_start n1 n2 ea eb a b w, (hg.below (below_allocs _ _)).below (below_allocs _ _)⟩)
  clear hg
  go_enter Tryd.func9, Tryd.ntmps9
  go_upto_region 1 with fail
  refine wp_gen (fun W => UcS n1 n2 ea eb a b w W) HS.out ?_
  clear HS
  rintro W1 g1
  have HS := hide g1
  clear g1
  have an := HS.out.s.a.n
  have ae := HS.out.s.a.e
  have a0 := HS.out.s.a.x0
  have a1 := HS.out.s.a.x1
  have a2 := HS.out.s.a.x2
  have a3 := HS.out.s.a.x3
  have a4 := HS.out.s.a.x4
  have a5 := HS.out.s.a.x5
  have a6 := HS.out.s.a.x6
  have a7 := HS.out.s.a.x7
  have bn := HS.out.s.b.n
  have be := HS.out.s.b.e
  have b0 := HS.out.s.b.x0
  have b1 := HS.out.s.b.x1
  have b2 := HS.out.s.b.x2
  have b3 := HS.out.s.b.x3
  have b4 := HS.out.s.b.x4
  have b5 := HS.out.s.b.x5
  have b6 := HS.out.s.b.x6
  have b7 := HS.out.s.b.x7
  go_wp2_with fail
  refine (HC1.out _).mono ?_
  rintro e w1 ⟨rfl, hb1⟩
  replace HS := hide (HS.out.below hb1)
  clear hb1 an ae a0 a1 a2 a3 a4 a5 a6 a7 bn be b0 b1 b2 b3 b4 b5 b6 b7
  have an := HS.out.s.a.n
  have ae := HS.out.s.a.e
  have a0 := HS.out.s.a.x0
  have a1 := HS.out.s.a.x1
  have a2 := HS.out.s.a.x2
  have a3 := HS.out.s.a.x3
  have a4 := HS.out.s.a.x4
  have a5 := HS.out.s.a.x5
  have a6 := HS.out.s.a.x6
  have a7 := HS.out.s.a.x7
  go_wp2_with fail
  refine (HR1.out _).mono ?_
  rintro e w2 ⟨rfl, hb2⟩
  replace HS := hide (HS.out.below hb2)
  clear hb2 an ae a0 a1 a2 a3 a4 a5 a6 a7
  have an := HS.out.s.a.n
  have ae := HS.out.s.a.e
  have a0 := HS.out.s.a.x0
  have a1 := HS.out.s.a.x1
  have a2 := HS.out.s.a.x2
  have a3 := HS.out.s.a.x3
  have a4 := HS.out.s.a.x4
  have a5 := HS.out.s.a.x5
  have a6 := HS.out.s.a.x6
  have a7 := HS.out.s.a.x7
  have bn := HS.out.s.b.n
  have be := HS.out.s.b.e
  have b0 := HS.out.s.b.x0
  have b1 := HS.out.s.b.x1
  have b2 := HS.out.s.b.x2
  have b3 := HS.out.s.b.x3
  have b4 := HS.out.s.b.x4
  have b5 := HS.out.s.b.x5
  have b6 := HS.out.s.b.x6
  have b7 := HS.out.s.b.x7
  go_wp2_with fail
  refine (HSM.out _).mono ?_
  rintro e w4 ⟨rfl, hb4⟩
  replace HS := hide (HS.out.below hb4)
  clear hb4 an ae a0 a1 a2 a3 a4 a5 a6 a7 bn be b0 b1 b2 b3 b4 b5 b6 b7
  go_wp2_with fail
  refine (awake7_any _ HS.out.g).mono ?_
  rintro e w9 ⟨rfl, hb9⟩
  have HB := hide (below_trans HS.out.s.bel hb9)
  clear hb9 HS
  go_wp2
  go_ret
  exact ⟨rfl, HB.out⟩

set_option maxHeartbeats 4000000 in
theorem unpackCmp_N2 (n1 n2 : Bool) (ea eb : Int) (a b : Nat) (c : Int)
    (HC1 : Hid (∀ w, Calls Tryd.prog 44 #[.agg #[.bool (n1), .int .i64 (ea), .int .u64 (dgl (a) 0 : Nat), .int .u64 (dgl (a) 1 : Nat), .int .u64 (dgl (a) 2 : Nat), .int .u64 (dgl (a) 3 : Nat), .int .u64 (dgl (a) 4 : Nat), .int .u64 (dgl (a) 5 : Nat), .int .u64 (dgl (a) 6 : Nat), .int .u64 (dgl (a) 7 : Nat)], .agg #[.bool (n2), .int .i64 (eb), .int .u64 (dgl (b) 0 : Nat), .int .u64 (dgl (b) 1 : Nat), .int .u64 (dgl (b) 2 : Nat), .int .u64 (dgl (b) 3 : Nat), .int .u64 (dgl (b) 4 : Nat), .int .u64 (dgl (b) 5 : Nat), .int .u64 (dgl (b) 6 : Nat), .int .u64 (dgl (b) 7 : Nat)]] w fun e w' => e = .returned (.int .i64 0) ∧ Below w.heap.size w w'))
    (HR1 : Hid (∀ w, Calls Tryd.prog 41 #[.agg #[.bool (n1), .int .i64 (ea), .int .u64 (dgl (a) 0 : Nat), .int .u64 (dgl (a) 1 : Nat), .int .u64 (dgl (a) 2 : Nat), .int .u64 (dgl (a) 3 : Nat), .int .u64 (dgl (a) 4 : Nat), .int .u64 (dgl (a) 5 : Nat), .int .u64 (dgl (a) 6 : Nat), .int .u64 (dgl (a) 7 : Nat)]] w fun e w' => e = .returned (.bool true) ∧ Below w.heap.size w w'))
    (HR2 : Hid (∀ w, Calls Tryd.prog 41 #[.agg #[.bool (n2), .int .i64 (eb), .int .u64 (dgl (b) 0 : Nat), .int .u64 (dgl (b) 1 : Nat), .int .u64 (dgl (b) 2 : Nat), .int .u64 (dgl (b) 3 : Nat), .int .u64 (dgl (b) 4 : Nat), .int .u64 (dgl (b) 5 : Nat), .int .u64 (dgl (b) 6 : Nat), .int .u64 (dgl (b) 7 : Nat)]] w fun e w' => e = .returned (.bool false) ∧ Below w.heap.size w w'))
    (HSM : Hid (∀ w, Calls Tryd.prog 45 #[.agg #[.bool (n1), .int .i64 (ea), .int .u64 (dgl (a) 0 : Nat), .int .u64 (dgl (a) 1 : Nat), .int .u64 (dgl (a) 2 : Nat), .int .u64 (dgl (a) 3 : Nat), .int .u64 (dgl (a) 4 : Nat), .int .u64 (dgl (a) 5 : Nat), .int .u64 (dgl (a) 6 : Nat), .int .u64 (dgl (a) 7 : Nat)], .agg #[.bool (n2), .int .i64 (eb), .int .u64 (dgl (b) 0 : Nat), .int .u64 (dgl (b) 1 : Nat), .int .u64 (dgl (b) 2 : Nat), .int .u64 (dgl (b) 3 : Nat), .int .u64 (dgl (b) 4 : Nat), .int .u64 (dgl (b) 5 : Nat), .int .u64 (dgl (b) 6 : Nat), .int .u64 (dgl (b) 7 : Nat)]] w fun e w' => e = .returned (.bool false) ∧ Below w.heap.size w w')) (w : World) (hg : FmtG w) :
    Calls Tryd.prog 9 #[.agg #[.bool (n1), .int .i64 (ea), .int .u64 (dgl (a) 0 : Nat), .int .u64 (dgl (a) 1 : Nat), .int .u64 (dgl (a) 2 : Nat), .int .u64 (dgl (a) 3 : Nat), .int .u64 (dgl (a) 4 : Nat), .int .u64 (dgl (a) 5 : Nat), .int .u64 (dgl (a) 6 : Nat), .int .u64 (dgl (a) 7 : Nat)], .agg #[.bool (n2), .int .i64 (eb), .int .u64 (dgl (b) 0 : Nat), .int .u64 (dgl (b) 1 : Nat), .int .u64 (dgl (b) 2 : Nat), .int .u64 (dgl (b) 3 : Nat), .int .u64 (dgl (b) 4 : Nat), .int .u64 (dgl (b) 5 : Nat), .int .u64 (dgl (b) 6 : Nat), .int .u64 (dgl (b) 7 : Nat)]] w fun e w' => e = .returned (.bool true) ∧ Below w.heap.size w w' := by
  have HS := hide (show UcS n1 n2 ea eb a b w _ from ⟨grSt_start n1 n2 ea eb a b w, (hg.below (below_allocs _ _)).below (below_allocs _ _)⟩)
  clear hg
  go_enter Tryd.func9, Tryd.ntmps9
  go_upto_region 1 with fail
  refine wp_gen (fun W => UcS n1 n2 ea eb a b w W) HS.out ?_
  clear HS
  rintro W1 g1
  have HS := hide g1
  clear g1
  have an := HS.out.s.a.n
  have ae := HS.out.s.a.e
  have a0 := HS.out.s.a.x0
  have a1 := HS.out.s.a.x1
  have a2 := HS.out.s.a.x2
  have a3 := HS.out.s.a.x3
  have a4 := HS.out.s.a.x4
  have a5 := HS.out.s.a.x5
  have a6 := HS.out.s.a.x6
  have a7 := HS.out.s.a.x7
  have bn := HS.out.s.b.n
  have be := HS.out.s.b.e
  have b0 := HS.out.s.b.x0
  have b1 := HS.out.s.b.x1
  have b2 := HS.out.s.b.x2
  have b3 := HS.out.s.b.x3
  have b4 := HS.out.s.b.x4
  have b5 := HS.out.s.b.x5
  have b6 := HS.out.s.b.x6
  have b7 := HS.out.s.b.x7
  go_wp2_with fail
  refine (HC1.out _).mono ?_
  rintro e w1 ⟨rfl, hb1⟩
  replace HS := hide (HS.out.below hb1)
  clear hb1 an ae a0 a1 a2 a3 a4 a5 a6 a7 bn be b0 b1 b2 b3 b4 b5 b6 b7
  have an := HS.out.s.a.n
  have ae := HS.out.s.a.e
  have a0 := HS.out.s.a.x0
  have a1 := HS.out.s.a.x1
  have a2 := HS.out.s.a.x2
  have a3 := HS.out.s.a.x3
  have a4 := HS.out.s.a.x4
  have a5 := HS.out.s.a.x5
  have a6 := HS.out.s.a.x6
  have a7 := HS.out.s.a.x7
  go_wp2_with fail
  refine (HR1.out _).mono ?_
  rintro e w2 ⟨rfl, hb2⟩
  replace HS := hide (HS.out.below hb2)
  clear hb2 an ae a0 a1 a2 a3 a4 a5 a6 a7
  have bn := HS.out.s.b.n
  have be := HS.out.s.b.e
  have b0 := HS.out.s.b.x0
  have b1 := HS.out.s.b.x1
  have b2 := HS.out.s.b.x2
  have b3 := HS.out.s.b.x3
  have b4 := HS.out.s.b.x4
  have b5 := HS.out.s.b.x5
  have b6 := HS.out.s.b.x6
  have b7 := HS.out.s.b.x7
  go_wp2_with fail
  refine (HR2.out _).mono ?_
  rintro e w3 ⟨rfl, hb3⟩
  replace HS := hide (HS.out.below hb3)
  clear hb3 bn be b0 b1 b2 b3 b4 b5 b6 b7
  have an := HS.out.s.a.n
  have ae := HS.out.s.a.e
  have a0 := HS.out.s.a.x0
  have a1 := HS.out.s.a.x1
  have a2 := HS.out.s.a.x2
  have a3 := HS.out.s.a.x3
  have a4 := HS.out.s.a.x4
  have a5 := HS.out.s.a.x5
  have a6 := HS.out.s.a.x6
  have a7 := HS.out.s.a.x7
  have bn := HS.out.s.b.n
  have be := HS.out.s.b.e
  have b0 := HS.out.s.b.x0
  have b1 := HS.out.s.b.x1
  have b2 := HS.out.s.b.x2
  have b3 := HS.out.s.b.x3
  have b4 := HS.out.s.b.x4
  have b5 := HS.out.s.b.x5
  have b6 := HS.out.s.b.x6
  have b7 := HS.out.s.b.x7
  go_wp2_with fail
  refine (HSM.out _).mono ?_
  rintro e w4 ⟨rfl, hb4⟩
  replace HS := hide (HS.out.below hb4)
  clear hb4 an ae a0 a1 a2 a3 a4 a5 a6 a7 bn be b0 b1 b2 b3 b4 b5 b6 b7
  go_wp2_with fail
  refine (awake7_any _ HS.out.g).mono ?_
  rintro e w9 ⟨rfl, hb9⟩
  have HB := hide (below_trans HS.out.s.bel hb9)
  clear hb9 HS
  go_wp2
  go_ret
  exact ⟨rfl, HB.out⟩

set_option maxHeartbeats 4000000 in
theorem unpackCmp_Y (n1 n2 : Bool) (ea eb : Int) (a b : Nat) (c : Int)
    (HC1 : Hid (∀ w, Calls Tryd.prog 44 #[.agg #[.bool (n1), .int .i64 (ea), .int .u64 (dgl (a) 0 : Nat), .int .u64 (dgl (a) 1 : Nat), .int .u64 (dgl (a) 2 : Nat), .int .u64 (dgl (a) 3 : Nat), .int .u64 (dgl (a) 4 : Nat), .int .u64 (dgl (a) 5 : Nat), .int .u64 (dgl (a) 6 : Nat), .int .u64 (dgl (a) 7 : Nat)], .agg #[.bool (n2), .int .i64 (eb), .int .u64 (dgl (b) 0 : Nat), .int .u64 (dgl (b) 1 : Nat), .int .u64 (dgl (b) 2 : Nat), .int .u64 (dgl (b) 3 : Nat), .int .u64 (dgl (b) 4 : Nat), .int .u64 (dgl (b) 5 : Nat), .int .u64 (dgl (b) 6 : Nat), .int .u64 (dgl (b) 7 : Nat)]] w fun e w' => e = .returned (.int .i64 c) ∧ Below w.heap.size w w'))
    (HR1 : Hid (∀ w, Calls Tryd.prog 41 #[.agg #[.bool (n1), .int .i64 (ea), .int .u64 (dgl (a) 0 : Nat), .int .u64 (dgl (a) 1 : Nat), .int .u64 (dgl (a) 2 : Nat), .int .u64 (dgl (a) 3 : Nat), .int .u64 (dgl (a) 4 : Nat), .int .u64 (dgl (a) 5 : Nat), .int .u64 (dgl (a) 6 : Nat), .int .u64 (dgl (a) 7 : Nat)]] w fun e w' => e = .returned (.bool true) ∧ Below w.heap.size w w'))
    (HR2 : Hid (∀ w, Calls Tryd.prog 41 #[.agg #[.bool (n2), .int .i64 (eb), .int .u64 (dgl (b) 0 : Nat), .int .u64 (dgl (b) 1 : Nat), .int .u64 (dgl (b) 2 : Nat), .int .u64 (dgl (b) 3 : Nat), .int .u64 (dgl (b) 4 : Nat), .int .u64 (dgl (b) 5 : Nat), .int .u64 (dgl (b) 6 : Nat), .int .u64 (dgl (b) 7 : Nat)]] w fun e w' => e = .returned (.bool true) ∧ Below w.heap.size w w'))
    (HO1 : Hid (∀ w, Calls Tryd.prog 40 #[.agg #[.bool (n1), .int .i64 (ea), .int .u64 (dgl (a) 0 : Nat), .int .u64 (dgl (a) 1 : Nat), .int .u64 (dgl (a) 2 : Nat), .int .u64 (dgl (a) 3 : Nat), .int .u64 (dgl (a) 4 : Nat), .int .u64 (dgl (a) 5 : Nat), .int .u64 (dgl (a) 6 : Nat), .int .u64 (dgl (a) 7 : Nat)]] w fun e w' => ∃ v, e = .returned v ∧ NumV w' v n1 ea a 40 ∧ Below w.heap.size w w'))
    (HO2 : Hid (∀ w, Calls Tryd.prog 40 #[.agg #[.bool (n2), .int .i64 (eb), .int .u64 (dgl (b) 0 : Nat), .int .u64 (dgl (b) 1 : Nat), .int .u64 (dgl (b) 2 : Nat), .int .u64 (dgl (b) 3 : Nat), .int .u64 (dgl (b) 4 : Nat), .int .u64 (dgl (b) 5 : Nat), .int .u64 (dgl (b) 6 : Nat), .int .u64 (dgl (b) 7 : Nat)]] w fun e w' => ∃ v, e = .returned v ∧ NumV w' v n2 eb b 40 ∧ Below w.heap.size w w'))
    (HRC : Hid (∀ u v w, NumV w u n1 ea a 40 → NumV w v n2 eb b 40 → Calls Tryd.prog 46 #[u, v] w fun e w' => e = .returned (.int .i64 c) ∧ Below w.heap.size w w'))
    (HC2 : Hid (∀ w, Calls Tryd.prog 44 #[.agg #[.bool (n2), .int .i64 (eb), .int .u64 (dgl (b) 0 : Nat), .int .u64 (dgl (b) 1 : Nat), .int .u64 (dgl (b) 2 : Nat), .int .u64 (dgl (b) 3 : Nat), .int .u64 (dgl (b) 4 : Nat), .int .u64 (dgl (b) 5 : Nat), .int .u64 (dgl (b) 6 : Nat), .int .u64 (dgl (b) 7 : Nat)], .agg #[.bool (n1), .int .i64 (ea), .int .u64 (dgl (a) 0 : Nat), .int .u64 (dgl (a) 1 : Nat), .int .u64 (dgl (a) 2 : Nat), .int .u64 (dgl (a) 3 : Nat), .int .u64 (dgl (a) 4 : Nat), .int .u64 (dgl (a) 5 : Nat), .int .u64 (dgl (a) 6 : Nat), .int .u64 (dgl (a) 7 : Nat)]] w fun e w' => e = .returned (.int .i64 (-c)) ∧ Below w.heap.size w w'))
    (hc : -1 ≤ c ∧ c ≤ 1)
    (HSM : Hid (∀ w, Calls Tryd.prog 45 #[.agg #[.bool (n1), .int .i64 (ea), .int .u64 (dgl (a) 0 : Nat), .int .u64 (dgl (a) 1 : Nat), .int .u64 (dgl (a) 2 : Nat), .int .u64 (dgl (a) 3 : Nat), .int .u64 (dgl (a) 4 : Nat), .int .u64 (dgl (a) 5 : Nat), .int .u64 (dgl (a) 6 : Nat), .int .u64 (dgl (a) 7 : Nat)], .agg #[.bool (n2), .int .i64 (eb), .int .u64 (dgl (b) 0 : Nat), .int .u64 (dgl (b) 1 : Nat), .int .u64 (dgl (b) 2 : Nat), .int .u64 (dgl (b) 3 : Nat), .int .u64 (dgl (b) 4 : Nat), .int .u64 (dgl (b) 5 : Nat), .int .u64 (dgl (b) 6 : Nat), .int .u64 (dgl (b) 7 : Nat)]] w fun e w' => e = .returned (.bool ((c == 0) && (n1 == n2))) ∧ Below w.heap.size w w'))
    (HC3 : Hid (∀ w, Calls Tryd.prog 44 #[.agg #[.bool (n1), .int .i64 (ea), .int .u64 (dgl (a) 0 : Nat), .int .u64 (dgl (a) 1 : Nat), .int .u64 (dgl (a) 2 : Nat), .int .u64 (dgl (a) 3 : Nat), .int .u64 (dgl (a) 4 : Nat), .int .u64 (dgl (a) 5 : Nat), .int .u64 (dgl (a) 6 : Nat), .int .u64 (dgl (a) 7 : Nat)], .agg #[.bool (n1), .int .i64 (ea), .int .u64 (dgl (a) 0 : Nat), .int .u64 (dgl (a) 1 : Nat), .int .u64 (dgl (a) 2 : Nat), .int .u64 (dgl (a) 3 : Nat), .int .u64 (dgl (a) 4 : Nat), .int .u64 (dgl (a) 5 : Nat), .int .u64 (dgl (a) 6 : Nat), .int .u64 (dgl (a) 7 : Nat)]] w fun e w' => e = .returned (.int .i64 0) ∧ Below w.heap.size w w'))
    (HC0 : Hid ((c == 0) = true)) (w : World) (hg : FmtG w) :
    Calls Tryd.prog 9 #[.agg #[.bool (n1), .int .i64 (ea), .int .u64 (dgl (a) 0 : Nat), .int .u64 (dgl (a) 1 : Nat), .int .u64 (dgl (a) 2 : Nat), .int .u64 (dgl (a) 3 : Nat), .int .u64 (dgl (a) 4 : Nat), .int .u64 (dgl (a) 5 : Nat), .int .u64 (dgl (a) 6 : Nat), .int .u64 (dgl (a) 7 : Nat)], .agg #[.bool (n2), .int .i64 (eb), .int .u64 (dgl (b) 0 : Nat), .int .u64 (dgl (b) 1 : Nat), .int .u64 (dgl (b) 2 : Nat), .int .u64 (dgl (b) 3 : Nat), .int .u64 (dgl (b) 4 : Nat), .int .u64 (dgl (b) 5 : Nat), .int .u64 (dgl (b) 6 : Nat), .int .u64 (dgl (b) 7 : Nat)]] w fun e w' => e = .returned (.bool true) ∧ Below w.heap.size w w' := by
  have HS := hide (show UcS n1 n2 ea eb a b w _ from ⟨grSt_start n1 n2 ea eb a b w, (hg.below (below_allocs _ _)).below (below_allocs _ _)⟩)
  clear hg
  go_enter Tryd.func9, Tryd.ntmps9
  go_upto_region 1 with fail
  refine wp_gen (fun W => UcS n1 n2 ea eb a b w W) HS.out ?_
  clear HS
  rintro W1 g1
  have HS := hide g1
  clear g1
  have an := HS.out.s.a.n
  have ae := HS.out.s.a.e
  have a0 := HS.out.s.a.x0
  have a1 := HS.out.s.a.x1
  have a2 := HS.out.s.a.x2
  have a3 := HS.out.s.a.x3
  have a4 := HS.out.s.a.x4
  have a5 := HS.out.s.a.x5
  have a6 := HS.out.s.a.x6
  have a7 := HS.out.s.a.x7
  have bn := HS.out.s.b.n
  have be := HS.out.s.b.e
  have b0 := HS.out.s.b.x0
  have b1 := HS.out.s.b.x1
  have b2 := HS.out.s.b.x2
  have b3 := HS.out.s.b.x3
  have b4 := HS.out.s.b.x4
  have b5 := HS.out.s.b.x5
  have b6 := HS.out.s.b.x6
  have b7 := HS.out.s.b.x7
  go_wp2_with fail
  refine (HC1.out _).mono ?_
  rintro e w1 ⟨rfl, hb1⟩
  replace HS := hide (HS.out.below hb1)
  clear hb1 an ae a0 a1 a2 a3 a4 a5 a6 a7 bn be b0 b1 b2 b3 b4 b5 b6 b7
  have an := HS.out.s.a.n
  have ae := HS.out.s.a.e
  have a0 := HS.out.s.a.x0
  have a1 := HS.out.s.a.x1
  have a2 := HS.out.s.a.x2
  have a3 := HS.out.s.a.x3
  have a4 := HS.out.s.a.x4
  have a5 := HS.out.s.a.x5
  have a6 := HS.out.s.a.x6
  have a7 := HS.out.s.a.x7
  go_wp2_with fail
  refine (HR1.out _).mono ?_
  rintro e w2 ⟨rfl, hb2⟩
  replace HS := hide (HS.out.below hb2)
  clear hb2 an ae a0 a1 a2 a3 a4 a5 a6 a7
  have bn := HS.out.s.b.n
  have be := HS.out.s.b.e
  have b0 := HS.out.s.b.x0
  have b1 := HS.out.s.b.x1
  have b2 := HS.out.s.b.x2
  have b3 := HS.out.s.b.x3
  have b4 := HS.out.s.b.x4
  have b5 := HS.out.s.b.x5
  have b6 := HS.out.s.b.x6
  have b7 := HS.out.s.b.x7
  go_wp2_with fail
  refine (HR2.out _).mono ?_
  rintro e w3 ⟨rfl, hb3⟩
  replace HS := hide (HS.out.below hb3)
  clear hb3 bn be b0 b1 b2 b3 b4 b5 b6 b7
  go_upto_region 4 with fail
  refine wp_gen (fun W => UcS n1 n2 ea eb a b w W) HS.out ?_
  clear HS
  rintro W4 h1
  refine wp_region_grow 6 [(29, .val (.agg #[.bool (n1), .int .i64 (ea), .int .u64 (dgl (a) 0 : Nat), .int .u64 (dgl (a) 1 : Nat), .int .u64 (dgl (a) 2 : Nat), .int .u64 (dgl (a) 3 : Nat), .int .u64 (dgl (a) 4 : Nat), .int .u64 (dgl (a) 5 : Nat), .int .u64 (dgl (a) 6 : Nat), .int .u64 (dgl (a) 7 : Nat)])), (30, .num n1 ea a 40), (31, .val (.agg #[.bool (n2), .int .i64 (eb), .int .u64 (dgl (b) 0 : Nat), .int .u64 (dgl (b) 1 : Nat), .int .u64 (dgl (b) 2 : Nat), .int .u64 (dgl (b) 3 : Nat), .int .u64 (dgl (b) 4 : Nat), .int .u64 (dgl (b) 5 : Nat), .int .u64 (dgl (b) 6 : Nat), .int .u64 (dgl (b) 7 : Nat)])), (32, .num n2 eb b 40), (33, .val (.int .i64 c)), (6, .val (.int .i64 c))]
    (fun W => UcS n1 n2 ea eb a b w W) mixedOk (by kernel_rfl) (by kernel_rfl) (h1.below (Below.refl _ _).drew) (fun W W' h hb => h.below hb) ?_ ?_
  · refine gSt (gStep_run rfl ?_) ?_
    · intro ρ W hC hc hf hL
      have e2 : ρ (.tmp 2) = .pointer (some ⟨w.heap.size, 0, none⟩) := hL 2 (by decide +kernel)
      have an := hC.s.a.n
      have ae := hC.s.a.e
      have a0 := hC.s.a.x0
      have a1 := hC.s.a.x1
      have a2 := hC.s.a.x2
      have a3 := hC.s.a.x3
      have a4 := hC.s.a.x4
      have a5 := hC.s.a.x5
      have a6 := hC.s.a.x6
      have a7 := hC.s.a.x7
      simp [go_sem, hc, hf, e2, an, ae, a0, a1, a2, a3, a4, a5, a6, a7]
      exact ⟨Below.refl _ _, rfl⟩
    refine gSt (gStep_run rfl ?_) ?_
    · intro ρ W hC hc hf hL
      have e29 : ρ (.tmp 29) = .agg #[.bool (n1), .int .i64 (ea), .int .u64 (dgl (a) 0 : Nat), .int .u64 (dgl (a) 1 : Nat), .int .u64 (dgl (a) 2 : Nat), .int .u64 (dgl (a) 3 : Nat), .int .u64 (dgl (a) 4 : Nat), .int .u64 (dgl (a) 5 : Nat), .int .u64 (dgl (a) 6 : Nat), .int .u64 (dgl (a) 7 : Nat)] := hL 29 (by decide +kernel)
      simp [go_sem, hc, hf, e29]
      refine (HO1.out W).mono ?_
      rintro e w' ⟨v, rfl, hv, hb⟩
      exact ⟨_, rfl, hb, hv⟩
    refine gSt (gStep_run rfl ?_) ?_
    · intro ρ W hC hc hf hL
      have e3 : ρ (.tmp 3) = .pointer (some ⟨w.heap.size + 1, 0, none⟩) := hL 3 (by decide +kernel)
      have bn := hC.s.b.n
      have be := hC.s.b.e
      have b0 := hC.s.b.x0
      have b1 := hC.s.b.x1
      have b2 := hC.s.b.x2
      have b3 := hC.s.b.x3
      have b4 := hC.s.b.x4
      have b5 := hC.s.b.x5
      have b6 := hC.s.b.x6
      have b7 := hC.s.b.x7
      simp [go_sem, hc, hf, e3, bn, be, b0, b1, b2, b3, b4, b5, b6, b7]
      exact ⟨Below.refl _ _, rfl⟩
    refine gSt (gStep_run rfl ?_) ?_
    · intro ρ W hC hc hf hL
      have e31 : ρ (.tmp 31) = .agg #[.bool (n2), .int .i64 (eb), .int .u64 (dgl (b) 0 : Nat), .int .u64 (dgl (b) 1 : Nat), .int .u64 (dgl (b) 2 : Nat), .int .u64 (dgl (b) 3 : Nat), .int .u64 (dgl (b) 4 : Nat), .int .u64 (dgl (b) 5 : Nat), .int .u64 (dgl (b) 6 : Nat), .int .u64 (dgl (b) 7 : Nat)] := hL 31 (by decide +kernel)
      simp [go_sem, hc, hf, e31]
      refine (HO2.out W).mono ?_
      rintro e w' ⟨v, rfl, hv, hb⟩
      exact ⟨_, rfl, hb, hv⟩
    refine gSt (gStep_run rfl ?_) ?_
    · intro ρ W hC hc hf hL
      have b30 := hL 30 (by decide +kernel)
      have b32 := hL 32 (by decide +kernel)
      simp [go_sem, hc, hf]
      refine (HRC.out _ _ W b30 b32).mono ?_
      rintro e w' ⟨rfl, hb⟩
      exact ⟨_, rfl, by first | exact hb | (subst hb; exact Below.refl _ _), rfl⟩
    refine gSt (gStep_run rfl (gRun_move 33 6 (.inr rfl) rfl (by decide +kernel) (fun v w h => h))) ?_
    exact gSt0
  · intro W hC
    refine gFi 29 rfl ?_
    rintro _ rfl
    refine gFi 30 rfl ?_
    rintro u30 b30
    refine gFi 31 rfl ?_
    rintro _ rfl
    refine gFi 32 rfl ?_
    rintro u32 b32
    refine gFi 33 rfl ?_
    rintro _ rfl
    refine gFi 6 rfl ?_
    rintro _ rfl
    refine gFi0 ?_
    simp only [List.drop_succ_cons, List.drop_zero, Act.put, List.setIfInBounds_toArray, List.set_cons_succ, List.set_cons_zero]
    have HS := hide hC
    clear hC h1 b30 b32
    have hcc : (c == c) = true := beq_self_eq_true c
    have bn := HS.out.s.b.n
    have be := HS.out.s.b.e
    have b0 := HS.out.s.b.x0
    have b1 := HS.out.s.b.x1
    have b2 := HS.out.s.b.x2
    have b3 := HS.out.s.b.x3
    have b4 := HS.out.s.b.x4
    have b5 := HS.out.s.b.x5
    have b6 := HS.out.s.b.x6
    have b7 := HS.out.s.b.x7
    have an := HS.out.s.a.n
    have ae := HS.out.s.a.e
    have a0 := HS.out.s.a.x0
    have a1 := HS.out.s.a.x1
    have a2 := HS.out.s.a.x2
    have a3 := HS.out.s.a.x3
    have a4 := HS.out.s.a.x4
    have a5 := HS.out.s.a.x5
    have a6 := HS.out.s.a.x6
    have a7 := HS.out.s.a.x7
    go_wp2_with fail
    refine (HC2.out _).mono ?_
    rintro e w5 ⟨rfl, hb5⟩
    replace HS := hide (HS.out.below hb5)
    clear hb5 bn be b0 b1 b2 b3 b4 b5 b6 b7 an ae a0 a1 a2 a3 a4 a5 a6 a7
    have hc2 : (-c == -c) = true := beq_self_eq_true _
    have hw : IntKind.i64.wrap (-c) = -c := by rw [IntKind.wrap_i64]; omega
    have hc0 := HC0.out
    have an := HS.out.s.a.n
    have ae := HS.out.s.a.e
    have a0 := HS.out.s.a.x0
    have a1 := HS.out.s.a.x1
    have a2 := HS.out.s.a.x2
    have a3 := HS.out.s.a.x3
    have a4 := HS.out.s.a.x4
    have a5 := HS.out.s.a.x5
    have a6 := HS.out.s.a.x6
    have a7 := HS.out.s.a.x7
    have bn := HS.out.s.b.n
    have be := HS.out.s.b.e
    have b0 := HS.out.s.b.x0
    have b1 := HS.out.s.b.x1
    have b2 := HS.out.s.b.x2
    have b3 := HS.out.s.b.x3
    have b4 := HS.out.s.b.x4
    have b5 := HS.out.s.b.x5
    have b6 := HS.out.s.b.x6
    have b7 := HS.out.s.b.x7
    go_wp2_with fail
    refine (HSM.out _).mono ?_
    rintro e w6 ⟨rfl, hb6⟩
    replace HS := hide (HS.out.below hb6)
    clear hb6 an ae a0 a1 a2 a3 a4 a5 a6 a7 bn be b0 b1 b2 b3 b4 b5 b6 b7
    have an := HS.out.s.a.n
    have ae := HS.out.s.a.e
    have a0 := HS.out.s.a.x0
    have a1 := HS.out.s.a.x1
    have a2 := HS.out.s.a.x2
    have a3 := HS.out.s.a.x3
    have a4 := HS.out.s.a.x4
    have a5 := HS.out.s.a.x5
    have a6 := HS.out.s.a.x6
    have a7 := HS.out.s.a.x7
    have bn := HS.out.s.b.n
    have be := HS.out.s.b.e
    have b0 := HS.out.s.b.x0
    have b1 := HS.out.s.b.x1
    have b2 := HS.out.s.b.x2
    have b3 := HS.out.s.b.x3
    have b4 := HS.out.s.b.x4
    have b5 := HS.out.s.b.x5
    have b6 := HS.out.s.b.x6
    have b7 := HS.out.s.b.x7
    have an := HS.out.s.a.n
    have ae := HS.out.s.a.e
    have a0 := HS.out.s.a.x0
    have a1 := HS.out.s.a.x1
    have a2 := HS.out.s.a.x2
    have a3 := HS.out.s.a.x3
    have a4 := HS.out.s.a.x4
    have a5 := HS.out.s.a.x5
    have a6 := HS.out.s.a.x6
    have a7 := HS.out.s.a.x7
    go_wp2_with fail
    refine (HC3.out _).mono ?_
    rintro e w7 ⟨rfl, hb7⟩
    replace HS := hide (HS.out.below hb7)
    clear hb7 an ae a0 a1 a2 a3 a4 a5 a6 a7
    go_wp2_with fail
    refine (awake7_any _ HS.out.g).mono ?_
    rintro e w9 ⟨rfl, hb9⟩
    have HB := hide (below_trans HS.out.s.bel hb9)
    clear hb9 HS
    go_wp2
    go_ret
    exact ⟨rfl, HB.out⟩

set_option maxHeartbeats 4000000 in
theorem unpackCmp_X (n1 n2 : Bool) (ea eb : Int) (a b : Nat) (c : Int)
    (HC1 : Hid (∀ w, Calls Tryd.prog 44 #[.agg #[.bool (n1), .int .i64 (ea), .int .u64 (dgl (a) 0 : Nat), .int .u64 (dgl (a) 1 : Nat), .int .u64 (dgl (a) 2 : Nat), .int .u64 (dgl (a) 3 : Nat), .int .u64 (dgl (a) 4 : Nat), .int .u64 (dgl (a) 5 : Nat), .int .u64 (dgl (a) 6 : Nat), .int .u64 (dgl (a) 7 : Nat)], .agg #[.bool (n2), .int .i64 (eb), .int .u64 (dgl (b) 0 : Nat), .int .u64 (dgl (b) 1 : Nat), .int .u64 (dgl (b) 2 : Nat), .int .u64 (dgl (b) 3 : Nat), .int .u64 (dgl (b) 4 : Nat), .int .u64 (dgl (b) 5 : Nat), .int .u64 (dgl (b) 6 : Nat), .int .u64 (dgl (b) 7 : Nat)]] w fun e w' => e = .returned (.int .i64 c) ∧ Below w.heap.size w w'))
    (HR1 : Hid (∀ w, Calls Tryd.prog 41 #[.agg #[.bool (n1), .int .i64 (ea), .int .u64 (dgl (a) 0 : Nat), .int .u64 (dgl (a) 1 : Nat), .int .u64 (dgl (a) 2 : Nat), .int .u64 (dgl (a) 3 : Nat), .int .u64 (dgl (a) 4 : Nat), .int .u64 (dgl (a) 5 : Nat), .int .u64 (dgl (a) 6 : Nat), .int .u64 (dgl (a) 7 : Nat)]] w fun e w' => e = .returned (.bool true) ∧ Below w.heap.size w w'))
    (HR2 : Hid (∀ w, Calls Tryd.prog 41 #[.agg #[.bool (n2), .int .i64 (eb), .int .u64 (dgl (b) 0 : Nat), .int .u64 (dgl (b) 1 : Nat), .int .u64 (dgl (b) 2 : Nat), .int .u64 (dgl (b) 3 : Nat), .int .u64 (dgl (b) 4 : Nat), .int .u64 (dgl (b) 5 : Nat), .int .u64 (dgl (b) 6 : Nat), .int .u64 (dgl (b) 7 : Nat)]] w fun e w' => e = .returned (.bool true) ∧ Below w.heap.size w w'))
    (HO1 : Hid (∀ w, Calls Tryd.prog 40 #[.agg #[.bool (n1), .int .i64 (ea), .int .u64 (dgl (a) 0 : Nat), .int .u64 (dgl (a) 1 : Nat), .int .u64 (dgl (a) 2 : Nat), .int .u64 (dgl (a) 3 : Nat), .int .u64 (dgl (a) 4 : Nat), .int .u64 (dgl (a) 5 : Nat), .int .u64 (dgl (a) 6 : Nat), .int .u64 (dgl (a) 7 : Nat)]] w fun e w' => ∃ v, e = .returned v ∧ NumV w' v n1 ea a 40 ∧ Below w.heap.size w w'))
    (HO2 : Hid (∀ w, Calls Tryd.prog 40 #[.agg #[.bool (n2), .int .i64 (eb), .int .u64 (dgl (b) 0 : Nat), .int .u64 (dgl (b) 1 : Nat), .int .u64 (dgl (b) 2 : Nat), .int .u64 (dgl (b) 3 : Nat), .int .u64 (dgl (b) 4 : Nat), .int .u64 (dgl (b) 5 : Nat), .int .u64 (dgl (b) 6 : Nat), .int .u64 (dgl (b) 7 : Nat)]] w fun e w' => ∃ v, e = .returned v ∧ NumV w' v n2 eb b 40 ∧ Below w.heap.size w w'))
    (HRC : Hid (∀ u v w, NumV w u n1 ea a 40 → NumV w v n2 eb b 40 → Calls Tryd.prog 46 #[u, v] w fun e w' => e = .returned (.int .i64 c) ∧ Below w.heap.size w w'))
    (HC2 : Hid (∀ w, Calls Tryd.prog 44 #[.agg #[.bool (n2), .int .i64 (eb), .int .u64 (dgl (b) 0 : Nat), .int .u64 (dgl (b) 1 : Nat), .int .u64 (dgl (b) 2 : Nat), .int .u64 (dgl (b) 3 : Nat), .int .u64 (dgl (b) 4 : Nat), .int .u64 (dgl (b) 5 : Nat), .int .u64 (dgl (b) 6 : Nat), .int .u64 (dgl (b) 7 : Nat)], .agg #[.bool (n1), .int .i64 (ea), .int .u64 (dgl (a) 0 : Nat), .int .u64 (dgl (a) 1 : Nat), .int .u64 (dgl (a) 2 : Nat), .int .u64 (dgl (a) 3 : Nat), .int .u64 (dgl (a) 4 : Nat), .int .u64 (dgl (a) 5 : Nat), .int .u64 (dgl (a) 6 : Nat), .int .u64 (dgl (a) 7 : Nat)]] w fun e w' => e = .returned (.int .i64 (-c)) ∧ Below w.heap.size w w'))
    (hc : -1 ≤ c ∧ c ≤ 1)
    (HSM : Hid (∀ w, Calls Tryd.prog 45 #[.agg #[.bool (n1), .int .i64 (ea), .int .u64 (dgl (a) 0 : Nat), .int .u64 (dgl (a) 1 : Nat), .int .u64 (dgl (a) 2 : Nat), .int .u64 (dgl (a) 3 : Nat), .int .u64 (dgl (a) 4 : Nat), .int .u64 (dgl (a) 5 : Nat), .int .u64 (dgl (a) 6 : Nat), .int .u64 (dgl (a) 7 : Nat)], .agg #[.bool (n2), .int .i64 (eb), .int .u64 (dgl (b) 0 : Nat), .int .u64 (dgl (b) 1 : Nat), .int .u64 (dgl (b) 2 : Nat), .int .u64 (dgl (b) 3 : Nat), .int .u64 (dgl (b) 4 : Nat), .int .u64 (dgl (b) 5 : Nat), .int .u64 (dgl (b) 6 : Nat), .int .u64 (dgl (b) 7 : Nat)]] w fun e w' => e = .returned (.bool ((c == 0) && (n1 == n2))) ∧ Below w.heap.size w w'))
    (HC3 : Hid (∀ w, Calls Tryd.prog 44 #[.agg #[.bool (n1), .int .i64 (ea), .int .u64 (dgl (a) 0 : Nat), .int .u64 (dgl (a) 1 : Nat), .int .u64 (dgl (a) 2 : Nat), .int .u64 (dgl (a) 3 : Nat), .int .u64 (dgl (a) 4 : Nat), .int .u64 (dgl (a) 5 : Nat), .int .u64 (dgl (a) 6 : Nat), .int .u64 (dgl (a) 7 : Nat)], .agg #[.bool (n1), .int .i64 (ea), .int .u64 (dgl (a) 0 : Nat), .int .u64 (dgl (a) 1 : Nat), .int .u64 (dgl (a) 2 : Nat), .int .u64 (dgl (a) 3 : Nat), .int .u64 (dgl (a) 4 : Nat), .int .u64 (dgl (a) 5 : Nat), .int .u64 (dgl (a) 6 : Nat), .int .u64 (dgl (a) 7 : Nat)]] w fun e w' => e = .returned (.int .i64 0) ∧ Below w.heap.size w w'))
    (HC0 : Hid ((c == 0) = false)) (w : World) (hg : FmtG w) :
    Calls Tryd.prog 9 #[.agg #[.bool (n1), .int .i64 (ea), .int .u64 (dgl (a) 0 : Nat), .int .u64 (dgl (a) 1 : Nat), .int .u64 (dgl (a) 2 : Nat), .int .u64 (dgl (a) 3 : Nat), .int .u64 (dgl (a) 4 : Nat), .int .u64 (dgl (a) 5 : Nat), .int .u64 (dgl (a) 6 : Nat), .int .u64 (dgl (a) 7 : Nat)], .agg #[.bool (n2), .int .i64 (eb), .int .u64 (dgl (b) 0 : Nat), .int .u64 (dgl (b) 1 : Nat), .int .u64 (dgl (b) 2 : Nat), .int .u64 (dgl (b) 3 : Nat), .int .u64 (dgl (b) 4 : Nat), .int .u64 (dgl (b) 5 : Nat), .int .u64 (dgl (b) 6 : Nat), .int .u64 (dgl (b) 7 : Nat)]] w fun e w' => e = .returned (.bool true) ∧ Below w.heap.size w w' := by
  have HS := hide (show UcS n1 n2 ea eb a b w _ from ⟨grSt_start n1 n2 ea eb a b w, (hg.below (below_allocs _ _)).below (below_allocs _ _)⟩)
  clear hg
  go_enter Tryd.func9, Tryd.ntmps9
  go_upto_region 1 with fail
  refine wp_gen (fun W => UcS n1 n2 ea eb a b w W) HS.out ?_
  clear HS
  rintro W1 g1
  have HS := hide g1
  clear g1
  have an := HS.out.s.a.n
  have ae := HS.out.s.a.e
  have a0 := HS.out.s.a.x0
  have a1 := HS.out.s.a.x1
  have a2 := HS.out.s.a.x2
  have a3 := HS.out.s.a.x3
  have a4 := HS.out.s.a.x4
  have a5 := HS.out.s.a.x5
  have a6 := HS.out.s.a.x6
  have a7 := HS.out.s.a.x7
  have bn := HS.out.s.b.n
  have be := HS.out.s.b.e
  have b0 := HS.out.s.b.x0
  have b1 := HS.out.s.b.x1
  have b2 := HS.out.s.b.x2
  have b3 := HS.out.s.b.x3
  have b4 := HS.out.s.b.x4
  have b5 := HS.out.s.b.x5
  have b6 := HS.out.s.b.x6
  have b7 := HS.out.s.b.x7
  go_wp2_with fail
  refine (HC1.out _).mono ?_
  rintro e w1 ⟨rfl, hb1⟩
  replace HS := hide (HS.out.below hb1)
  clear hb1 an ae a0 a1 a2 a3 a4 a5 a6 a7 bn be b0 b1 b2 b3 b4 b5 b6 b7
  have an := HS.out.s.a.n
  have ae := HS.out.s.a.e
  have a0 := HS.out.s.a.x0
  have a1 := HS.out.s.a.x1
  have a2 := HS.out.s.a.x2
  have a3 := HS.out.s.a.x3
  have a4 := HS.out.s.a.x4
  have a5 := HS.out.s.a.x5
  have a6 := HS.out.s.a.x6
  have a7 := HS.out.s.a.x7
  go_wp2_with fail
  refine (HR1.out _).mono ?_
  rintro e w2 ⟨rfl, hb2⟩
  replace HS := hide (HS.out.below hb2)
  clear hb2 an ae a0 a1 a2 a3 a4 a5 a6 a7
  have bn := HS.out.s.b.n
  have be := HS.out.s.b.e
  have b0 := HS.out.s.b.x0
  have b1 := HS.out.s.b.x1
  have b2 := HS.out.s.b.x2
  have b3 := HS.out.s.b.x3
  have b4 := HS.out.s.b.x4
  have b5 := HS.out.s.b.x5
  have b6 := HS.out.s.b.x6
  have b7 := HS.out.s.b.x7
  go_wp2_with fail
  refine (HR2.out _).mono ?_
  rintro e w3 ⟨rfl, hb3⟩
  replace HS := hide (HS.out.below hb3)
  clear hb3 bn be b0 b1 b2 b3 b4 b5 b6 b7
  go_upto_region 4 with fail
  refine wp_gen (fun W => UcS n1 n2 ea eb a b w W) HS.out ?_
  clear HS
  rintro W4 h1
  refine wp_region_grow 6 [(29, .val (.agg #[.bool (n1), .int .i64 (ea), .int .u64 (dgl (a) 0 : Nat), .int .u64 (dgl (a) 1 : Nat), .int .u64 (dgl (a) 2 : Nat), .int .u64 (dgl (a) 3 : Nat), .int .u64 (dgl (a) 4 : Nat), .int .u64 (dgl (a) 5 : Nat), .int .u64 (dgl (a) 6 : Nat), .int .u64 (dgl (a) 7 : Nat)])), (30, .num n1 ea a 40), (31, .val (.agg #[.bool (n2), .int .i64 (eb), .int .u64 (dgl (b) 0 : Nat), .int .u64 (dgl (b) 1 : Nat), .int .u64 (dgl (b) 2 : Nat), .int .u64 (dgl (b) 3 : Nat), .int .u64 (dgl (b) 4 : Nat), .int .u64 (dgl (b) 5 : Nat), .int .u64 (dgl (b) 6 : Nat), .int .u64 (dgl (b) 7 : Nat)])), (32, .num n2 eb b 40), (33, .val (.int .i64 c)), (6, .val (.int .i64 c))]
    (fun W => UcS n1 n2 ea eb a b w W) mixedOk (by kernel_rfl) (by kernel_rfl) (h1.below (Below.refl _ _).drew) (fun W W' h hb => h.below hb) ?_ ?_
  · refine gSt (gStep_run rfl ?_) ?_
    · intro ρ W hC hc hf hL
      have e2 : ρ (.tmp 2) = .pointer (some ⟨w.heap.size, 0, none⟩) := hL 2 (by decide +kernel)
      have an := hC.s.a.n
      have ae := hC.s.a.e
      have a0 := hC.s.a.x0
      have a1 := hC.s.a.x1
      have a2 := hC.s.a.x2
      have a3 := hC.s.a.x3
      have a4 := hC.s.a.x4
      have a5 := hC.s.a.x5
      have a6 := hC.s.a.x6
      have a7 := hC.s.a.x7
      simp [go_sem, hc, hf, e2, an, ae, a0, a1, a2, a3, a4, a5, a6, a7]
      exact ⟨Below.refl _ _, rfl⟩
    refine gSt (gStep_run rfl ?_) ?_
    · intro ρ W hC hc hf hL
      have e29 : ρ (.tmp 29) = .agg #[.bool (n1), .int .i64 (ea), .int .u64 (dgl (a) 0 : Nat), .int .u64 (dgl (a) 1 : Nat), .int .u64 (dgl (a) 2 : Nat), .int .u64 (dgl (a) 3 : Nat), .int .u64 (dgl (a) 4 : Nat), .int .u64 (dgl (a) 5 : Nat), .int .u64 (dgl (a) 6 : Nat), .int .u64 (dgl (a) 7 : Nat)] := hL 29 (by decide +kernel)
      simp [go_sem, hc, hf, e29]
      refine (HO1.out W).mono ?_
      rintro e w' ⟨v, rfl, hv, hb⟩
      exact ⟨_, rfl, hb, hv⟩
    refine gSt (gStep_run rfl ?_) ?_
    · intro ρ W hC hc hf hL
      have e3 : ρ (.tmp 3) = .pointer (some ⟨w.heap.size + 1, 0, none⟩) := hL 3 (by decide +kernel)
      have bn := hC.s.b.n
      have be := hC.s.b.e
      have b0 := hC.s.b.x0
      have b1 := hC.s.b.x1
      have b2 := hC.s.b.x2
      have b3 := hC.s.b.x3
      have b4 := hC.s.b.x4
      have b5 := hC.s.b.x5
      have b6 := hC.s.b.x6
      have b7 := hC.s.b.x7
      simp [go_sem, hc, hf, e3, bn, be, b0, b1, b2, b3, b4, b5, b6, b7]
      exact ⟨Below.refl _ _, rfl⟩
    refine gSt (gStep_run rfl ?_) ?_
    · intro ρ W hC hc hf hL
      have e31 : ρ (.tmp 31) = .agg #[.bool (n2), .int .i64 (eb), .int .u64 (dgl (b) 0 : Nat), .int .u64 (dgl (b) 1 : Nat), .int .u64 (dgl (b) 2 : Nat), .int .u64 (dgl (b) 3 : Nat), .int .u64 (dgl (b) 4 : Nat), .int .u64 (dgl (b) 5 : Nat), .int .u64 (dgl (b) 6 : Nat), .int .u64 (dgl (b) 7 : Nat)] := hL 31 (by decide +kernel)
      simp [go_sem, hc, hf, e31]
      refine (HO2.out W).mono ?_
      rintro e w' ⟨v, rfl, hv, hb⟩
      exact ⟨_, rfl, hb, hv⟩
    refine gSt (gStep_run rfl ?_) ?_
    · intro ρ W hC hc hf hL
      have b30 := hL 30 (by decide +kernel)
      have b32 := hL 32 (by decide +kernel)
      simp [go_sem, hc, hf]
      refine (HRC.out _ _ W b30 b32).mono ?_
      rintro e w' ⟨rfl, hb⟩
      exact ⟨_, rfl, by first | exact hb | (subst hb; exact Below.refl _ _), rfl⟩
    refine gSt (gStep_run rfl (gRun_move 33 6 (.inr rfl) rfl (by decide +kernel) (fun v w h => h))) ?_
    exact gSt0
  · intro W hC
    refine gFi 29 rfl ?_
    rintro _ rfl
    refine gFi 30 rfl ?_
    rintro u30 b30
    refine gFi 31 rfl ?_
    rintro _ rfl
    refine gFi 32 rfl ?_
    rintro u32 b32
    refine gFi 33 rfl ?_
    rintro _ rfl
    refine gFi 6 rfl ?_
    rintro _ rfl
    refine gFi0 ?_
    simp only [List.drop_succ_cons, List.drop_zero, Act.put, List.setIfInBounds_toArray, List.set_cons_succ, List.set_cons_zero]
    have HS := hide hC
    clear hC h1 b30 b32
    have hcc : (c == c) = true := beq_self_eq_true c
    have bn := HS.out.s.b.n
    have be := HS.out.s.b.e
    have b0 := HS.out.s.b.x0
    have b1 := HS.out.s.b.x1
    have b2 := HS.out.s.b.x2
    have b3 := HS.out.s.b.x3
    have b4 := HS.out.s.b.x4
    have b5 := HS.out.s.b.x5
    have b6 := HS.out.s.b.x6
    have b7 := HS.out.s.b.x7
    have an := HS.out.s.a.n
    have ae := HS.out.s.a.e
    have a0 := HS.out.s.a.x0
    have a1 := HS.out.s.a.x1
    have a2 := HS.out.s.a.x2
    have a3 := HS.out.s.a.x3
    have a4 := HS.out.s.a.x4
    have a5 := HS.out.s.a.x5
    have a6 := HS.out.s.a.x6
    have a7 := HS.out.s.a.x7
    go_wp2_with fail
    refine (HC2.out _).mono ?_
    rintro e w5 ⟨rfl, hb5⟩
    replace HS := hide (HS.out.below hb5)
    clear hb5 bn be b0 b1 b2 b3 b4 b5 b6 b7 an ae a0 a1 a2 a3 a4 a5 a6 a7
    have hc2 : (-c == -c) = true := beq_self_eq_true _
    have hw : IntKind.i64.wrap (-c) = -c := by rw [IntKind.wrap_i64]; omega
    have hc0 := HC0.out
    have an := HS.out.s.a.n
    have ae := HS.out.s.a.e
    have a0 := HS.out.s.a.x0
    have a1 := HS.out.s.a.x1
    have a2 := HS.out.s.a.x2
    have a3 := HS.out.s.a.x3
    have a4 := HS.out.s.a.x4
    have a5 := HS.out.s.a.x5
    have a6 := HS.out.s.a.x6
    have a7 := HS.out.s.a.x7
    have bn := HS.out.s.b.n
    have be := HS.out.s.b.e
    have b0 := HS.out.s.b.x0
    have b1 := HS.out.s.b.x1
    have b2 := HS.out.s.b.x2
    have b3 := HS.out.s.b.x3
    have b4 := HS.out.s.b.x4
    have b5 := HS.out.s.b.x5
    have b6 := HS.out.s.b.x6
    have b7 := HS.out.s.b.x7
    go_wp2_with fail
    refine (HSM.out _).mono ?_
    rintro e w6 ⟨rfl, hb6⟩
    replace HS := hide (HS.out.below hb6)
    clear hb6 an ae a0 a1 a2 a3 a4 a5 a6 a7 bn be b0 b1 b2 b3 b4 b5 b6 b7
    have an := HS.out.s.a.n
    have ae := HS.out.s.a.e
    have a0 := HS.out.s.a.x0
    have a1 := HS.out.s.a.x1
    have a2 := HS.out.s.a.x2
    have a3 := HS.out.s.a.x3
    have a4 := HS.out.s.a.x4
    have a5 := HS.out.s.a.x5
    have a6 := HS.out.s.a.x6
    have a7 := HS.out.s.a.x7
    have bn := HS.out.s.b.n
    have be := HS.out.s.b.e
    have b0 := HS.out.s.b.x0
    have b1 := HS.out.s.b.x1
    have b2 := HS.out.s.b.x2
    have b3 := HS.out.s.b.x3
    have b4 := HS.out.s.b.x4
    have b5 := HS.out.s.b.x5
    have b6 := HS.out.s.b.x6
    have b7 := HS.out.s.b.x7
    have an := HS.out.s.a.n
    have ae := HS.out.s.a.e
    have a0 := HS.out.s.a.x0
    have a1 := HS.out.s.a.x1
    have a2 := HS.out.s.a.x2
    have a3 := HS.out.s.a.x3
    have a4 := HS.out.s.a.x4
    have a5 := HS.out.s.a.x5
    have a6 := HS.out.s.a.x6
    have a7 := HS.out.s.a.x7
    go_wp2_with fail
    refine (HC3.out _).mono ?_
    rintro e w7 ⟨rfl, hb7⟩
    replace HS := hide (HS.out.below hb7)
    clear hb7 an ae a0 a1 a2 a3 a4 a5 a6 a7
    go_wp2_with fail
    refine (awake7_any _ HS.out.g).mono ?_
    rintro e w9 ⟨rfl, hb9⟩
    have HB := hide (below_trans HS.out.s.bel hb9)
    clear hb9 HS
    go_wp2
    go_ret
    exact ⟨rfl, HB.out⟩

theorem unpackCmp_all (n1 : Bool) (ea : Int) (a : Nat) (ha : a < QQ) (n2 : Bool) (eb : Int) (b : Nat) (hb : b < QQ) (w : World) (hg : FmtG w) :
    Calls Tryd.prog 9 #[.agg (#[.bool n1, .int .i64 ea] ++ #[.int .u64 (dgl (a) 0 : Nat), .int .u64 (dgl (a) 1 : Nat), .int .u64 (dgl (a) 2 : Nat), .int .u64 (dgl (a) 3 : Nat), .int .u64 (dgl (a) 4 : Nat), .int .u64 (dgl (a) 5 : Nat), .int .u64 (dgl (a) 6 : Nat), .int .u64 (dgl (a) 7 : Nat)]), .agg (#[.bool n2, .int .i64 eb] ++ #[.int .u64 (dgl (b) 0 : Nat), .int .u64 (dgl (b) 1 : Nat), .int .u64 (dgl (b) 2 : Nat), .int .u64 (dgl (b) 3 : Nat), .int .u64 (dgl (b) 4 : Nat), .int .u64 (dgl (b) 5 : Nat), .int .u64 (dgl (b) 6 : Nat), .int .u64 (dgl (b) 7 : Nat)])] w fun e w' => e = .returned (.bool true) ∧ Below w.heap.size w w' := by
  show Calls Tryd.prog 9 #[.agg #[.bool (n1), .int .i64 (ea), .int .u64 (dgl (a) 0 : Nat), .int .u64 (dgl (a) 1 : Nat), .int .u64 (dgl (a) 2 : Nat), .int .u64 (dgl (a) 3 : Nat), .int .u64 (dgl (a) 4 : Nat), .int .u64 (dgl (a) 5 : Nat), .int .u64 (dgl (a) 6 : Nat), .int .u64 (dgl (a) 7 : Nat)], .agg #[.bool (n2), .int .i64 (eb), .int .u64 (dgl (b) 0 : Nat), .int .u64 (dgl (b) 1 : Nat), .int .u64 (dgl (b) 2 : Nat), .int .u64 (dgl (b) 3 : Nat), .int .u64 (dgl (b) 4 : Nat), .int .u64 (dgl (b) 5 : Nat), .int .u64 (dgl (b) 6 : Nat), .int .u64 (dgl (b) 7 : Nat)]] w fun e w' => e = .returned (.bool true) ∧ Below w.heap.size w w'
  have R1 := fun w => refRight_any n1 ea a w
  have R2 := fun w => refRight_any n2 eb b w
  by_cases hra : rgt ea = true
  · by_cases hrb : rgt eb = true
    · have za := rgt_bd hra
      have zb := rgt_bd hrb
      rw [hra] at R1
      rw [hrb] at R2
      have C1 := fun w => ucmp_any n1 n2 ea eb a b ha hb hra hrb w
      have C2 := fun w => ucmp_any n2 n1 eb ea b a hb ha hrb hra w
      have C3 := fun w => ucmp_any n1 n1 ea ea a a ha ha hra hra w
      rw [cZ_neg] at C2
      rw [cZ_self] at C3
      have SM := fun w => usame_any n1 n2 ea eb a b ha hb hra hrb w
      have RC : ∀ u v w, NumV w u n1 ea a 40 → NumV w v n2 eb b 40 → _ := fun u v w hu hv => ref7Cmp_any n1 n2 ea eb a b u v w hu hv ha hb (by omega) (by omega)
      by_cases h0 : cZ n1 a ea n2 b eb = 0
      · exact unpackCmp_Y n1 n2 ea eb a b _ C1 R1 R2 (fun w => refOf7_any n1 ea a ha w) (fun w => refOf7_any n2 eb b hb w) RC C2 (cZ_bd n1 n2 a b ea eb) SM C3 (by unfold Hid; rw [beq_iff_eq]; exact h0) w hg
      · exact unpackCmp_X n1 n2 ea eb a b _ C1 R1 R2 (fun w => refOf7_any n1 ea a ha w) (fun w => refOf7_any n2 eb b hb w) RC C2 (cZ_bd n1 n2 a b ea eb) SM C3 (by unfold Hid; rw [beq_eq_false_iff_ne]; exact h0) w hg
    · have hrb2 : rgt eb = false := by simpa using hrb
      rw [hra] at R1
      rw [hrb2] at R2
      exact unpackCmp_N2 n1 n2 ea eb a b 0 (fun w => ucmp_no n1 n2 ea eb a b (by rw [hra, hrb2]; rfl) w) R1 R2 (fun w => usame_no n1 n2 ea eb a b (by rw [hra, hrb2]; rfl) w) w hg
  · have hra2 : rgt ea = false := by simpa using hra
    rw [hra2] at R1
    exact unpackCmp_N1 n1 n2 ea eb a b 0 (fun w => ucmp_no n1 n2 ea eb a b (by rw [hra2]; rfl) w) R1 (fun w => usame_no n1 n2 ea eb a b (by rw [hra2]; rfl) w) w hg

end Go.Proofs.YtidfegilddlglaaDoor

/- UnpackCmp: for any two numbers the law returns true. Conditions: those of the tied card (the table of formats is laid as the program lays it). -/
namespace Go.Proofs.YtidfegilddlglaaDoor.unpackCmp
open Go.ChangeShapes Go.WideShapes Go.ChangeAt Go.RowKit Go.Proofs.YtidfegilddlglaaDoor

theorem own : ownKnob Tryd.prog.godebug = none := by kernel_rfl
theorem laidOut : laidOutB Tryd.prog = true := by kernel_rfl

theorem door_met (os : Os) (args : Array Value) : laidMetH Tryd.prog [("radicand/format.formats", Rows.laid_radicand_format_formats)] ((World.doorLaid Tryd.prog 400 os).forCall (fun _ _ => 0) ⟨#[], args, []⟩).memory :=
  laidMetH_of_parts3 (fuel := 8) (laidMet_of_run' 8 (by kernel_rfl) (by kernel_rfl)) (by kernel_rfl) (by kernel_rfl)

set_option maxRecDepth 100000 in
theorem lifted (os : Os) (started : os.Started) (H : Type) (enc : TypeId × Value → H) :
    ReturnsInHanded {} Tryd.checked os 9 .any (fun w args => (Rows.unpackCmpSpec.pre enc Tryd.prog Tryd.f9 [] false w args ∧ laidMetH Tryd.prog [("radicand/format.formats", Rows.laid_radicand_format_formats)] w) ∧ sizedMet enc Tryd.prog Tryd.f9 (OpenSpec.ofChange Rows.unpackCmpSpec) false w args) (Rows.unpackCmpSpec.post enc Tryd.prog Tryd.f9 false true false false) := by
  refine returnsInHanded_of_change_and (C := Tryd.checked) (X := fun w _ => laidMetH Tryd.prog [("radicand/format.formats", Rows.laid_radicand_format_formats)] w) (fun _ _ _ hh h => h.of_heap hh) own started (by kernel_rfl) Tryd.func9
    (ChangeSpec.witness_shaped (enc := enc) (C := Tryd.checked) (os := os) (X := fun w _ => laidMetH Tryd.prog [("radicand/format.formats", Rows.laid_radicand_format_formats)] w) false (World.doorLaid Tryd.prog 400 os) #[.agg #[.bool false, .int .i64 0, .int .u64 0, .int .u64 0, .int .u64 0, .int .u64 0, .int .u64 0, .int .u64 0, .int .u64 0, .int .u64 0], .agg #[.bool false, .int .i64 0, .int .u64 0, .int .u64 0, .int .u64 0, .int .u64 0, .int .u64 0, .int .u64 0, .int .u64 0, .int .u64 0]] 40 rfl (World.shaped_of_RefB (by kernel_rfl) (by kernel_rfl)) (by kernel_rfl) (by kernel_rfl) (by kernel_rfl) (door_met os _)) ?_
  intro W base args ds gs before hval0 hW _ _ hL _
  have hval : ∀ (j : Nat) t v, Tryd.f9.params[j]? = some t → args[j]? = some v → Value.okWide Tryd.prog W .any base t v := hval0
  have hW' := hW
  obtain ⟨p, q, hA0, hV, rfl, hfz, hnd⟩ := hW
  have hA : DataW.TrodAll enc Tryd.prog W 0 (fun _ => true) true Tryd.f9.params.toList args.toList ds p := hA0
  rw [Tryd.params9] at hA hval
  obtain ⟨v0, vs0, d0, ds0, p0, q0, hargs, rfl, rfl, h0, r0⟩ := trodAll_cons hA
  obtain ⟨v1, vs1, d1, ds1, p1, q1, rfl, rfl, rfl, h1, r1⟩ := trodAll_cons r0
  obtain ⟨rfl, rfl, rfl⟩ := trodAll_nil r1
  obtain rfl : args = #[v0, v1] := by cases args; simp_all
  obtain ⟨rfl, rfl⟩ := trodVars_none hV
  have k0 := h0
  have lt0 : ∀ x ∈ p0, x.block < W.heap.size := by obtain ⟨m, hm⟩ := k0; exact DataW.trod_lt m _ _ _ hm
  have k1 := h1
  have lt1 : ∀ x ∈ p1, x.block < W.heap.size := by obtain ⟨m, hm⟩ := k1; exact DataW.trod_lt m _ _ _ hm
  obtain ⟨n0, z0, b0, hb0, rfl⟩ := number_open (hval 0 49 v0 rfl rfl) h0
  obtain ⟨n1, z1, b1, hb1, rfl⟩ := number_open (hval 1 49 v1 rfl rfl) h1
  clear hA0 hval0
  have hg := of_laid1 hL
  refine (unpackCmp_all n0 z0 b0 hb0.2 n1 z1 b1 hb1.2 W hg).mono fun e W' ⟨he, bel⟩ => ?_
  subst he
  exact ⟨_, rfl, _, _, _, [], _, [], hW', trodAll_mk1 (shut_bool Tryd.underlying4 _), (trodAll_cons_mk (Below.trod laidOut (by kernel_rfl) (of_decide_eq_true (by kernel_rfl)) k0 bel lt0) (trodAll_cons_mk (Below.trod laidOut (by kernel_rfl) (of_decide_eq_true (by kernel_rfl)) k1 bel lt1) trodAll_mk0)), rfl, bel.frame _, fun h => by cases h⟩

theorem over : Rows.unpackCmpRow.holds Tryd.pinned (OpenSpec.ofChange Rows.unpackCmpSpec) :=
  OpenClaim.holds_of_wide 9 Tryd.f9 rfl rfl rfl rfl rfl rfl rfl ⟨rfl, rfl, rfl, rfl, rfl⟩ rfl rfl rfl rfl rfl (by kernel_rfl) Tryd.func9 (by kernel_rfl)
    (of_decide_eq_true (by kernel_rfl)) (by unfold Func.isWrapper; first | (rw [if_pos (by decide +kernel)]; kernel_rfl) | (rw [if_neg (by decide +kernel)]; exact ⟨rfl, rfl⟩))
    (fun os started H enc _ => lifted os started H enc)

theorem proved : Rows.UnpackCmpCardSaid :=
  Claim7.holds_tied_plain_at .later [] [.data] true (true, "9d98287acc8507a5882954404ba6dd5c8d1129bdd2c779bce0d65498184581fc") false
    over (fun _ h => by cases h) (by kernel_rfl) (fun _ h => by cases h) unpackCmp_row_tie rfl ⟨rfl, rfl⟩ (by kernel_rfl) rfl
    (fun f fn hf hfn => by
      obtain rfl : f = 9 := Option.some.inj ((show Tryd.prog.funcNamed "radicand/radicandlaw07.UnpackCmp" = some 9 by kernel_rfl).symm.trans hf) |>.symm
      obtain rfl : fn = Tryd.f9 := (Option.some.inj (Tryd.func9.symm.trans hfn)).symm
      exact ⟨by kernel_rfl, fun j t ht => by
        rw [Tryd.params9] at ht
        rcases j with _ | j
        · obtain rfl : t = 49 := by simpa using ht.symm
          exact (show Tryd.prog.wantsStandIn 49 = false by kernel_rfl)
        rcases j with _ | j
        · obtain rfl : t = 49 := by simpa using ht.symm
          exact (show Tryd.prog.wantsStandIn 49 = false by kernel_rfl)
        simp at ht⟩)
    (by kernel_rfl)
#print axioms proved
end Go.Proofs.YtidfegilddlglaaDoor.unpackCmp

