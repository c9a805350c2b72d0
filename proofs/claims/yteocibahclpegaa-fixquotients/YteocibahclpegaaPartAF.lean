/- Contracts and laws: LimbB, LimbD. -/
import Derived.Test.YteocibahclpegaaPartAE
import Derived.Shelf.Abstract
/- Contracts of limb: at, list. -/
set_option linter.unusedVariables false
set_option linter.unusedSimpArgs false
set_option maxRecDepth 8000
namespace Go.Proofs.Yteocibahclpegaa
open Go.RowKit Plain

set_option maxHeartbeats 400000 in
theorem at_any (l : List Nat) (v : Value) (w : World) (hr : Rd mk64 w v l) (i : Int) :
    Calls Try.prog 104 #[v, .int .i64 i] w fun e w' => e = .returned (.int .u64 (if i < 0 then 0 else (dg l i.toNat : Nat))) ∧ w' = w := by
  obtain ⟨ao, cap, rfl, hc, hm, hr⟩ := hr
  unfold maxLen at hm
  by_cases h0 : i < 0
  · rw [if_pos h0]
    clear hr
    go_enter Try.func104, Try.ntmps104
    go_wp2
    go_ret
    exact ⟨rfl, rfl⟩
  · rw [if_neg h0]
    obtain ⟨k, rfl⟩ := Int.eq_ofNat_of_zero_le (Int.not_lt.1 h0)
    rw [Int.toNat_natCast]
    by_cases h1 : k < l.length
    · rcases hr with hr | ⟨b, off, rfl, hlt, hcell⟩
      · omega
      · have hck := hcell k h1
        unfold mk64 at hck
        clear hcell hc
        go_enter Try.func104, Try.ntmps104
        go_wp2
        go_ret
        exact ⟨rfl, rfl⟩
    · have HO : Hid (dg l k = 0) := getD_past l k (by omega)
      clear hr
      go_enter Try.func104, Try.ntmps104
      go_wp2
      go_ret
      exact ⟨ret_int (by rw [HO.out]; rfl), rfl⟩

end Go.Proofs.Yteocibahclpegaa

/- Contracts: limb.Less, ref01.Same. -/
set_option linter.unusedVariables false
set_option linter.unusedSimpArgs false
set_option maxRecDepth 8000
namespace Go.Proofs.Yteocibahclpegaa
open Go.RowKit Plain

/-- The digit of 2^(64 k). -/
def dgl (n k : Nat) : Nat := n / 18446744073709551616 ^ k % 18446744073709551616
theorem dgl_lt (n k : Nat) : dgl n k < 18446744073709551616 := Nat.mod_lt _ (by decide)

theorem at_num (n k : Nat) (l : List Nat) (v : Value) (w : World) (i : Int) (hr : Rd mk64 w v l) (hd : Dig 18446744073709551616 l n) (hi : i = (k : Int)) :
    Calls Try.prog 104 #[v, .int .i64 i] w fun e w' => e = .returned (.int .u64 (dgl n k : Nat)) ∧ w' = w := by
  subst hi
  refine (at_any l v w hr k).mono ?_
  rintro e w' ⟨rfl, rfl⟩
  refine ⟨ret_int ?_, rfl⟩
  rw [if_neg (by omega), Int.toNat_natCast, hd.2]
  rfl

theorem less_eq {n m β : Nat} (h : n / β ^ 0 = m / β ^ 0) : decide (n < m) = false := by
  simp at h; simp [h]
theorem less_ne {n m β j : Nat} (h : n / β ^ (j + 1) = m / β ^ (j + 1)) (hd : n / β ^ j % β ≠ m / β ^ j % β) : decide (n < m) = decide (n / β ^ j % β < m / β ^ j % β) := by
  rcases Nat.lt_or_ge (n / β ^ j % β) (m / β ^ j % β) with h1 | h1
  · have := cmp_lt h h1
    unfold cmpN at this
    by_cases h2 : n < m
    · simp [h1, h2]
    · rw [if_neg h2] at this; split at this <;> omega
  · have := cmp_gt h (show m / β ^ j % β < n / β ^ j % β by omega)
    unfold cmpN at this
    by_cases h2 : n < m
    · rw [if_pos h2] at this; omega
    · simp [h2]; omega

set_option maxHeartbeats 400000 in
theorem less_any (n m : Nat) (la lb : List Nat) (va vb : Value) (w : World) (ha : Rd mk64 w va la) (hda : Dig 18446744073709551616 la n) (hb : Rd mk64 w vb lb) (hdb : Dig 18446744073709551616 lb m) :
    Calls Try.prog 86 #[va, vb] w fun e w' => e = .returned (.bool (decide (n < m))) ∧ w' = w := by
  have ha' := ha
  have hb' := hb
  obtain ⟨ao, ca, rfl, hca, hma, -⟩ := ha'
  obtain ⟨bo, cb, rfl, hcb, hmb, -⟩ := hb'
  unfold maxLen at hma hmb
  have HA := hide hda
  have HB := hide hdb
  have RA := hide ha
  have RB := hide hb
  clear ha hb hda hdb
  go_enter Try.func86, Try.ntmps86
  go_wp2
  all_goals
    go_loop [5] (fun i => ∃ k : Nat, k ≤ la.length + lb.length ∧ k ≤ 9223372036854775807 ∧ i = .int .i64 ((k : Int) - 1) ∧ n / 18446744073709551616 ^ k = m / 18446744073709551616 ^ k) (fun i => (intOf i + 1).toNat)
    case atStart => first
      | exact ⟨la.length, by omega, by omega, rfl, by rw [Plain.div_zero_of (by decide) HA.out.1 (Nat.le_refl _), Plain.div_zero_of (by decide) HB.out.1 (by omega)]⟩
      | exact ⟨lb.length, by omega, by omega, rfl, by rw [Plain.div_zero_of (by decide) HA.out.1 (by omega), Plain.div_zero_of (by decide) HB.out.1 (Nat.le_refl _)]⟩
    case round =>
      obtain ⟨k, hk, hk2, rfl, hz⟩ := hrel
      have HZ := hide hz
      clear hz
      by_cases h0 : k = 0
      · subst h0
        go_wp2
        go_ret
        exact ⟨ret_bool (less_eq HZ.out).symm, rfl⟩
      · obtain ⟨j, rfl⟩ : ∃ j, k = j + 1 := ⟨k - 1, by omega⟩
        by_cases hne : dgl n j = dgl m j
        · have hq : ((dgl n j : Int) != (dgl m j : Int)) = false := by simp [hne]
          have HNE := hide hne
          clear hne
          go_wp2_with (first
            | (go_at_call_of 104 (Value.slice ao la.length ca); refine (at_num n j la _ _ _ RA.out HA.out (by omega)).mono ?_; rintro e w' ⟨rfl, hw⟩; subst w')
            | (go_at_call_of 104 (Value.slice bo lb.length cb); refine (at_num m j lb _ _ _ RB.out HB.out (by omega)).mono ?_; rintro e w' ⟨rfl, hw⟩; subst w'))
          go_round
          case rel => exact ⟨j, by omega, by omega, by go_num, Plain.cmp_step HZ.out HNE.out⟩
          case measure => simp [intOf]
        · have hq : ((dgl n j : Int) != (dgl m j : Int)) = true := by simp; omega
          have HNE := hide hne
          clear hne
          go_wp2_with (first
            | (go_at_call_of 104 (Value.slice ao la.length ca); refine (at_num n j la _ _ _ RA.out HA.out (by omega)).mono ?_; rintro e w' ⟨rfl, hw⟩; subst w')
            | (go_at_call_of 104 (Value.slice bo lb.length cb); refine (at_num m j lb _ _ _ RB.out HB.out (by omega)).mono ?_; rintro e w' ⟨rfl, hw⟩; subst w'))
          go_ret
          exact ⟨ret_bool (by rw [less_ne HZ.out HNE.out]; simp [dgl]; exact decide_eq_decide.2 Iff.rfl), rfl⟩

end Go.Proofs.Yteocibahclpegaa

