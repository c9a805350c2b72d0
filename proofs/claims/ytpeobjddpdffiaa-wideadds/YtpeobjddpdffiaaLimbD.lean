/- Contracts: limb.Less, ref01.Same. -/
import Derived.Test.YtpeobjddpdffiaaLimbB
set_option linter.unusedVariables false
namespace Go.Proofs.Ytpeobjddpdffiaa
open Go.RowKit Plain

/-- The digit of 2^(64 k). -/
def dgl (n k : Nat) : Nat := n / 18446744073709551616 ^ k % 18446744073709551616
theorem dgl_lt (n k : Nat) : dgl n k < 18446744073709551616 := Nat.mod_lt _ (by decide)

theorem at_num (n k : Nat) (l : List Nat) (v : Value) (w : World) (i : Int) (hr : Rd mk64 w v l) (hd : Dig 18446744073709551616 l n) (hi : i = (k : Int)) :
    Calls Try.prog 67 #[v, .int .i64 i] w fun e w' => e = .returned (.int .u64 (dgl n k : Nat)) ∧ w' = w := by
  subst hi
  refine (at_any l v w hr k).mono ?_
  rintro e w' ⟨rfl, rfl⟩
  refine ⟨ret_int ?_, rfl⟩
  rw [if_neg (by omega), Int.toNat_natCast, hd.2]
  rfl

theorem less_eq {n m β : Nat} (h : n / β ^ 0 = m / β ^ 0) : decide (n < m) = false := by
  simp at h; simp [h]
theorem less_ne {n m β j : Nat} (h : n / β ^ (j + 1) = m / β ^ (j + 1)) (hd : n / β ^ j % β ≠ m / β ^ j % β) : decide (n < m) = decide (n / β ^ j % β < m / β ^ j % β) := by
  rcases Nat.lt_or_ge (n / β ^ j % β) (m / β ^ j % β) with h1 | h1
  · have := cmp_lt h h1
    unfold cmpN at this
    by_cases h2 : n < m
    · simp [h1, h2]
    · rw [if_neg h2] at this; split at this <;> omega
  · have := cmp_gt h (show m / β ^ j % β < n / β ^ j % β by omega)
    unfold cmpN at this
    by_cases h2 : n < m
    · rw [if_pos h2] at this; omega
    · simp [h2]; omega

set_option maxHeartbeats 400000 in
theorem less_any (n m : Nat) (la lb : List Nat) (va vb : Value) (w : World) (ha : Rd mk64 w va la) (hda : Dig 18446744073709551616 la n) (hb : Rd mk64 w vb lb) (hdb : Dig 18446744073709551616 lb m) :
    Calls Try.prog 23 #[va, vb] w fun e w' => e = .returned (.bool (decide (n < m))) ∧ w' = w := by
  have ha' := ha
  have hb' := hb
  obtain ⟨ao, ca, rfl, hca, hma, -⟩ := ha'
  obtain ⟨bo, cb, rfl, hcb, hmb, -⟩ := hb'
  unfold maxLen at hma hmb
  have HA := hide hda
  have HB := hide hdb
  have RA := hide ha
  have RB := hide hb
  clear ha hb hda hdb
  go_enter Try.func23, Try.ntmps23
  go_wp2
  all_goals
    go_loop [5] (fun i => ∃ k : Nat, k ≤ la.length + lb.length ∧ k ≤ 9223372036854775807 ∧ i = .int .i64 ((k : Int) - 1) ∧ n / 18446744073709551616 ^ k = m / 18446744073709551616 ^ k) (fun i => (intOf i + 1).toNat)
    case atStart => first
      | exact ⟨la.length, by omega, by omega, rfl, by rw [Plain.div_zero_of (by decide) HA.out.1 (Nat.le_refl _), Plain.div_zero_of (by decide) HB.out.1 (by omega)]⟩
      | exact ⟨lb.length, by omega, by omega, rfl, by rw [Plain.div_zero_of (by decide) HA.out.1 (by omega), Plain.div_zero_of (by decide) HB.out.1 (Nat.le_refl _)]⟩
    case round =>
      obtain ⟨k, hk, hk2, rfl, hz⟩ := hrel
      have HZ := hide hz
      clear hz
      by_cases h0 : k = 0
      · subst h0
        go_wp2
        go_ret
        exact ⟨ret_bool (less_eq HZ.out).symm, rfl⟩
      · obtain ⟨j, rfl⟩ : ∃ j, k = j + 1 := ⟨k - 1, by omega⟩
        by_cases hne : dgl n j = dgl m j
        · have hq : ((dgl n j : Int) != (dgl m j : Int)) = false := by simp [hne]
          have HNE := hide hne
          clear hne
          go_wp2_with (first
            | (go_at_call_of 67 (Value.slice ao la.length ca); refine (at_num n j la _ _ _ RA.out HA.out (by omega)).mono ?_; rintro e w' ⟨rfl, hw⟩; subst w')
            | (go_at_call_of 67 (Value.slice bo lb.length cb); refine (at_num m j lb _ _ _ RB.out HB.out (by omega)).mono ?_; rintro e w' ⟨rfl, hw⟩; subst w'))
          go_round
          case rel => exact ⟨j, by omega, by omega, by go_num, Plain.cmp_step HZ.out HNE.out⟩
          case measure => simp [intOf]
        · have hq : ((dgl n j : Int) != (dgl m j : Int)) = true := by simp; omega
          have HNE := hide hne
          clear hne
          go_wp2_with (first
            | (go_at_call_of 67 (Value.slice ao la.length ca); refine (at_num n j la _ _ _ RA.out HA.out (by omega)).mono ?_; rintro e w' ⟨rfl, hw⟩; subst w')
            | (go_at_call_of 67 (Value.slice bo lb.length cb); refine (at_num m j lb _ _ _ RB.out HB.out (by omega)).mono ?_; rintro e w' ⟨rfl, hw⟩; subst w'))
          go_ret
          exact ⟨ret_bool (by rw [less_ne HZ.out HNE.out]; simp [dgl]; exact decide_eq_decide.2 Iff.rfl), rfl⟩

set_option maxHeartbeats 400000 in
theorem same_any (la lb : List Nat) (va vb : Value) (w : World) (ha : Rd mk64 w va la) (hb : Rd mk64 w vb lb) :
    Calls Try.prog 29 #[va, vb] w fun e w' => e = .returned (.bool (decide (la = lb))) ∧ ∃ q, w' = w.drewN q := by
  obtain ⟨ao, ca, rfl, hca, hma, hra⟩ := ha
  obtain ⟨bo, cb, rfl, hcb, hmb, hrb⟩ := hb
  unfold maxLen at hma hmb
  have RA := hide hra
  have RB := hide hrb
  clear hra hrb
  by_cases hl : la.length = lb.length
  · have hq : ((la.length : Int) != (lb.length : Int)) = false := by simp [hl]
    have HL := hide hl
    clear hl
    go_enter Try.func29, Try.ntmps29
    go_wp2
    go_loopw [5] (fun i wr => ∃ k q : Nat, k ≤ la.length ∧ i = .int .i64 k ∧ wr = w.drewN q ∧ ∀ j, j < k → dg la j = dg lb j) (fun i _ => la.length - (intOf i).toNat)
    case atStart => exact ⟨0, 0, by omega, rfl, rfl, fun j hj => by omega⟩
    case round =>
      obtain ⟨k, q, hk, rfl, rfl, hz⟩ := hrel
      have HZ := hide hz
      clear hz
      by_cases hlt : k < la.length
      · rcases unhide RA with hc | ⟨b, off, rfl, hbl, hcell⟩
        · omega
        · rcases unhide RB with hc2 | ⟨b2, off2, rfl, hbl2, hcell2⟩
          · have := HL.out; omega
          · have c1 : w.cell? ⟨b, off + k, none⟩ = some (.int .u64 (dg la k : Nat)) := hcell k hlt
            have hlt2 : k < lb.length := by rw [← HL.out]; exact hlt
            have c2 : w.cell? ⟨b2, off2 + k, none⟩ = some (.int .u64 (dg lb k : Nat)) := hcell2 k hlt2
            have j1 : (k : Int) < (la.length : Int) := by omega
            have j2 : (k : Int) < (lb.length : Int) := by omega
            clear hcell hcell2
            by_cases hne : dg la k = dg lb k
            · have hq2 : ((dg la k : Int) != (dg lb k : Int)) = false := by simp [hne]
              have HNE := hide hne
              clear hne
              go_wp2
              go_quiet (fail)
              go_wp2
              go_roundw
              case rel => exact ⟨k + 1, _, by omega, by go_num, rfl, fun j hj => by
                by_cases h : j = k
                · rw [h]; exact HNE.out
                · exact HZ.out j (by omega)⟩
              case measure => simp [intOf]; omega
            · have hq2 : ((dg la k : Int) != (dg lb k : Int)) = true := by simp; omega
              have HNE := hide hne
              clear hne
              go_wp2
              go_quiet (fail)
              go_wp2
              go_ret
              exact ⟨ret_bool (by simp; intro h; exact HNE.out (by rw [h])), _, World.drewN_drewN w _ _⟩
      · go_wp2
        go_ret
        exact ⟨ret_bool (by
          symm
          simp only [decide_eq_true_eq]
          apply List.ext_getElem HL.out
          intro j h1 h2
          have := HZ.out j (by omega)
          simpa [dg, h1, h2] using this), _, rfl⟩
  · have hq : ((la.length : Int) != (lb.length : Int)) = true := by simp; omega
    have HL := hide hl
    clear hl
    go_enter Try.func29, Try.ntmps29
    go_wp2
    go_ret
    exact ⟨ret_bool (by simp; intro h; exact HL.out (by rw [h])), 0, rfl⟩

end Go.Proofs.Ytpeobjddpdffiaa
