/- Contracts of radicandref01: Sub, Odd. -/
import Derived.Test.YtenbomfoihajhaaRefH
set_option linter.unusedVariables false
set_option linter.unusedSimpArgs false
set_option maxRecDepth 8000
namespace Go.Proofs.Ytenbomfoihajhaa
open Go.RowKit Plain

theorem subW_sub {β : Nat} (hβ : 0 < β) (K n m : Nat) (hn : n < β ^ K) (hm : m ≤ n) : subW β K n m = n - m := by
  have h := subW_eq hβ K n m
  have hl := subW_lt hβ K n m
  rw [Nat.mod_eq_of_lt hn, Nat.mod_eq_of_lt (Nat.lt_of_le_of_lt hm hn)] at h
  have hb := bor_le β n m K
  rcases (show bor β n m K = 0 ∨ bor β n m K = 1 by omega) with e | e
  · rw [e] at h; omega
  · rw [e] at h; omega

theorem sub_step (n m k : Nat) : ∃ X, X = dgt n k + 4294967296 - dgt m k - bor BB n m k ∧ dgt m k + bor BB n m k ≤ dgt n k + 4294967296 ∧ X % 4294967296 = sbd BB n m k ∧ 1 - X / 4294967296 = bor BB n m (k + 1) ∧ X < 8589934592 ∧ X / 4294967296 ≤ 1 := by
  obtain ⟨h1, h2⟩ := sbd_eq (β := BB) (by decide) n m k
  have hb := bor_le BB n m k
  have hb2 := bor_le BB n m (k + 1)
  have d0 := dgt_lt n k
  have d1 := dgt_lt m k
  have h2' : sbd BB n m k + (dgt m k + bor BB n m k) = dgt n k + 4294967296 * bor BB n m (k + 1) := h2
  have h1' : sbd BB n m k < 4294967296 := h1
  refine ⟨_, rfl, by omega, ?_, ?_, ?_, ?_⟩
  · rcases (show bor BB n m (k + 1) = 0 ∨ bor BB n m (k + 1) = 1 by omega) with e | e <;> rw [e] at h2' <;> omega
  · rcases (show bor BB n m (k + 1) = 0 ∨ bor BB n m (k + 1) = 1 by omega) with e | e <;> rw [e] at h2' ⊢ <;> omega
  · omega
  · omega

set_option maxHeartbeats 1000000 in
theorem refSub_any (n m K L : Nat) (va vb : Value) (w : World) (ha : BigV w va n K) (hb : BigV w vb m L) (hK : K ≤ 1000000) (hmn : m ≤ n) :
    Calls Try.prog 27 #[va, vb] w fun e w' => ∃ v, e = .returned v ∧ BigV w' v (n - m) K ∧ Below w.heap.size w w' := by
  have ha' := ha
  have hb' := hb
  obtain ⟨la, ⟨ao, ca, rfl, hca, hma, -⟩, hda, -, hka⟩ := ha'
  obtain ⟨lb, ⟨bo, cb, rfl, hcb, hmb, -⟩, hdb, -, hkb⟩ := hb'
  unfold maxLen at hma hmb
  have HSW := hide (subW_sub (β := BB) (by decide) la.length n m hda.1 hmn)
  have HN := hide hda.1
  clear hda hdb hmn
  generalize la.length = na at *
  generalize lb.length = nb at *
  obtain ⟨i0, hi, hz0, hz1, hz2⟩ := info_parts info32
  go_enter Try.func27, Try.ntmps27
  go_wp2
  go_loopw [5, 6, 7] (fun v c i wr => ∃ k : Nat, k ≤ na ∧ i = .int .i64 k ∧ c = .int .u64 (bor BB n m k : Nat) ∧
        wr.ownsRow w.heap.size 84 1 v k ((dl BB (n - m) k).map mk32) ∧ Below w.heap.size w wr)
      (fun _ _ i _ => na - (intOf i).toNat)
  case atStart => exact ⟨0, by omega, rfl, by rw [bor_zero]; rfl, World.ownsRow_nil _ _ _ _, Below.refl _ _⟩
  case round =>
    obtain ⟨k, hk, rfl, rfl, hown, hbel⟩ := hrel
    have ha1 := ha.below hbel
    have hb1 := hb.below hbel
    have hsz := hbel.size
    by_cases hlt : k < na
    · have hj : (k : Int) < (na : Int) := by omega
      have HDG := hide (subW_digit (β := BB) (by decide) na n m k hlt)
      rw [HSW.out] at HDG
      obtain ⟨X, hX, hXle, hXm, hXd, hXl, hXq⟩ := sub_step n m k
      rw [← HDG.out] at hXm
      have HXM := hide hXm
      have HXD := hide hXd
      clear hXm hXd
      have bc := bor_le BB n m k
      have d0 := dgt_lt n k
      have d1 := dgt_lt m k
      generalize bor BB n m k = c at *
      have hs1 : (dgt n k : Int) + 4294967296 - (dgt m k : Int) - (c : Int) = (X : Int) := by omega
      clear hX
      go_wp2_with (first
        | (go_at_call 67; refine (digit_big _ _ k _ _ _ (by assumption) (by omega)).mono ?_; rintro e w' ⟨rfl, hw⟩; subst w')
        | (at_builtin; go_must (refine wpList_app1 w wr rfl _ _ 28 rfl w.heap.size 84 i0 (.int .u32 0) 4 Try.underlying28 hi hz0 hz1 hz2 rfl mk32 _ _ _ (by rfl) hown hbel _ (X % 4294967296) (congrArg (Value.int .u32) (show (X : Int) % 4294967296 = ((X % 4294967296 : Nat) : Int) by omega)) rfl (by rfl) (by omega) (by omega) (by omega) ?_); intro v' w1 hown1 hbel1; clear hown hbel ha1 hb1 hsz))
      go_roundw
      case rel => exact ⟨k + 1, by omega, by go_num, congrArg (Value.int .u64) (by rw [← HXD.out]; omega), by rw [dl_succ, ← HXM.out]; exact hown1, hbel1⟩
      case measure => simp [intOf]; omega
    · have hj : ¬ (k : Int) < (na : Int) := by omega
      have hk : k = na := by omega
      subst hk
      have hr := Rd.of_owns (l := dl BB (n - m) k) (by rw [dl_length]; exact hown)
      have hd := dl_dig BB (n - m) k (Nat.lt_of_le_of_lt (Nat.sub_le _ _) HN.out) (by decide)
      have hl := dl_length BB (n - m) k
      clear hown ha1 hb1
      go_wp2_with (go_at_call 68; refine (trim_any _ _ K _ _ hr hd (by omega)).mono ?_; rintro e w' ⟨v', rfl, hbig, hw⟩; subst w')
      go_ret
      exact ⟨_, rfl, hbig, hbel⟩

theorem refOdd_any (n K : Nat) (va : Value) (w : World) (ha : BigV w va n K) :
    Calls Try.prog 25 #[va] w fun e w' => e = .returned (.bool (n % 2 == 1)) ∧ w' = w := by
  have hd := dgt_lt n 0
  have HE := hide (show dgt n 0 % 2 = n % 2 by unfold dgt BB; omega)
  have ha' := ha
  obtain ⟨la, ⟨ao, ca, rfl, hca, hma, -⟩, -⟩ := ha'
  go_enter Try.func25, Try.ntmps25
  go_wp2_with (go_at_call 67; refine (digit_big n _ 0 _ _ _ ha rfl).mono ?_; rintro e w' ⟨rfl, hw⟩; subst w')
  go_ret
  refine ⟨congrArg (fun b => Ending.returned (.bool b)) ?_, rfl⟩
  rw [← HE.out, Bool.eq_iff_iff]
  simp
  omega

end Go.Proofs.Ytenbomfoihajhaa
