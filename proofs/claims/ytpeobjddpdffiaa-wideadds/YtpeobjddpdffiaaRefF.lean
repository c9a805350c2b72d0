/- Contracts of radicandref01: Limbs. -/
import Derived.Test.YtpeobjddpdffiaaRefE
set_option linter.unusedVariables false
namespace Go.Proofs.Ytpeobjddpdffiaa
open Go.RowKit Plain

/-- What Limbs has behind i digits of N: as many limbs as are begun. -/
def LimInv (N i : Nat) (o : List Nat) : Prop := o.length = (i + 63) / 64 ∧ (∀ j, dg o j < 18446744073709551616) ∧ val 18446744073709551616 o = N % 2 ^ i

theorem limInv_zero (N : Nat) : LimInv N 0 [] := ⟨rfl, fun j => by simp [dg], by simp [val, Nat.mod_one]⟩

theorem limInv_push {N i : Nat} {o : List Nat} (h : LimInv N i o) (hi : i % 64 = 0) : (o ++ [0]).length = i / 64 + 1 ∧ (∀ j, dg (o ++ [0]) j < 18446744073709551616) ∧ val 18446744073709551616 (o ++ [0]) = N % 2 ^ i := by
  obtain ⟨h1, h2, h3⟩ := h
  refine ⟨by simp; omega, fun j => ?_, ?_⟩
  · rw [getD_snoc]; split
    · decide
    · exact h2 j
  · rw [val_append, h3]; simp [val]

/-- The limb that a digit goes to, ahead of it. -/
theorem lim_room {N i : Nat} {o : List Nat} (h1 : o.length = i / 64 + 1) (h2 : ∀ j, dg o j < 18446744073709551616) (h3 : val 18446744073709551616 o = N % 2 ^ i) : dg o (i / 64) < 2 ^ (i % 64) := by
  have hd := val_dig (β := 18446744073709551616) (by decide) o h2
  rw [h3] at hd
  rw [hd.2, LLpow]
  refine Nat.lt_of_le_of_lt (Nat.mod_le _ _) ?_
  rw [Nat.div_lt_iff_lt_mul (Nat.two_pow_pos _), ← Nat.pow_add]
  have : i % 64 + 64 * (i / 64) = i := by omega
  rw [this]
  exact Nat.mod_lt _ (Nat.two_pow_pos i)

theorem lim_keep {N i : Nat} {o : List Nat} (h1 : o.length = i / 64 + 1) (h2 : ∀ j, dg o j < 18446744073709551616) (h3 : val 18446744073709551616 o = N % 2 ^ i) (hb : N / 2 ^ i % 2 = 0) : LimInv N (i + 1) o := by
  refine ⟨by omega, h2, ?_⟩
  rw [Nat.pow_succ, Nat.mod_mul, hb, h3]; simp

theorem lim_set {N i : Nat} {o : List Nat} (h1 : o.length = i / 64 + 1) (h2 : ∀ j, dg o j < 18446744073709551616) (h3 : val 18446744073709551616 o = N % 2 ^ i) (hb : N / 2 ^ i % 2 = 1) :
    dg o (i / 64) + 2 ^ (i % 64) < 18446744073709551616 ∧ LimInv N (i + 1) (o.set (i / 64) (dg o (i / 64) + 2 ^ (i % 64))) := by
  have hr := lim_room h1 h2 h3
  have hp : 2 ^ (i % 64) ≤ 2 ^ 63 := Nat.pow_le_pow_right (by decide) (by omega)
  have hlt : dg o (i / 64) + 2 ^ (i % 64) < 18446744073709551616 := by
    have : (2 : Nat) ^ 63 = 9223372036854775808 := by decide
    omega
  refine ⟨hlt, by rw [List.length_set]; omega, fun j => ?_, ?_⟩
  · rw [dg_set _ _ _ _ (by omega)]; split
    · exact hlt
    · exact h2 j
  · have hs := val_set 18446744073709551616 o (i / 64) (dg o (i / 64) + 2 ^ (i % 64)) (by omega)
    rw [Nat.add_mul] at hs
    have e : 2 ^ (i % 64) * 18446744073709551616 ^ (i / 64) = 2 ^ i := by
      rw [LLpow, ← Nat.pow_add]; congr 1; omega
    rw [e, h3] at hs
    rw [Nat.pow_succ, Nat.mod_mul, hb]
    omega

theorem lim_end {N : Nat} {l o : List Nat} (h : LimInv N l.length o) (hd : Dig 2 l N) (hn : Norm 2 l N) : Dig 18446744073709551616 o N ∧ Norm 18446744073709551616 o N := by
  obtain ⟨h1, h2, h3⟩ := h
  have hv := val_dig (β := 18446744073709551616) (by decide) o h2
  rw [h3, Nat.mod_eq_of_lt hd.1] at hv
  refine ⟨hv, ?_⟩
  rcases hn with hn | hn
  · exact .inl (by omega)
  · by_cases h0 : l.length = 0
    · exact .inl (by omega)
    · refine .inr (Nat.le_trans ?_ hn)
      rw [LLpow]
      exact Nat.pow_le_pow_right (by decide) (by omega)

theorem shl_wrap (r : Nat) (hr : r < 64) : IntKind.u64.wrap ((2 : Int) ^ r) = ((2 ^ r : Nat) : Int) := by
  rw [IntKind.wrap_u64]
  have h1 : (2 : Int) ^ r = ((2 ^ r : Nat) : Int) := by rw [Int.natCast_pow]; rfl
  have h2 : 2 ^ r ≤ 2 ^ 63 := Nat.pow_le_pow_right (by decide) (by omega)
  have h3 : (2 : Nat) ^ 63 = 9223372036854775808 := by decide
  rw [h1]; generalize 2 ^ r = p at *; omega

set_option maxHeartbeats 4000000 in
theorem limbs_any (N K : Nat) (va : Value) (w : World) (ha : BitV w va N K) (hK : K ≤ 1000000) :
    Calls Try.prog 27 #[va] w fun e w' => ∃ v l, e = .returned v ∧ Rd mk64 w' v l ∧ Dig 18446744073709551616 l N ∧ Norm 18446744073709551616 l N ∧ Below w.heap.size w w' := by
  obtain ⟨l0, hr0, hd0, hn0, hl0⟩ := ha
  have HR0 := hide hr0
  have HD0 := hide hd0
  clear hr0 hd0 hn0
  obtain ⟨i0, hi, hz0, hz1, hz2⟩ := info_parts info64
  go_enter Try.func27, Try.ntmps27
  go_wp2_with fail
  refine (cut_any l0 N K _ _ HR0.out HD0.out hl0).mono ?_
  rintro e w' ⟨v, rfl, ⟨l, ⟨ao, ca, rfl, hca, hma, hra⟩, hd, hn, hl⟩, hw⟩
  subst w'
  unfold maxLen at hma
  have HN := hide hn
  have HD := hide hd
  have RA := hide hra
  clear hn hd hra
  go_wp2
  go_loopw [3, 4] (fun v i wr => ∃ (k : Nat) (o : List Nat), k ≤ l.length ∧ i = .int .i64 k ∧ Hid (LimInv N k o) ∧
        wr.ownsRow w.heap.size 22 1 v ((k + 63) / 64) (o.map mk64) ∧ Below w.heap.size w wr)
      (fun _ i _ => l.length - (intOf i).toNat)
  case atStart => exact ⟨0, [], by omega, rfl, limInv_zero N, World.ownsRow_nil _ _ _ _, Below.refl _ _⟩
  case round =>
    obtain ⟨i, o, hil, rfl, hinv, hown, hbel⟩ := hrel
    by_cases hlt : i < l.length
    · rcases unhide RA with hc | ⟨b, off, rfl, hbl, hcell⟩
      · omega
      · have HCI := hide (hcell i hlt)
        have hck : True := trivial
        have hdi := HD.out.2 i
        have hj1 : (i : Int) < (l.length : Int) := by omega
        have hsz := hbel.size
        clear hcell
        clear hck
        have hp1 : 2 ^ (i % 64) ≤ 9223372036854775808 := Nat.le_trans (Nat.pow_le_pow_right (by decide) (show i % 64 ≤ 63 by omega)) (by decide)
        obtain ⟨P, hP⟩ : ∃ P : Nat, P = 2 ^ (i % 64) := ⟨_, rfl⟩
        rw [← hP] at hp1
        have hPw : IntKind.u64.wrap ((2 : Int) ^ (i % 64)) = (P : Int) := by rw [hP]; exact shl_wrap _ (by omega)
        have HP := hide hP
        clear hP
        have hii : ((i : Int) / 64).toNat = i / 64 := by omega
        have hwi : IntKind.i64.wrap ((i : Int) / 64) = (i : Int) / 64 := by rw [IntKind.wrap_i64]; omega
        have hwm : (i : Int).tmod 64 = (i : Int) % 64 := Int.tmod_eq_emod_of_nonneg (by omega)
        have hwt : ((i : Int) % 64).toNat = i % 64 := by omega
        have hidx : 0 ≤ (i : Int) / 64 ∧ (i : Int) / 64 < (i : Int) / 64 + 1 := by omega
        by_cases hbit : N / 2 ^ i % 2 = 0
        all_goals
          by_cases hmod : i % 64 = 0
        · have hcb : w.cell? ⟨b, off + i, none⟩ = some (.bool false) := by rw [HCI.out, hdi, hbit]; rfl
          have HCB := hide hcb
          clear hcb hdi
          have HBIT := hide hbit
          clear hbit
          have hq : ((i : Int) % 64 == 0) = true := by rw [beq_iff_eq]; omega
          have e64 : (i + 63) / 64 = i / 64 := by omega
          rw [e64] at hown
          clear e64
          obtain ⟨p1, p2, p3⟩ := limInv_push hinv.out hmod
          have HL := hide p1
          have HL2 := hide p2
          have HL3 := hide p3
          clear p1 p2 p3
          clear hmod
          go_wp2_with (at_builtin; (refine wpList_app1 w wr rfl _ _ 33 rfl w.heap.size 22 i0 (.int .u64 0) 8 Try.underlying33 hi hz0 hz1 hz2 rfl mk64 _ _ _ (by rfl) hown hbel _ 0 rfl rfl (by rfl) (by omega) (by omega) (by omega) ?_); intro v' w1 hown1 hbel1; go_must (obtain ⟨g, cp, rfl, hg1, hg2, hg3⟩ := owns_form hown1 (by omega); have hck1 : w1.cell? ⟨b, off + i, none⟩ = some (.bool false) := (hbel1.cell (p := ⟨b, off + i, none⟩) hbl).trans HCB.out; have hco : w1.cell? ⟨g, i / 64, none⟩ = some (.int .u64 (dg (o ++ [0]) (i / 64) : Nat)) := owns_cell hown1 HL.out (i / 64) (by omega); have hfo : w1.frozen? ⟨g, i / 64, none⟩ = false := hown1.frozenAt _; have hlen : (i : Int) / 64 < (i : Int) / 64 + 1 := (by omega); clear hown hbel))
          go_roundw
          case rel => exact ⟨i + 1, _, by omega, by go_num, lim_keep HL.out HL2.out HL3.out HBIT.out, by rw [show (i + 1 + 63) / 64 = i / 64 + 1 by omega]; exact hown1, hbel1⟩
          case measure => simp [intOf]; omega
        · have hcb : w.cell? ⟨b, off + i, none⟩ = some (.bool false) := by rw [HCI.out, hdi, hbit]; rfl
          have HCB := hide hcb
          clear hcb hdi
          have HBIT := hide hbit
          clear hbit
          have hq : ((i : Int) % 64 == 0) = false := beq_eq_false_iff_ne.2 (by omega)
          have e64 : (i + 63) / 64 = i / 64 + 1 := by omega
          rw [e64] at hown
          have HL := hide (show o.length = i / 64 + 1 by rw [hinv.out.1]; exact e64)
          clear e64
          have HL2 := hide hinv.out.2.1
          have HL3 := hide hinv.out.2.2
          clear hmod
          obtain ⟨g, cp, rfl, hg1, hg2, hg3⟩ := owns_form hown (by omega)
          have hck1 : wr.cell? ⟨b, off + i, none⟩ = some (.bool false) := (hbel.cell (p := ⟨b, off + i, none⟩) hbl).trans HCB.out
          have hco : wr.cell? ⟨g, i / 64, none⟩ = some (.int .u64 (dg o (i / 64) : Nat)) := owns_cell hown HL.out (i / 64) (by omega)
          have hfo : wr.frozen? ⟨g, i / 64, none⟩ = false := hown.frozenAt _
          have hlen : (i : Int) / 64 < (i : Int) / 64 + 1 := (by omega)
          go_wp2
          go_roundw
          case rel => exact ⟨i + 1, _, by omega, by go_num, lim_keep HL.out HL2.out HL3.out HBIT.out, by rw [show (i + 1 + 63) / 64 = i / 64 + 1 by omega]; exact hown, hbel⟩
          case measure => simp [intOf]; omega
        · have hcb : w.cell? ⟨b, off + i, none⟩ = some (.bool true) := by rw [HCI.out, hdi, show N / 2 ^ i % 2 = 1 by omega]; rfl
          have HCB := hide hcb
          clear hcb hdi
          have HBIT := hide (show N / 2 ^ i % 2 = 1 by omega)
          clear hbit
          have hq : ((i : Int) % 64 == 0) = true := by rw [beq_iff_eq]; omega
          have e64 : (i + 63) / 64 = i / 64 := by omega
          rw [e64] at hown
          clear e64
          obtain ⟨p1, p2, p3⟩ := limInv_push hinv.out hmod
          have HL := hide p1
          have HL2 := hide p2
          have HL3 := hide p3
          clear p1 p2 p3
          clear hmod
          obtain ⟨y1, y2⟩ := lim_set HL.out HL2.out HL3.out HBIT.out
          rw [← HP.out] at y1 y2
          have Y1 := hide y1
          have Y2 := hide y2
          clear y2
          go_wp2_with (at_builtin; (refine wpList_app1 w wr rfl _ _ 33 rfl w.heap.size 22 i0 (.int .u64 0) 8 Try.underlying33 hi hz0 hz1 hz2 rfl mk64 _ _ _ (by rfl) hown hbel _ 0 rfl rfl (by rfl) (by omega) (by omega) (by omega) ?_); intro v' w1 hown1 hbel1; go_must (obtain ⟨g, cp, rfl, hg1, hg2, hg3⟩ := owns_form hown1 (by omega); have hck1 : w1.cell? ⟨b, off + i, none⟩ = some (.bool true) := (hbel1.cell (p := ⟨b, off + i, none⟩) hbl).trans HCB.out; have hco : w1.cell? ⟨g, i / 64, none⟩ = some (.int .u64 (dg (o ++ [0]) (i / 64) : Nat)) := owns_cell hown1 HL.out (i / 64) (by omega); have hfo : w1.frozen? ⟨g, i / 64, none⟩ = false := hown1.frozenAt _; have hlen : (i : Int) / 64 < (i : Int) / 64 + 1 := (by omega); clear hown hbel))
          refine wp_region_still_tail 13 mixedOk (by kernel_rfl) ?_
          simp only [List.take_succ_cons, List.take_zero, List.drop_succ_cons, List.drop_zero]
          change wpStill _ _ w1.drew _ _ _
          repeat still_step
          refine wpStill_nil ?_
          go_wp2
          go_roundw
          case rel =>
            have hs := owns_store (mk := mk64) hown1 (i / 64) (dg (o ++ [0]) (i / 64) + P) hbel1 hg1
            unfold mk64 at hs
            rw [Int.natCast_add] at hs
            exact ⟨i + 1, _, by omega, by go_num, Y2, by rw [show (i + 1 + 63) / 64 = i / 64 + 1 by omega]; exact ownsRow_drew hs.1, hs.2.drew⟩
          case measure => simp [intOf]; omega
        · have hcb : w.cell? ⟨b, off + i, none⟩ = some (.bool true) := by rw [HCI.out, hdi, show N / 2 ^ i % 2 = 1 by omega]; rfl
          have HCB := hide hcb
          clear hcb hdi
          have HBIT := hide (show N / 2 ^ i % 2 = 1 by omega)
          clear hbit
          have hq : ((i : Int) % 64 == 0) = false := beq_eq_false_iff_ne.2 (by omega)
          have e64 : (i + 63) / 64 = i / 64 + 1 := by omega
          rw [e64] at hown
          have HL := hide (show o.length = i / 64 + 1 by rw [hinv.out.1]; exact e64)
          clear e64
          have HL2 := hide hinv.out.2.1
          have HL3 := hide hinv.out.2.2
          clear hmod
          obtain ⟨y1, y2⟩ := lim_set HL.out HL2.out HL3.out HBIT.out
          rw [← HP.out] at y1 y2
          have Y1 := hide y1
          have Y2 := hide y2
          clear y2
          obtain ⟨g, cp, rfl, hg1, hg2, hg3⟩ := owns_form hown (by omega)
          have hck1 : wr.cell? ⟨b, off + i, none⟩ = some (.bool true) := (hbel.cell (p := ⟨b, off + i, none⟩) hbl).trans HCB.out
          have hco : wr.cell? ⟨g, i / 64, none⟩ = some (.int .u64 (dg o (i / 64) : Nat)) := owns_cell hown HL.out (i / 64) (by omega)
          have hfo : wr.frozen? ⟨g, i / 64, none⟩ = false := hown.frozenAt _
          have hlen : (i : Int) / 64 < (i : Int) / 64 + 1 := (by omega)
          go_wp2
          refine wp_region_still_tail 13 mixedOk (by kernel_rfl) ?_
          simp only [List.take_succ_cons, List.take_zero, List.drop_succ_cons, List.drop_zero]
          change wpStill _ _ wr.drew _ _ _
          repeat still_step
          refine wpStill_nil ?_
          go_wp2
          go_roundw
          case rel =>
            have hs := owns_store (mk := mk64) hown (i / 64) (dg o (i / 64) + P) hbel hg1
            unfold mk64 at hs
            rw [Int.natCast_add] at hs
            exact ⟨i + 1, _, by omega, by go_num, Y2, by rw [show (i + 1 + 63) / 64 = i / 64 + 1 by omega]; exact ownsRow_drew hs.1, hs.2.drew⟩
          case measure => simp [intOf]; omega
    · have hk : i = l.length := by omega
      subst hk
      obtain ⟨f1, f2⟩ := lim_end hinv.out HD.out HN.out
      have hr := Rd.of_owns (l := o) (mk := mk64) (by rw [hinv.out.1]; exact hown)
      have HF := hide (And.intro hr (And.intro f1 f2))
      clear hown f1 f2 hr
      go_wp2
      go_ret
      exact ⟨_, o, rfl, HF.out.1, HF.out.2.1, HF.out.2.2, hbel⟩

end Go.Proofs.Ytpeobjddpdffiaa
