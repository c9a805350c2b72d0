/- Contracts of radicandref01: Add. -/
import Derived.Test.YtenbomfoihajhaaRefA
set_option linter.unusedVariables false
set_option linter.unusedSimpArgs false
set_option maxRecDepth 8000
namespace Go.Proofs.Ytenbomfoihajhaa
open Go.RowKit

theorem info32 : (Try.prog.info? 84).map (fun i => (i.zero, i.size, i.bytes)) = some (some (.int .u32 0), 1, 4) := by kernel_rfl

theorem dgt_add (n m k : Nat) : ((Plain.carry BB n m k : Int) + (dgt n k : Int) + (dgt m k : Int)) % 4294967296 = (dgt (n + m) k : Int) := by
  have h := Plain.add_digit (n := n) (m := m) (k := k) (β := BB) (by decide)
  have e : (dgt (n + m) k : Int) = (((Plain.carry BB n m k + dgt n k + dgt m k) % 4294967296 : Nat) : Int) := congrArg _ h.symm
  rw [e]; omega
theorem cry_add (n m k : Nat) : ((Plain.carry BB n m k : Int) + (dgt n k : Int) + (dgt m k : Int)) / 4294967296 = (Plain.carry BB n m (k + 1) : Int) := by
  have h := Plain.add_carry (n := n) (m := m) (k := k) (β := BB) (by decide)
  have e : (Plain.carry BB n m (k + 1) : Int) = (((Plain.carry BB n m k + dgt n k + dgt m k) / 4294967296 : Nat) : Int) := congrArg _ h.symm
  rw [e]; omega

set_option maxHeartbeats 1000000 in
theorem refAdd_any (n m K L : Nat) (va vb : Value) (w : World) (ha : BigV w va n K) (hb : BigV w vb m L) (hK : K ≤ 1000000) (hL : L ≤ 1000000) :
    Calls Try.prog 52 #[va, vb] w fun e w' => ∃ v, e = .returned v ∧ BigV w' v (n + m) (max K L + 1) ∧ Below w.heap.size w w' := by
  have ha' := ha
  have hb' := hb
  obtain ⟨la, ⟨ao, ca, rfl, hca, hma, -⟩, hda, -, hka⟩ := ha'
  obtain ⟨lb, ⟨bo, cb, rfl, hcb, hmb, -⟩, hdb, -, hkb⟩ := hb'
  unfold maxLen at hma hmb
  have HA : Hid (n < BB ^ la.length) := hda.1
  have HB : Hid (m < BB ^ lb.length) := hdb.1
  clear hda hdb
  generalize la.length = na at *
  generalize lb.length = nb at *
  obtain ⟨i0, hi, hz0, hz1, hz2⟩ := info_parts info32
  rcases Nat.lt_or_ge na nb with hx | hx
  all_goals
    go_enter Try.func52, Try.ntmps52
    go_wp2
    go_loopw [5, 6, 7] (fun v c i wr => ∃ k : Nat, k ≤ max na nb + 1 ∧ i = .int .i64 k ∧ c = .int .u64 (Plain.carry BB n m k : Nat) ∧
        wr.ownsRow w.heap.size 84 1 v k ((Plain.dl BB (n + m) k).map mk32) ∧ Below w.heap.size w wr)
      (fun _ _ i _ => max na nb + 1 - (intOf i).toNat)
    case atStart => exact ⟨0, by omega, rfl, by rw [Plain.carry_zero]; rfl, World.ownsRow_nil _ _ _ _, Below.refl _ _⟩
    case round =>
      obtain ⟨k, hk, rfl, rfl, hown, hbel⟩ := hrel
      have ha1 := ha.below hbel
      have hb1 := hb.below hbel
      by_cases hlt : k ≤ max na nb
      · have b1 : Plain.carry BB n m k ≤ 1 := Plain.carry_le (by decide)
        have b2 := dgt_lt n k
        have b3 := dgt_lt m k
        have hsz := hbel.size
        go_wp2_with (first
          | (go_at_call 67; refine (digit_big _ _ k _ _ _ (by assumption) (by omega)).mono ?_; rintro e w' ⟨rfl, hw⟩; subst w')
          | (at_builtin; go_must (refine wpList_app1 w wr rfl _ _ 28 rfl w.heap.size 84 i0 (.int .u32 0) 4 Try.underlying28 hi hz0 hz1 hz2 rfl mk32 _ _ _ (by rfl) hown hbel _ (dgt (n + m) k) (congrArg (Value.int .u32) (dgt_add n m k)) rfl (by rfl) (by omega) (by omega) (by omega) ?_); intro v' w1 hown1 hbel1; clear hown hbel ha1 hb1 hsz))
        go_roundw
        case rel => exact ⟨k + 1, by omega, by go_num, congrArg (Value.int .u64) (cry_add n m k), by rw [Plain.dl_succ]; exact hown1, hbel1⟩
        case measure => simp [intOf]; omega
      · have hk : k = max na nb + 1 := by omega
        have hr := Rd.of_owns (l := Plain.dl BB (n + m) k) (by rw [Plain.dl_length]; exact hown)
        have hd := Plain.dl_dig BB (n + m) k (Plain.add_fits (by decide) HA.out HB.out (by omega) (by omega)) (by decide)
        have hl := Plain.dl_length BB (n + m) k
        have HK := hide hk
        clear hown ha1 hb1
        go_wp2_with (go_at_call 68; refine (trim_any _ _ (max K L + 1) _ _ hr hd (by omega)).mono ?_; rintro e w' ⟨v', rfl, hbig, hw⟩; subst w')
        go_ret
        exact ⟨_, rfl, hbig, hbel⟩

/-- The limbs l (of 64 bits) are the number n. -/
def LL : Nat := 18446744073709551616

theorem of_step (l : List Nat) (n k : Nat) (hd : Plain.Dig LL l n) : Plain.dl BB n (2 * (k + 1)) = Plain.dl BB n (2 * k) ++ [Plain.dg l k % 4294967296, Plain.dg l k / 4294967296] := by
  have e : 2 * (k + 1) = 2 * k + 1 + 1 := by omega
  have h := Plain.limb_digits BB n k
  rw [e, Plain.dl_succ, Plain.dl_succ, List.append_assoc, ← h.1, ← h.2, hd.2 k]
  rfl

set_option maxHeartbeats 1000000 in
theorem of_any (l : List Nat) (n : Nat) (va : Value) (w : World) (hr : Rd mk64 w va l) (hd : Plain.Dig LL l n) (hK : l.length ≤ 100000) :
    Calls Try.prog 72 #[va] w fun e w' => ∃ v, e = .returned v ∧ BigV w' v n (2 * l.length) ∧ Below w.heap.size w w' := by
  obtain ⟨ao, ca, rfl, hca, hma, hc⟩ := hr
  unfold maxLen at hma
  have HC := hide hc
  clear hc
  obtain ⟨i0, hi, hz0, hz1, hz2⟩ := info_parts info32
  go_enter Try.func72, Try.ntmps72
  go_wp2
  go_loopw [3, 4] (fun v i wr => ∃ k : Nat, k ≤ l.length ∧ i = .int .i64 k ∧
        wr.ownsRow w.heap.size 84 1 v (2 * k) ((Plain.dl BB n (2 * k)).map mk32) ∧ Below w.heap.size w wr)
      (fun _ i _ => l.length - (intOf i).toNat)
  case atStart => exact ⟨0, by omega, rfl, World.ownsRow_nil _ _ _ _, Below.refl _ _⟩
  case round =>
    obtain ⟨k, hk, rfl, hown, hbel⟩ := hrel
    by_cases hlt : k < l.length
    · rcases unhide HC with hc | ⟨b, off, rfl, hbl, hcell⟩
      · omega
      · have hck : wr.cell? ⟨b, off + k, none⟩ = some (.int .u64 (Plain.dg l k)) := (hbel.cell (p := ⟨b, off + k, none⟩) hbl).trans (hcell k hlt)
        have hb1 : Plain.dg l k < 18446744073709551616 := hd.lt (by decide) k
        have hsz := hbel.size
        have hi1 : (k : Int) < (l.length : Int) := by omega
        clear hcell
        have H2 : Hid ([Value.int .u32 (IntKind.u32.wrap (Plain.dg l k : Int)), Value.int .u32 (IntKind.u32.wrap ((Plain.dg l k : Int) / 4294967296))] = [Plain.dg l k % 4294967296, Plain.dg l k / 4294967296].map mk32) := by
          apply hide
          simp only [List.map_cons, List.map_nil, mk32, IntKind.wrap_u32]
          have e1 : (Plain.dg l k : Int) % 4294967296 = ((Plain.dg l k % 4294967296 : Nat) : Int) := by omega
          have e2 : (Plain.dg l k : Int) / 4294967296 % 4294967296 = ((Plain.dg l k / 4294967296 : Nat) : Int) := by omega
          rw [e1, e2]
        go_wp2
        go_region_law ((refine step_app w wr.drew rfl (.tmp 11) (.tmp 23) 28 rfl w.heap.size 84 i0 (.int .u32 0) 4 Try.underlying28 hi hz0 hz1 hz2 rfl mk32 _ _ _ (by rfl) (ownsRow_drew hown) hbel.drew _ _ (unhide H2) (fun _ => rfl) _ (by rfl) (by simp; omega) (by simp; omega) (by simp; omega) ?_; intro v' w1 hown1 hbel1; clear hown hbel hsz))
        all_goals
          have hown2 : w1.ownsRow w.heap.size 84 1 v' (2 * (k + 1)) ((Plain.dl BB n (2 * (k + 1))).map mk32) := by
            rw [of_step l n k hd]; exact hown1
          clear hown1
          go_wp2
          go_roundw
          case rel => exact ⟨k + 1, by omega, by go_num, hown2, hbel1⟩
          case measure => simp [intOf]; omega
    · have hk : k = l.length := by omega
      subst hk
      have hr := Rd.of_owns (l := Plain.dl BB n (2 * l.length)) (by rw [Plain.dl_length]; exact hown)
      have hd2 := Plain.dl_dig BB n (2 * l.length) (by rw [Nat.pow_mul]; exact hd.1) (by decide)
      have hl := Plain.dl_length BB n (2 * l.length)
      clear hown
      go_wp2_with (go_at_call 68; refine (trim_any _ _ (2 * l.length) _ _ hr hd2 (by omega)).mono ?_; rintro e w' ⟨v', rfl, hbig, hw⟩; subst w')
      go_ret
      exact ⟨_, rfl, hbig, hbel⟩

end Go.Proofs.Ytenbomfoihajhaa
