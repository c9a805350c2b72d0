/- Contracts of radicandref01: digit, trim. -/
import Derived.Test.YtenbomfoihajhaaView
import Derived.Test.YtenbomfoihajhaaPlain
set_option linter.unusedVariables false
set_option linter.unusedSimpArgs false
set_option maxRecDepth 8000
namespace Go.Proofs.Ytenbomfoihajhaa
open Go.RowKit

def digI (l : List Nat) (i : Int) : Int := if i < 0 then 0 else ((Plain.dg l i.toNat : Nat) : Int)

set_option maxHeartbeats 400000 in
theorem digit_any (l : List Nat) (v : Value) (w : World) (hr : Rd mk32 w v l) (hb : ∀ i, Plain.dg l i < 4294967296) (i : Int) :
    Calls Try.prog 67 #[v, .int .i64 i] w fun e w' => e = .returned (.int .u64 (digI l i)) ∧ w' = w := by
  obtain ⟨ao, cap, rfl, hc, hm, hr⟩ := hr
  unfold maxLen at hm
  by_cases h0 : i < 0
  · have HO : Hid (digI l i = 0) := by unfold Hid digI; rw [if_pos h0]
    clear hr hb
    go_enter Try.func67, Try.ntmps67
    go_wp2
    go_ret
    exact ⟨ret_int HO.out.symm, rfl⟩
  · obtain ⟨k, rfl⟩ := Int.eq_ofNat_of_zero_le (Int.not_lt.1 h0)
    by_cases h1 : k < l.length
    · rcases hr with hr | ⟨b, off, rfl, hlt, hcell⟩
      · omega
      · have hck := hcell k h1
        have hbk := hb k
        have HO : Hid (digI l k = ((Plain.dg l k : Nat) : Int)) := by unfold Hid digI; rw [if_neg h0]; simp
        unfold mk32 at hck
        generalize Plain.dg l k = d at *
        clear hcell hb hc
        go_enter Try.func67, Try.ntmps67
        go_wp2
        go_ret
        exact ⟨ret_int HO.out.symm, rfl⟩
    · have HO : Hid (digI l k = 0) := by unfold Hid digI; rw [if_neg h0, Int.toNat_natCast, Plain.getD_past l k (by omega)]; rfl
      clear hr hb
      go_enter Try.func67, Try.ntmps67
      go_wp2
      go_ret
      exact ⟨ret_int HO.out.symm, rfl⟩

set_option maxHeartbeats 400000 in
theorem trim_raw (l : List Nat) (ao : Option Addr) (cap : Nat) (w : World) (hr : Rd mk32 w (.slice ao l.length cap) l) :
    Calls Try.prog 68 #[.slice ao l.length cap] w fun e w' => ∃ k, k ≤ l.length ∧ e = .returned (.slice ao k cap) ∧ (∀ j, k ≤ j → Plain.dg l j = 0) ∧ (k = 0 ∨ Plain.dg l (k - 1) ≠ 0) ∧ w' = w := by
  obtain ⟨ao', cap', he, hc, hm, hr⟩ := hr
  simp only [Value.slice.injEq, true_and] at he
  obtain ⟨rfl, rfl⟩ := he
  unfold maxLen at hm
  have HR := hide hr
  clear hr
  go_enter Try.func68, Try.ntmps68
  go_wp2
  go_loop [3] (fun n => ∃ k : Nat, k ≤ l.length ∧ n = .int .i64 k ∧ ∀ j, k ≤ j → Plain.dg l j = 0) (fun n => (intOf n).toNat)
  case atStart => exact ⟨l.length, Nat.le_refl _, rfl, fun j hj => Plain.getD_past l j hj⟩
  case round =>
    obtain ⟨k, hk, rfl, hz⟩ := hrel
    have HZ := hide hz
    clear hz
    by_cases h0 : k = 0
    · subst h0
      go_wp2
      go_ret
      exact ⟨0, hk, rfl, unhide HZ, .inl rfl, rfl⟩
    · obtain ⟨m, rfl⟩ : ∃ m, k = m + 1 := ⟨k - 1, by omega⟩
      rcases unhide HR with hr | ⟨b, off, rfl, hlt, hcell⟩
      · omega
      · have hck := hcell m (by omega)
        unfold mk32 at hck
        clear hcell
        go_wp2
        · go_round
          case rel =>
            refine ⟨m, by omega, by go_num, fun j hj => ?_⟩
            rcases Nat.lt_or_ge m j with h1 | h1
            · exact unhide HZ j h1
            · have e : j = m := by omega
              subst e
              have hq : ((Plain.dg l j : Int) == 0) = true := by assumption
              simpa using hq
          case measure => simp [intOf]
        · go_ret
          have hq : ((Plain.dg l m : Int) == 0) = false := by assumption
          exact ⟨m + 1, hk, rfl, unhide HZ, .inr (by simpa using hq), rfl⟩

def BB : Nat := 4294967296

/-- The value v is the number n (radicandref01.Big), in at most K digits of 32 bits. -/
def BigV (w : World) (v : Value) (n K : Nat) : Prop := ∃ l, Rd mk32 w v l ∧ Plain.Dig BB l n ∧ Plain.Norm BB l n ∧ l.length ≤ K

theorem BigV.below {w w' : World} {v : Value} {n K : Nat} (h : BigV w v n K) (hb : Below w.heap.size w w') : BigV w' v n K := by
  obtain ⟨l, h1, h2⟩ := h; exact ⟨l, h1.below hb, h2⟩
theorem BigV.mono {w : World} {v : Value} {n K K' : Nat} (h : BigV w v n K) (hk : K ≤ K') : BigV w v n K' := by
  obtain ⟨l, h1, h2, h3, h4⟩ := h; exact ⟨l, h1, h2, h3, by omega⟩

theorem trim_any (l : List Nat) (n K : Nat) (v : Value) (w : World) (hr : Rd mk32 w v l) (hd : Plain.Dig BB l n) (hK : l.length ≤ K) :
    Calls Try.prog 68 #[v] w fun e w' => ∃ v', e = .returned v' ∧ BigV w v' n K ∧ w' = w := by
  have hr' := hr
  obtain ⟨ao, cap, rfl, -⟩ := hr'
  refine (trim_raw l ao cap w hr).mono ?_
  rintro e w' ⟨k, hk, rfl, hz, hn, rfl⟩
  refine ⟨_, rfl, ⟨l.take k, hr.take k hk, hd.cut (by decide) k hk hz, ?_, by simp; omega⟩, rfl⟩
  refine (hd.cut (by decide) k hk hz).norm (by decide) ?_
  rw [List.length_take, Nat.min_eq_left hk]
  rcases hn with hn | hn
  · exact .inl hn
  · by_cases h0 : k = 0
    · exact .inl h0
    · exact .inr (by rw [Plain.getD_take, if_pos (by omega)]; exact hn)

/-- The digit of BB^k. -/
def dgt (n k : Nat) : Nat := n / BB ^ k % BB
theorem dgt_lt (n k : Nat) : dgt n k < 4294967296 := Nat.mod_lt _ (by decide)

theorem digit_big (n K k : Nat) (v : Value) (w : World) (i : Int) (h : BigV w v n K) (hi : i = (k : Int)) :
    Calls Try.prog 67 #[v, .int .i64 i] w fun e w' => e = .returned (.int .u64 (dgt n k : Nat)) ∧ w' = w := by
  obtain ⟨l, hr, hd, _⟩ := h
  subst hi
  refine (digit_any l v w hr (fun i => hd.lt (by decide) i) k).mono ?_
  rintro e w' ⟨rfl, rfl⟩
  refine ⟨ret_int ?_, rfl⟩
  unfold digI dgt
  rw [if_neg (by omega), Int.toNat_natCast, hd.2]

set_option maxHeartbeats 400000 in
theorem cmp_any (n m K L : Nat) (va vb : Value) (w : World) (ha : BigV w va n K) (hb : BigV w vb m L) :
    Calls Try.prog 21 #[va, vb] w fun e w' => e = .returned (.int .i64 (Plain.cmpN n m)) ∧ w' = w := by
  have ha' := ha
  have hb' := hb
  obtain ⟨la, ⟨ao, ca, rfl, hca, hma, -⟩, hda, -⟩ := ha'
  obtain ⟨lb, ⟨bo, cb, rfl, hcb, hmb, -⟩, hdb, -⟩ := hb'
  unfold maxLen at hma hmb
  have HA : Hid (n < BB ^ la.length) := hda.1
  have HB : Hid (m < BB ^ lb.length) := hdb.1
  clear hda hdb
  generalize la.length = na at *
  generalize lb.length = nb at *
  go_enter Try.func21, Try.ntmps21
  go_wp2
  all_goals
    go_loop [5] (fun i => ∃ k : Nat, k ≤ na + nb ∧ k ≤ 9223372036854775807 ∧ i = .int .i64 ((k : Int) - 1) ∧ n / BB ^ k = m / BB ^ k) (fun i => (intOf i + 1).toNat)
    case atStart => first
      | exact ⟨na, by omega, by omega, rfl, by rw [Plain.div_zero_of (by decide) HA.out (Nat.le_refl _), Plain.div_zero_of (by decide) HB.out (by omega)]⟩
      | exact ⟨nb, by omega, by omega, rfl, by rw [Plain.div_zero_of (by decide) HA.out (by omega), Plain.div_zero_of (by decide) HB.out (Nat.le_refl _)]⟩
    case round =>
      obtain ⟨k, hk, hk2, rfl, hz⟩ := hrel
      have HZ := hide hz
      clear hz
      by_cases h0 : k = 0
      · subst h0
        go_wp2
        go_ret
        exact ⟨ret_int (Plain.cmp_eq HZ.out).symm, rfl⟩
      · obtain ⟨j, rfl⟩ : ∃ j, k = j + 1 := ⟨k - 1, by omega⟩
        go_wp2_with (go_at_call 67; refine (digit_big _ _ j _ _ _ (by assumption) (by omega)).mono ?_; rintro e w' ⟨rfl, rfl⟩)
        · go_ret
          have hq : dgt n j < dgt m j := by assumption
          exact ⟨ret_int (Plain.cmp_lt HZ.out hq).symm, rfl⟩
        · go_ret
          have hq : dgt m j < dgt n j := by assumption
          exact ⟨ret_int (Plain.cmp_gt HZ.out hq).symm, rfl⟩
        · go_round
          case rel =>
            have h1 : ¬ dgt m j < dgt n j := by assumption
            have h2 : ¬ dgt n j < dgt m j := by assumption
            exact ⟨j, by omega, by omega, by go_num, Plain.cmp_step HZ.out (by unfold dgt at h1 h2; omega)⟩
          case measure => simp [intOf]

end Go.Proofs.Ytenbomfoihajhaa
