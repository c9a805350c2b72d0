/- Contracts of radicandref01: Len, cut, Bits. -/
import Derived.Test.YtpeobjddpdffiaaRefC
import Derived.Test.YtpeobjddpdffiaaLimbI
import Derived.StillTailTactics
set_option linter.unusedVariables false
namespace Go.Proofs.Ytpeobjddpdffiaa
open Go.RowKit Plain

theorem lenBB {n i d : Nat} (hd : n / BB ^ i % BB = d) (hd0 : d ≠ 0) (hn : n < BB ^ (i + 1)) : Go.bitLen n = 32 * i + Go.bitLen d := by
  have hlt : n / BB ^ i < BB := by
    rw [Nat.div_lt_iff_lt_mul (Nat.pow_pos (by decide))]; rw [Nat.pow_succ, Nat.mul_comm] at hn; exact hn
  rw [Nat.mod_eq_of_lt hlt] at hd
  have e : BB ^ i = 2 ^ (32 * i) := by rw [Nat.pow_mul]; rfl
  rw [e] at hd
  rw [bitLen_shift n (32 * i) (by rw [hd]; exact hd0), hd]

theorem bitLen_le32 (d : Nat) (h : d < 4294967296) : Go.bitLen d ≤ 32 := by
  unfold Go.bitLen
  split
  · omega
  · rename_i h0
    have := (Nat.log2_lt h0).2 (show d < 2 ^ 32 from h)
    omega

set_option maxHeartbeats 1000000 in
theorem refLen_any (n K : Nat) (va : Value) (w : World) (ha : BigV w va n K) (hK : K ≤ 1000000) :
    Calls Try.prog 25 #[va] w fun e w' => e = .returned (.int .i64 (Go.bitLen n : Nat)) ∧ w' = w := by
  obtain ⟨l0, hr0, hd0, hn0, hl0⟩ := ha
  have HR0 := hide hr0
  have HD0 := hide hd0
  clear hr0 hd0 hn0
  go_enter Try.func25, Try.ntmps25
  go_wp2_with fail
  refine (trim_any l0 n K _ _ HR0.out HD0.out hl0).mono ?_
  rintro e w' ⟨v, rfl, ⟨l, ⟨ao, ca, rfl, hca, hma, hra⟩, hd, hn, hl⟩, hw⟩
  subst w'
  unfold maxLen at hma
  have HN := hide hn
  have HD := hide hd
  have RA := hide hra
  clear hn hd hra
  by_cases h0 : l.length = 0
  · have hq : ((l.length : Int) == 0) = true := by simp [h0]
    have H0 := hide h0
    clear h0
    go_wp2
    go_ret
    exact ⟨ret_int (by
      have := HD.out.1
      rw [H0.out] at this
      simp at this
      rw [this]; rfl), rfl⟩
  · have hq : ((l.length : Int) == 0) = false := beq_eq_false_iff_ne.2 (by omega)
    rcases unhide RA with hc | ⟨b, off, rfl, hbl, hcell⟩
    · omega
    · have c1 : w.cell? ⟨b, off + (l.length - 1), none⟩ = some (.int .u32 (dg l (l.length - 1) : Nat)) := hcell (l.length - 1) (by omega)
      have hb1 : dg l (l.length - 1) < 4294967296 := HD.out.lt (by decide) _
      have hdd := HD.out.2 (l.length - 1)
      have hd0 : dg l (l.length - 1) ≠ 0 := by
        have h1 := HN.out
        rcases h1 with h1 | h1
        · omega
        · intro hz
          rw [hdd] at hz
          have := lt_of_digit_zero (β := BB) (k := l.length - 1) (by decide) (by have := HD.out.1; rw [show l.length - 1 + 1 = l.length by omega]; exact this) hz
          omega
      have hlen := lenBB hdd.symm hd0 (by have := HD.out.1; rw [show l.length - 1 + 1 = l.length by omega]; exact this)
      have HLEN := hide hlen
      clear hcell hdd hlen
      generalize dg l (l.length - 1) = d0 at *
      obtain ⟨m, hm⟩ : ∃ m, l.length = m + 1 := ⟨l.length - 1, by omega⟩
      rw [hm] at c1 hca hl HLEN hq ⊢
      have H0 := hide h0
      have HMM := hide hm
      clear hm h0
      simp only [Nat.add_sub_cancel] at c1 HLEN
      have hidx : (m : Int) + 1 - 1 = (m : Int) := by omega
      have hbl0 := bitLen_le32 d0 hb1
      go_wp2
      go_loop [3, 4] (fun c d => ∃ cc x : Nat, c = .int .i64 cc ∧ d = .int .u32 x ∧ cc + Go.bitLen x = Go.bitLen d0 ∧ x < 4294967296) (fun _ d => (intOf d).toNat)
      case atStart => exact ⟨0, d0, rfl, rfl, by omega, hb1⟩
      case round =>
        obtain ⟨cc, x, rfl, rfl, hsum, hx⟩ := hrel
        have HS := hide hsum
        have hcc : cc ≤ 32 := by omega
        clear hsum
        by_cases hx0 : x = 0
        · subst hx0
          go_wp2
          go_ret
          exact ⟨ret_int (by
            rw [HLEN.out, ← HS.out]
            have : Go.bitLen 0 = 0 := rfl
            rw [this]; omega), rfl⟩
        · have hpos : 0 < x := by omega
          have HX := hide (bitLen_half x hx0)
          clear hx0
          go_wp2
          go_round
          case rel => exact ⟨cc + 1, x / 2, by go_num, by go_num, by have h1 := HX.out; have h2 := HS.out; omega, by omega⟩
          case measure => simp [intOf]; omega

/-- v reads as the binary digits of n, without noughts at the end; at most K. -/
def BitV (w : World) (v : Value) (n K : Nat) : Prop := ∃ l, Rd mkB w v l ∧ Dig 2 l n ∧ Norm 2 l n ∧ l.length ≤ K
theorem BitV.below {w w' : World} {v : Value} {n K : Nat} (h : BitV w v n K) (hb : Below w.heap.size w w') : BitV w' v n K := by
  obtain ⟨l, h1, h2⟩ := h; exact ⟨l, h1.below hb, h2⟩

set_option maxHeartbeats 400000 in
theorem cut_raw (l : List Nat) (ao : Option Addr) (cap : Nat) (w : World) (hr : Rd mkB w (.slice ao l.length cap) l) (hlt2 : ∀ i, dg l i < 2) :
    Calls Try.prog 69 #[.slice ao l.length cap] w fun e w' => ∃ k, k ≤ l.length ∧ e = .returned (.slice ao k cap) ∧ (∀ j, k ≤ j → dg l j = 0) ∧ (k = 0 ∨ dg l (k - 1) ≠ 0) ∧ w' = w := by
  obtain ⟨ao', cap', he, hc, hm, hr⟩ := hr
  simp only [Value.slice.injEq, true_and] at he
  obtain ⟨rfl, rfl⟩ := he
  unfold maxLen at hm
  have HR := hide hr
  have H2 := hide hlt2
  clear hr hlt2
  go_enter Try.func69, Try.ntmps69
  go_wp2
  go_loop [3] (fun n => ∃ k : Nat, k ≤ l.length ∧ n = .int .i64 k ∧ ∀ j, k ≤ j → dg l j = 0) (fun n => (intOf n).toNat)
  case atStart => exact ⟨l.length, Nat.le_refl _, rfl, fun j hj => getD_past l j hj⟩
  case round =>
    obtain ⟨k, hk, rfl, hz⟩ := hrel
    have HZ := hide hz
    clear hz
    by_cases h0 : k = 0
    · subst h0
      go_wp2
      go_ret
      exact ⟨0, hk, rfl, unhide HZ, .inl rfl, rfl⟩
    · obtain ⟨m, rfl⟩ : ∃ m, k = m + 1 := ⟨k - 1, by omega⟩
      rcases unhide HR with hr | ⟨b, off, rfl, hlt, hcell⟩
      · omega
      · have hck := hcell m (by omega)
        have h2 := unhide H2 m
        clear hcell
        by_cases hd : dg l m = 0
        · have hcc : w.cell? ⟨b, off + m, none⟩ = some (.bool false) := by rw [hck, hd]; rfl
          have HD := hide hd
          clear hck hd
          go_wp2
          go_round
          case rel =>
            refine ⟨m, by omega, by go_num, fun j hj => ?_⟩
            rcases Nat.lt_or_ge m j with h1 | h1
            · exact unhide HZ j h1
            · have e : j = m := by omega
              rw [e]; exact HD.out
          case measure => simp [intOf]
        · have hcc : w.cell? ⟨b, off + m, none⟩ = some (.bool true) := by rw [hck, show dg l m = 1 by omega]; rfl
          have HD := hide hd
          clear hck hd
          go_wp2
          go_ret
          exact ⟨m + 1, hk, rfl, unhide HZ, .inr HD.out, rfl⟩

theorem cut_any (l : List Nat) (n K : Nat) (v : Value) (w : World) (hr : Rd mkB w v l) (hd : Dig 2 l n) (hK : l.length ≤ K) :
    Calls Try.prog 69 #[v] w fun e w' => ∃ v', e = .returned v' ∧ BitV w v' n K ∧ w' = w := by
  have hr' := hr
  obtain ⟨ao, cap, rfl, -⟩ := hr'
  refine (cut_raw l ao cap w hr (fun i => hd.lt (by decide) i)).mono ?_
  rintro e w' ⟨k, hk, rfl, hz, hn, rfl⟩
  refine ⟨_, rfl, ⟨l.take k, hr.take k hk, hd.cut (by decide) k hk hz, ?_, by simp; omega⟩, rfl⟩
  refine (hd.cut (by decide) k hk hz).norm (by decide) ?_
  rw [List.length_take, Nat.min_eq_left hk]
  rcases hn with hn | hn
  · exact .inl hn
  · by_cases h0 : k = 0
    · exact .inl h0
    · exact .inr (by rw [getD_take, if_pos (by omega)]; exact hn)

theorem infoB : (Try.prog.info? 4).map (fun i => (i.zero, i.size, i.bytes)) = some (some (.bool false), 1, 1) := by kernel_rfl

theorem bits_step (l : List Nat) (n i k : Nat) (hd : Dig 18446744073709551616 l n) (hk : k < 64) : dg l i / 2 ^ k % 2 = n / 2 ^ (64 * i + k) % 2 := by
  have h := bit_val n (64 * i + k)
  rw [show (64 * i + k) / 64 = i by omega, show (64 * i + k) % 64 = k by omega] at h
  rw [hd.2 i]
  exact h

set_option maxHeartbeats 2000000 in
theorem bits_any (l : List Nat) (n : Nat) (va : Value) (w : World) (hr : Rd mk64 w va l) (hd : Dig 18446744073709551616 l n) (hK : l.length ≤ 10000) :
    Calls Try.prog 26 #[va] w fun e w' => ∃ v, e = .returned v ∧ BitV w' v n (64 * l.length) ∧ Below w.heap.size w w' := by
  obtain ⟨ao, ca, rfl, hca, hma, hc⟩ := hr
  unfold maxLen at hma
  have HC := hide hc
  have HD := hide hd
  clear hc hd
  obtain ⟨i0, hi, hz0, hz1, hz2⟩ := info_parts infoB
  go_enter Try.func26, Try.ntmps26
  go_wp2
  go_loopw [3, 4] (fun v i wr => ∃ k : Nat, k ≤ l.length ∧ i = .int .i64 k ∧
        wr.ownsRow w.heap.size 4 1 v (64 * k) ((dl 2 n (64 * k)).map mkB) ∧ Below w.heap.size w wr)
      (fun _ i _ => l.length - (intOf i).toNat)
  case atStart => exact ⟨0, by omega, rfl, World.ownsRow_nil _ _ _ _, Below.refl _ _⟩
  case round =>
    obtain ⟨i, hi1, rfl, hown, hbel⟩ := hrel
    by_cases hlt : i < l.length
    · rcases unhide HC with hc | ⟨b, off, rfl, hbl, hcell⟩
      · omega
      · have HCI := hide (hcell i hlt)
        clear hcell
        go_wp2
        go_loopw [3, 5] (fun v k wr => ∃ kk : Nat, kk ≤ 64 ∧ k = .int .i64 kk ∧
            wr.ownsRow w.heap.size 4 1 v (64 * i + kk) ((dl 2 n (64 * i + kk)).map mkB) ∧ Below w.heap.size w wr)
          (fun _ k _ => 64 - (intOf k).toNat)
        case atStart => exact ⟨0, by omega, rfl, hown, hbel⟩
        case round =>
          clear hown hbel
          obtain ⟨k, hk, rfl, hown, hbel⟩ := hrel
          by_cases hlt2 : k < 64
          · have hck : wr.cell? ⟨b, off + i, none⟩ = some (.int .u64 (dg l i : Nat)) := (hbel.cell (p := ⟨b, off + i, none⟩) hbl).trans HCI.out
            have hb1 : dg l i < 18446744073709551616 := HD.out.lt (by decide) i
            have hsz := hbel.size
            have j1 : (i : Int) < (l.length : Int) := by omega
            obtain ⟨P, hP⟩ : ∃ P : Nat, P = 2 ^ k := ⟨_, rfl⟩
            have hPlt : P ≤ 9223372036854775808 := by rw [hP]; exact Nat.pow_le_pow_right (by decide) (show k ≤ 63 by omega)
            have hPpos : 0 < P := by rw [hP]; exact Nat.two_pow_pos k
            have hwr : IntKind.u64.wrap ((2 : Int) ^ k) = (P : Int) := by
              rw [IntKind.wrap_u64]
              have : (2 : Int) ^ k = (P : Int) := by rw [hP, Int.natCast_pow]; rfl
              rw [this]; omega
            have hPne : ¬ (P : Int) = 0 := by omega
            have hPne2 : ¬ P = 0 := by omega
            have HP := hide hP
            clear hP
            have hdiv : IntKind.u64.wrap ((dg l i : Int) / (P : Int)) = ((dg l i / P : Nat) : Int) := by
              rw [← Int.natCast_ediv, IntKind.wrap_u64]
              have : dg l i / P ≤ dg l i := Nat.div_le_self _ _
              generalize dg l i / P = q at *
              omega
            have HY : Hid (Value.bool (((dg l i : Int) / (P : Int)).tmod 2 == 1) = mkB (n / 2 ^ (64 * i + k) % 2)) := by
              apply hide
              rw [← bits_step l n i k HD.out hlt2, ← HP.out]
              unfold mkB
              congr 1
              rw [← Int.natCast_ediv, Bool.eq_iff_iff]
              simp only [beq_iff_eq]
              generalize dg l i / P = q at *
              rw [Int.tmod_eq_emod_of_nonneg (by omega)]
              omega
            go_wp2
            go_region_law ((refine step_app w wr.drew rfl (.tmp 16) (.tmp 26) 40 rfl w.heap.size 4 i0 (.bool false) 1 Try.underlying40 hi hz0 hz1 hz2 rfl mkB _ _ _ (by rfl) (ownsRow_drew hown) hbel.drew [_] [n / 2 ^ (64 * i + k) % 2] (congrArg (fun x => [x]) HY.out) (fun _ => rfl) _ (by rfl) (by simp; omega) (by simp; omega) (by simp; omega) ?_; intro v' w1 hown1 hbel1; clear hown hbel hsz hck))
            all_goals
              go_wp2
              go_roundw
              case rel => exact ⟨k + 1, by omega, by go_num, by rw [show 64 * i + (k + 1) = 64 * i + k + 1 by omega, dl_succ]; exact hown1, hbel1⟩
              case measure => simp [intOf]; omega
          · have hk2 : k = 64 := by omega
            subst hk2
            have hown2 : wr.ownsRow w.heap.size 4 1 u3 (64 * (i + 1)) ((dl 2 n (64 * (i + 1))).map mkB) := by
              rw [show 64 * (i + 1) = 64 * i + 64 by omega]; exact hown
            clear hown
            go_wp2
            go_roundw
            case rel => exact ⟨i + 1, by omega, by go_num, hown2, hbel⟩
            case measure => simp [intOf]; omega
    · have hk : i = l.length := by omega
      subst hk
      have hr := Rd.of_owns (l := dl 2 n (64 * l.length)) (by rw [dl_length]; exact hown)
      have hd2 := dl_dig 2 n (64 * l.length) (by rw [← LLpow]; exact HD.out.1) (by decide)
      have hl := dl_length 2 n (64 * l.length)
      clear hown
      have HL := hide hl
      have HD2 := hide hd2
      clear hl hd2
      go_wp2_with (go_at_call 69; refine (cut_any _ _ (64 * l.length) _ _ hr HD2.out (by rw [HL.out]; omega)).mono ?_; rintro e w' ⟨v', rfl, hbig, hw⟩; subst w')
      go_ret
      exact ⟨_, rfl, hbig, hbel⟩

end Go.Proofs.Ytpeobjddpdffiaa
