/- Contracts of radicandref01: Len, cut, Bits. -/
import Derived.Test.YtenbomfoihajhaaRefC
import Derived.Test.YtenbomfoihajhaaLimbI
import Derived.StillTailTactics
set_option linter.unusedVariables false
set_option linter.unusedSimpArgs false
set_option maxRecDepth 8000
namespace Go.Proofs.Ytenbomfoihajhaa
open Go.RowKit Plain

theorem lenBB {n i d : Nat} (hd : n / BB ^ i % BB = d) (hd0 : d ≠ 0) (hn : n < BB ^ (i + 1)) : Go.bitLen n = 32 * i + Go.bitLen d := by
  have hlt : n / BB ^ i < BB := by
    rw [Nat.div_lt_iff_lt_mul (Nat.pow_pos (by decide))]; rw [Nat.pow_succ, Nat.mul_comm] at hn; exact hn
  rw [Nat.mod_eq_of_lt hlt] at hd
  have e : BB ^ i = 2 ^ (32 * i) := by rw [Nat.pow_mul]; rfl
  rw [e] at hd
  rw [bitLen_shift n (32 * i) (by rw [hd]; exact hd0), hd]

theorem bitLen_le32 (d : Nat) (h : d < 4294967296) : Go.bitLen d ≤ 32 := by
  unfold Go.bitLen
  split
  · omega
  · rename_i h0
    have := (Nat.log2_lt h0).2 (show d < 2 ^ 32 from h)
    omega

set_option maxHeartbeats 1000000 in
theorem refLen_any (n K : Nat) (va : Value) (w : World) (ha : BigV w va n K) (hK : K ≤ 1000000) :
    Calls Try.prog 31 #[va] w fun e w' => e = .returned (.int .i64 (Go.bitLen n : Nat)) ∧ w' = w := by
  obtain ⟨l0, hr0, hd0, hn0, hl0⟩ := ha
  have HR0 := hide hr0
  have HD0 := hide hd0
  clear hr0 hd0 hn0
  go_enter Try.func31, Try.ntmps31
  go_wp2_with fail
  refine (trim_any l0 n K _ _ HR0.out HD0.out hl0).mono ?_
  rintro e w' ⟨v, rfl, ⟨l, ⟨ao, ca, rfl, hca, hma, hra⟩, hd, hn, hl⟩, hw⟩
  subst w'
  unfold maxLen at hma
  have HN := hide hn
  have HD := hide hd
  have RA := hide hra
  clear hn hd hra
  by_cases h0 : l.length = 0
  · have hq : ((l.length : Int) == 0) = true := by simp [h0]
    have H0 := hide h0
    clear h0
    go_wp2
    go_ret
    exact ⟨ret_int (by
      have := HD.out.1
      rw [H0.out] at this
      simp at this
      rw [this]; rfl), rfl⟩
  · have hq : ((l.length : Int) == 0) = false := beq_eq_false_iff_ne.2 (by omega)
    rcases unhide RA with hc | ⟨b, off, rfl, hbl, hcell⟩
    · omega
    · have c1 : w.cell? ⟨b, off + (l.length - 1), none⟩ = some (.int .u32 (dg l (l.length - 1) : Nat)) := hcell (l.length - 1) (by omega)
      have hb1 : dg l (l.length - 1) < 4294967296 := HD.out.lt (by decide) _
      have hdd := HD.out.2 (l.length - 1)
      have hd0 : dg l (l.length - 1) ≠ 0 := by
        have h1 := HN.out
        rcases h1 with h1 | h1
        · omega
        · intro hz
          rw [hdd] at hz
          have := lt_of_digit_zero (β := BB) (k := l.length - 1) (by decide) (by have := HD.out.1; rw [show l.length - 1 + 1 = l.length by omega]; exact this) hz
          omega
      have hlen := lenBB hdd.symm hd0 (by have := HD.out.1; rw [show l.length - 1 + 1 = l.length by omega]; exact this)
      have HLEN := hide hlen
      clear hcell hdd hlen
      generalize dg l (l.length - 1) = d0 at *
      obtain ⟨m, hm⟩ : ∃ m, l.length = m + 1 := ⟨l.length - 1, by omega⟩
      rw [hm] at c1 hca hl HLEN hq ⊢
      have H0 := hide h0
      have HMM := hide hm
      clear hm h0
      simp only [Nat.add_sub_cancel] at c1 HLEN
      have hidx : (m : Int) + 1 - 1 = (m : Int) := by omega
      have hbl0 := bitLen_le32 d0 hb1
      go_wp2
      go_loop [3, 4] (fun c d => ∃ cc x : Nat, c = .int .i64 cc ∧ d = .int .u32 x ∧ cc + Go.bitLen x = Go.bitLen d0 ∧ x < 4294967296) (fun _ d => (intOf d).toNat)
      case atStart => exact ⟨0, d0, rfl, rfl, by omega, hb1⟩
      case round =>
        obtain ⟨cc, x, rfl, rfl, hsum, hx⟩ := hrel
        have HS := hide hsum
        have hcc : cc ≤ 32 := by omega
        clear hsum
        by_cases hx0 : x = 0
        · subst hx0
          go_wp2
          go_ret
          exact ⟨ret_int (by
            rw [HLEN.out, ← HS.out]
            have : Go.bitLen 0 = 0 := rfl
            rw [this]; omega), rfl⟩
        · have hpos : 0 < x := by omega
          have HX := hide (bitLen_half x hx0)
          clear hx0
          go_wp2
          go_round
          case rel => exact ⟨cc + 1, x / 2, by go_num, by go_num, by have h1 := HX.out; have h2 := HS.out; omega, by omega⟩
          case measure => simp [intOf]; omega

/-- v reads as the binary digits of n, without noughts at the end; at most K. -/
def BitV (w : World) (v : Value) (n K : Nat) : Prop := ∃ l, Rd mkB w v l ∧ Dig 2 l n ∧ Norm 2 l n ∧ l.length ≤ K
theorem BitV.below {w w' : World} {v : Value} {n K : Nat} (h : BitV w v n K) (hb : Below w.heap.size w w') : BitV w' v n K := by
  obtain ⟨l, h1, h2⟩ := h; exact ⟨l, h1.below hb, h2⟩

theorem infoB : (Try.prog.info? 4).map (fun i => (i.zero, i.size, i.bytes)) = some (some (.bool false), 1, 1) := by kernel_rfl

theorem bits_step (l : List Nat) (n i k : Nat) (hd : Dig 18446744073709551616 l n) (hk : k < 64) : dg l i / 2 ^ k % 2 = n / 2 ^ (64 * i + k) % 2 := by
  have h := bit_val n (64 * i + k)
  rw [show (64 * i + k) / 64 = i by omega, show (64 * i + k) % 64 = k by omega] at h
  rw [hd.2 i]
  exact h

end Go.Proofs.Ytenbomfoihajhaa
