/- Contracts and laws: LimbC. -/
import Derived.Test.YteocibahclpegaaPartAF
import Derived.Shelf.Strconv.Itoa0
import Derived.Laws.MathBits
/- Contracts: bits.Len64, limb.Len. -/
set_option linter.unusedVariables false
set_option linter.unusedSimpArgs false
set_option maxRecDepth 8000
namespace Go.Proofs.Yteocibahclpegaa
open Go.RowKit Plain Go.Shelf

/-- The numbering of the shelf's body of bits.Len64 in this program. -/
def renLen : Ren := { f := fun n => if n = 129 then 96 else 0, t := fun n => if n = 46 then 34 else if n = 53 then 24 else n, g := fun n => n }

theorem laysLen : Lays.n129 Try.prog renLen where
  mixed := by kernel_rfl
  f129 := by kernel_rfl
  t3 := by kernel_rfl
  a3 := fun _ => by kernel_rfl
  z3 := fun _ => by kernel_rfl
  v3 := fun _ => by kernel_rfl
  t4 := by kernel_rfl
  a4 := fun _ => by kernel_rfl
  z4 := fun _ => by kernel_rfl
  v4 := fun _ => by kernel_rfl
  t5 := by kernel_rfl
  a5 := fun _ => by kernel_rfl
  z5 := fun _ => by kernel_rfl
  v5 := fun _ => by kernel_rfl
  t9 := by kernel_rfl
  a9 := fun _ => by kernel_rfl
  z9 := fun _ => by kernel_rfl
  v9 := fun _ => by kernel_rfl
  t46 := by kernel_rfl
  a46 := fun _ => by kernel_rfl
  z46 := fun _ => by kernel_rfl
  v46 := fun _ => by kernel_rfl
  t53 := by kernel_rfl
  a53 := fun _ => by kernel_rfl
  z53 := fun _ => by kernel_rfl
  v53 := fun _ => by kernel_rfl

theorem len64_any (x : Int) (w : World) (h0 : 0 ≤ x) (h1 : x ≤ 18446744073709551615) :
    Calls Try.prog 96 #[.int .u64 x] w fun e w' => e = .returned (.int .i64 (Lib.bitLen x.toNat)) ∧ w' = w :=
  Any.bits_Len64 laysLen x w h0 h1

theorem bitLen_half (x : Nat) (h : x ≠ 0) : Go.bitLen x = 1 + Go.bitLen (x / 2) := by
  by_cases h1 : x / 2 = 0
  · have : x = 1 := by omega
    subst this
    decide
  · have := bitLen_shift x 1 (by simpa using h1)
    simpa using this
theorem bitLenAux_eq : ∀ (f x : Nat), x < 2 ^ f → Lib.bitLenAux f x = Go.bitLen x
  | 0, x, h => by have : x = 0 := by simpa using h
                  subst this; rfl
  | f + 1, x, h => by
    unfold Lib.bitLenAux
    split
    · rename_i h0; rw [h0]; rfl
    · rename_i h0
      rw [bitLen_half x h0, bitLenAux_eq f (x / 2) (by rw [Nat.pow_succ] at h; omega)]
theorem lenDigits {n i d : Nat} (hd : n / 18446744073709551616 ^ i % 18446744073709551616 = d) (hd0 : d ≠ 0) (hn : n < 18446744073709551616 ^ (i + 1)) : Go.bitLen n = 64 * i + Go.bitLen d := by
  have hlt : n / 18446744073709551616 ^ i < 18446744073709551616 := by
    rw [Nat.div_lt_iff_lt_mul (Nat.pow_pos (by decide))]; rw [Nat.pow_succ, Nat.mul_comm] at hn; exact hn
  rw [Nat.mod_eq_of_lt hlt] at hd
  have e : (18446744073709551616 : Nat) ^ i = 2 ^ (64 * i) := by rw [Nat.pow_mul]
  rw [e] at hd
  rw [bitLen_shift n (64 * i) (by rw [hd]; exact hd0), hd]
theorem bitLen_le64 (d : Nat) (h : d < 18446744073709551616) : Go.bitLen d ≤ 64 := by
  unfold Go.bitLen
  split
  · omega
  · rename_i h0
    have := (Nat.log2_lt h0).2 (show d < 2 ^ 64 from h)
    omega

set_option maxHeartbeats 400000 in
theorem len_any (n : Nat) (la : List Nat) (va : Value) (w : World) (ha : Rd mk64 w va la) (hda : Dig 18446744073709551616 la n) (hK : la.length ≤ 1000000) :
    Calls Try.prog 74 #[va] w fun e w' => e = .returned (.int .i64 (Go.bitLen n : Nat)) ∧ w' = w := by
  obtain ⟨ao, ca, rfl, hca, hma, hra⟩ := ha
  unfold maxLen at hma
  have HD := hide hda
  have RA := hide hra
  clear hra hda
  go_enter Try.func74, Try.ntmps74
  go_wp2
  go_loop [3] (fun i => ∃ k : Nat, k ≤ la.length ∧ i = .int .i64 ((k : Int) - 1) ∧ n < 18446744073709551616 ^ k) (fun i => (intOf i + 1).toNat)
  case atStart => exact ⟨la.length, by omega, rfl, HD.out.1⟩
  case round =>
    obtain ⟨k, hk, rfl, hz⟩ := hrel
    have HZ := hide hz
    clear hz
    by_cases h0 : k = 0
    · subst h0
      go_wp2
      go_ret
      exact ⟨ret_int (by have := HZ.out; simp at this; rw [this]; rfl), rfl⟩
    · obtain ⟨j, rfl⟩ : ∃ j, k = j + 1 := ⟨k - 1, by omega⟩
      rcases unhide RA with hc | ⟨b, off, rfl, hbl, hcell⟩
      · omega
      · have c1 : w.cell? ⟨b, off + j, none⟩ = some (.int .u64 (dg la j : Nat)) := hcell j (by omega)
        have hdj := HD.out.2 j
        have HDJ := hide hdj
        have hb1 : dg la j < 18446744073709551616 := HD.out.lt (by decide) j
        clear hcell hdj
        by_cases hd : dg la j = 0
        · have hq : ((dg la j : Int) != 0) = false := by simp [hd]
          have HD0 := hide hd
          clear hd
          go_wp2
          go_round
          case rel => exact ⟨j, by omega, by go_num, lt_of_digit_zero (by decide) HZ.out (by rw [← HDJ.out]; exact HD0.out)⟩
          case measure => simp [intOf]
        · have hq : ((dg la j : Int) != 0) = true := by simp; omega
          have HD0 := hide hd
          clear hd
          have hbl : Lib.bitLen (dg la j) ≤ 64 := by
            unfold Lib.bitLen
            rw [bitLenAux_eq 64 _ hb1]; exact bitLen_le64 _ hb1
          go_wp2_with (go_at_call 96; refine (len64_any _ _ (by omega) (by omega)).mono ?_; rintro e w' ⟨rfl, hw⟩; subst w'; rw [Int.toNat_natCast])
          go_ret
          exact ⟨ret_int (by
            rw [lenDigits HDJ.out.symm HD0.out HZ.out]
            unfold Lib.bitLen
            rw [bitLenAux_eq 64 _ hb1]
            omega), rfl⟩

end Go.Proofs.Yteocibahclpegaa

