/- For all words the law radicandlaw17.RomGuesses returns true and leaves what came in as it was. No condition. -/
import Derived.Test.YteocibahclpegaaPartAR
import Derived.Test.YteocibahclpegaaRows
import Derived.Test.YteocibahclpegaaPartAT
import Derived.WalkKit
import Derived.ProofKit
import Derived.OpenShut
import Derived.ShutString
import Derived.ChangeOld
import Derived.Below
/- For all words the law radicandlaw17.RomGuesses returns true: the numbers. -/
set_option linter.unusedVariables false
set_option linter.unusedSimpArgs false
set_option maxRecDepth 8000
namespace Go.Proofs.Yteocibahclpegaa
open Go.RowKit Plain

theorem dgl_cons0 {a m : Nat} (ha : a < 18446744073709551616) : dgl (a + 18446744073709551616 * m) 0 = a := by
  unfold dgl
  rw [Nat.pow_zero, Nat.div_one, Nat.add_mul_mod_self_left, Nat.mod_eq_of_lt ha]
theorem dgl_cons {a m : Nat} (i : Nat) (ha : a < 18446744073709551616) : dgl (a + 18446744073709551616 * m) (i + 1) = dgl m i := by
  unfold dgl
  rw [Nat.pow_succ, Nat.mul_comm (18446744073709551616 ^ i), ← Nat.div_div_eq_div_mul, Nat.add_mul_div_left _ _ (by decide), Nat.div_eq_of_lt ha, Nat.zero_add]
theorem w8_of {N : Nat} {a b c d e : Nat} (h0 : dgl N 0 = a) (h1 : dgl N 1 = b) (h2 : dgl N 2 = c) (h3 : dgl N 3 = d) (h4 : dgl N 4 = e) (h5 : dgl N 5 = 0) (h6 : dgl N 6 = 0) (h7 : dgl N 7 = 0) :
    (#[.int .u64 (dgl (N) 0 : Nat), .int .u64 (dgl (N) 1 : Nat), .int .u64 (dgl (N) 2 : Nat), .int .u64 (dgl (N) 3 : Nat), .int .u64 (dgl (N) 4 : Nat), .int .u64 (dgl (N) 5 : Nat), .int .u64 (dgl (N) 6 : Nat), .int .u64 (dgl (N) 7 : Nat)] : Array Value) = #[.int .u64 (a : Nat), .int .u64 (b : Nat), .int .u64 (c : Nat), .int .u64 (d : Nat), .int .u64 (e : Nat), .int .u64 0, .int .u64 0, .int .u64 0] := by
  rw [h0, h1, h2, h3, h4, h5, h6, h7]
  rfl
section
variable {a b c d : Nat} (ha : a < 18446744073709551616) (hb : b < 18446744073709551616) (hc : c < 18446744073709551616) (hd : d < 18446744073709551616)
include ha hb in
theorem w8_pair : (#[.int .u64 (dgl (a + 18446744073709551616 * b) 0 : Nat), .int .u64 (dgl (a + 18446744073709551616 * b) 1 : Nat), .int .u64 (dgl (a + 18446744073709551616 * b) 2 : Nat), .int .u64 (dgl (a + 18446744073709551616 * b) 3 : Nat), .int .u64 (dgl (a + 18446744073709551616 * b) 4 : Nat), .int .u64 (dgl (a + 18446744073709551616 * b) 5 : Nat), .int .u64 (dgl (a + 18446744073709551616 * b) 6 : Nat), .int .u64 (dgl (a + 18446744073709551616 * b) 7 : Nat)] : Array Value) = #[.int .u64 (a : Nat), .int .u64 (b : Nat), .int .u64 0, .int .u64 0, .int .u64 0, .int .u64 0, .int .u64 0, .int .u64 0] :=
  w8_of (dgl_cons0 ha) ((dgl_cons 0 ha).trans (dgl_low0 hb)) ((dgl_cons 1 ha).trans (dgl_high0 hb (by decide))) ((dgl_cons 2 ha).trans (dgl_high0 hb (by decide))) ((dgl_cons 3 ha).trans (dgl_high0 hb (by decide))) ((dgl_cons 4 ha).trans (dgl_high0 hb (by decide))) ((dgl_cons 5 ha).trans (dgl_high0 hb (by decide))) ((dgl_cons 6 ha).trans (dgl_high0 hb (by decide)))
include ha hb hc in
theorem w8_three : (#[.int .u64 (dgl (a + 18446744073709551616 * (b + 18446744073709551616 * c)) 0 : Nat), .int .u64 (dgl (a + 18446744073709551616 * (b + 18446744073709551616 * c)) 1 : Nat), .int .u64 (dgl (a + 18446744073709551616 * (b + 18446744073709551616 * c)) 2 : Nat), .int .u64 (dgl (a + 18446744073709551616 * (b + 18446744073709551616 * c)) 3 : Nat), .int .u64 (dgl (a + 18446744073709551616 * (b + 18446744073709551616 * c)) 4 : Nat), .int .u64 (dgl (a + 18446744073709551616 * (b + 18446744073709551616 * c)) 5 : Nat), .int .u64 (dgl (a + 18446744073709551616 * (b + 18446744073709551616 * c)) 6 : Nat), .int .u64 (dgl (a + 18446744073709551616 * (b + 18446744073709551616 * c)) 7 : Nat)] : Array Value) = #[.int .u64 (a : Nat), .int .u64 (b : Nat), .int .u64 (c : Nat), .int .u64 0, .int .u64 0, .int .u64 0, .int .u64 0, .int .u64 0] :=
  w8_of (dgl_cons0 ha) ((dgl_cons 0 ha).trans (dgl_cons0 hb)) ((dgl_cons 1 ha).trans ((dgl_cons 0 hb).trans (dgl_low0 hc))) ((dgl_cons 2 ha).trans ((dgl_cons 1 hb).trans (dgl_high0 hc (by decide)))) ((dgl_cons 3 ha).trans ((dgl_cons 2 hb).trans (dgl_high0 hc (by decide)))) ((dgl_cons 4 ha).trans ((dgl_cons 3 hb).trans (dgl_high0 hc (by decide)))) ((dgl_cons 5 ha).trans ((dgl_cons 4 hb).trans (dgl_high0 hc (by decide)))) ((dgl_cons 6 ha).trans ((dgl_cons 5 hb).trans (dgl_high0 hc (by decide))))
include ha hb hc hd in
theorem w8_four : (#[.int .u64 (dgl (a + 18446744073709551616 * (b + 18446744073709551616 * (c + 18446744073709551616 * d))) 0 : Nat), .int .u64 (dgl (a + 18446744073709551616 * (b + 18446744073709551616 * (c + 18446744073709551616 * d))) 1 : Nat), .int .u64 (dgl (a + 18446744073709551616 * (b + 18446744073709551616 * (c + 18446744073709551616 * d))) 2 : Nat), .int .u64 (dgl (a + 18446744073709551616 * (b + 18446744073709551616 * (c + 18446744073709551616 * d))) 3 : Nat), .int .u64 (dgl (a + 18446744073709551616 * (b + 18446744073709551616 * (c + 18446744073709551616 * d))) 4 : Nat), .int .u64 (dgl (a + 18446744073709551616 * (b + 18446744073709551616 * (c + 18446744073709551616 * d))) 5 : Nat), .int .u64 (dgl (a + 18446744073709551616 * (b + 18446744073709551616 * (c + 18446744073709551616 * d))) 6 : Nat), .int .u64 (dgl (a + 18446744073709551616 * (b + 18446744073709551616 * (c + 18446744073709551616 * d))) 7 : Nat)] : Array Value) = #[.int .u64 (a : Nat), .int .u64 (b : Nat), .int .u64 (c : Nat), .int .u64 (d : Nat), .int .u64 0, .int .u64 0, .int .u64 0, .int .u64 0] :=
  w8_of (dgl_cons0 ha) ((dgl_cons 0 ha).trans (dgl_cons0 hb)) ((dgl_cons 1 ha).trans ((dgl_cons 0 hb).trans (dgl_cons0 hc))) ((dgl_cons 2 ha).trans ((dgl_cons 1 hb).trans ((dgl_cons 0 hc).trans (dgl_low0 hd)))) ((dgl_cons 3 ha).trans ((dgl_cons 2 hb).trans ((dgl_cons 1 hc).trans (dgl_high0 hd (by decide))))) ((dgl_cons 4 ha).trans ((dgl_cons 3 hb).trans ((dgl_cons 2 hc).trans (dgl_high0 hd (by decide))))) ((dgl_cons 5 ha).trans ((dgl_cons 4 hb).trans ((dgl_cons 3 hc).trans (dgl_high0 hd (by decide))))) ((dgl_cons 6 ha).trans ((dgl_cons 5 hb).trans ((dgl_cons 4 hc).trans (dgl_high0 hd (by decide)))))
end
theorem cmp_le {a b : Nat} (h : a ≤ b) : decide (0 < cmpN a b) = false := by
  refine decide_eq_false ?_
  unfold cmpN
  split
  · decide
  · rw [if_neg (by omega)]
    decide
theorem cmp_ge {a b : Nat} (h : b ≤ a) : decide (cmpN a b < 0) = false := by
  refine decide_eq_false ?_
  unfold cmpN
  rw [if_neg (by omega)]
  split <;> decide
/-- A number's length, by where it lies. -/
theorem bitLen_is {D k : Nat} (h1 : 2 ^ k ≤ D) (h2 : D < 2 ^ (k + 1)) : Go.bitLen D = k + 1 := by
  have a := (bitLen_above D k).2 h1
  have b : ¬ k + 1 < Go.bitLen D := fun h => absurd ((bitLen_above D (k + 1)).1 h) (Nat.not_le.2 h2)
  omega
theorem bitLen_isnt {D k : Nat} (h1 : D < 2 ^ k) : Go.bitLen D ≤ k := by
  have b : ¬ k < Go.bitLen D := fun h => absurd ((bitLen_above D k).1 h) (Nat.not_le.2 h1)
  omega
/-- The number of a word: where the table has a guess for it. -/
theorem gI_big {xl xh : Nat} (hl : xl < 18446744073709551616) (hh : xh < 18446744073709551616) (h : 9223372036854775808 ≤ xh) :
    gI (xl + 18446744073709551616 * xh) = ((xh / 2 ^ 57 : Nat) : Int) - 64 ∧ 64 ≤ xh / 2 ^ 57 ∧ xh / 2 ^ 57 < 128 ∧ xh / 2 ^ 57 * 2 ^ 121 ≤ xl + 18446744073709551616 * xh ∧ xl + 18446744073709551616 * xh < (xh / 2 ^ 57 + 1) * 2 ^ 121 := by
  have e127 : (2 : Nat) ^ 127 = 18446744073709551616 * 9223372036854775808 := by decide +kernel
  have e128 : (2 : Nat) ^ 128 = 18446744073709551616 * 18446744073709551616 := by decide +kernel
  have e121 : (2 : Nat) ^ 121 = 18446744073709551616 * 2 ^ 57 := by decide +kernel
  have e57 : (2 : Nat) ^ 57 = 144115188075855872 := by decide +kernel
  have hb : Go.bitLen (xl + 18446744073709551616 * xh) = 128 := bitLen_is (k := 127) (by rw [e127]; omega) (by rw [show 127 + 1 = 128 from rfl, e128]; omega)
  have hq : (xl + 18446744073709551616 * xh) / 2 ^ 121 = xh / 2 ^ 57 := by
    rw [e121, ← Nat.div_div_eq_div_mul, Nat.add_mul_div_left _ _ (by decide), Nat.div_eq_of_lt hl, Nat.zero_add]
  have h1 := Nat.div_mul_le_self (xl + 18446744073709551616 * xh) (2 ^ 121)
  have h2 := Nat.lt_mul_div_succ (xl + 18446744073709551616 * xh) (show 0 < 2 ^ 121 by decide +kernel)
  unfold gI
  rw [if_pos hb]
  rw [hq] at h1 h2 ⊢
  rw [Nat.mul_comm (2 ^ _)] at h2
  refine ⟨rfl, ?_, ?_, h1, h2⟩
  · rw [e57]; omega
  · rw [e57]; omega
theorem gI_small {xl xh : Nat} (hl : xl < 18446744073709551616) (h : xh < 9223372036854775808) : gI (xl + 18446744073709551616 * xh) = -1 := by
  have e127 : (2 : Nat) ^ 127 = 18446744073709551616 * 9223372036854775808 := by decide +kernel
  have hb := bitLen_isnt (D := xl + 18446744073709551616 * xh) (k := 127) (by rw [e127]; omega)
  unfold gI
  rw [if_neg (by omega)]
theorem gR_big {L yh T : Nat} (hT3 : T = 18446744073709551616 * (18446744073709551616 * 18446744073709551616)) (hl : L < T) (hh : yh < 18446744073709551616) (h : 4611686018427387904 ≤ yh) :
    gR (L + T * yh) = ((yh / 2 ^ 57 : Nat) : Int) ∧ 32 ≤ yh / 2 ^ 57 ∧ yh / 2 ^ 57 < 128 ∧ yh / 2 ^ 57 * 2 ^ 249 ≤ L + T * yh ∧ L + T * yh < (yh / 2 ^ 57 + 1) * 2 ^ 249 := by
  have hT : (0 : Nat) < T := by rw [hT3]; decide
  have e254 : (2 : Nat) ^ 254 = T * 4611686018427387904 := by subst hT3; decide +kernel
  have e256 : (2 : Nat) ^ 256 = T * 18446744073709551616 := by subst hT3; decide +kernel
  have e249 : (2 : Nat) ^ 249 = T * 2 ^ 57 := by subst hT3; decide +kernel
  have e57 : (2 : Nat) ^ 57 = 144115188075855872 := by decide +kernel
  have h3 : T * 4611686018427387904 ≤ T * yh := Nat.mul_le_mul_left _ h
  have h4 : T * (yh + 1) ≤ T * 18446744073709551616 := Nat.mul_le_mul_left _ hh
  rw [Nat.mul_add, Nat.mul_one] at h4
  clear hT3
  have hb : Go.bitLen (L + T * yh) = 256 ∨ Go.bitLen (L + T * yh) = 255 := by
    have a := (bitLen_above (L + T * yh) 254).2 (by rw [e254]; omega)
    have b : ¬ 256 < Go.bitLen (L + T * yh) := fun hx => by
      have := (bitLen_above (L + T * yh) 256).1 hx
      rw [e256] at this
      omega
    omega
  have hq : (L + T * yh) / 2 ^ 249 = yh / 2 ^ 57 := by
    rw [e249, ← Nat.div_div_eq_div_mul, Nat.add_mul_div_left _ _ hT, Nat.div_eq_of_lt hl, Nat.zero_add]
  have h1 := Nat.div_mul_le_self (L + T * yh) (2 ^ 249)
  have h2 := Nat.lt_mul_div_succ (L + T * yh) (show 0 < 2 ^ 249 by decide +kernel)
  unfold gR
  rw [if_pos hb]
  rw [hq] at h1 h2 ⊢
  rw [Nat.mul_comm (2 ^ _)] at h2
  refine ⟨rfl, ?_, ?_, h1, h2⟩
  · rw [e57]; omega
  · rw [e57]; omega
theorem gR_small {L yh T : Nat} (hT3 : T = 18446744073709551616 * (18446744073709551616 * 18446744073709551616)) (hl : L < T) (h : yh < 4611686018427387904) : gR (L + T * yh) = -1 := by
  have e254 : (2 : Nat) ^ 254 = T * 4611686018427387904 := by subst hT3; decide +kernel
  have h3 : T * (yh + 1) ≤ T * 4611686018427387904 := Nat.mul_le_mul_left _ h
  rw [Nat.mul_add, Nat.mul_one] at h3
  have hb := bitLen_isnt (D := L + T * yh) (k := 254) (by rw [e254]; omega)
  unfold gR
  rw [if_neg (by omega)]
theorem four_lt {xl xh yl : Nat} (h1 : xl < 18446744073709551616) (h2 : xh < 18446744073709551616) (h3 : yl < 18446744073709551616) :
    xl + 18446744073709551616 * (xh + 18446744073709551616 * yl) < 18446744073709551616 * (18446744073709551616 * 18446744073709551616) := by omega
theorem four_eq (xl xh yl yh : Nat) : xl + 18446744073709551616 * (xh + 18446744073709551616 * (yl + 18446744073709551616 * yh)) = xl + 18446744073709551616 * (xh + 18446744073709551616 * yl) + 18446744073709551616 * (18446744073709551616 * 18446744073709551616) * yh := by
  simp only [Nat.mul_add, Nat.mul_assoc]
  omega
theorem rtN_le (i : Nat) (h1 : 32 ≤ i) (h2 : i < 128) : rtN i ≤ 1100 := by
  have : ∀ k, k < 96 → rtN (32 + k) ≤ 1100 := by decide +kernel
  have h := this (i - 32) (by omega)
  rwa [show 32 + (i - 32) = i by omega] at h
theorem rtV_at {q : Nat} (h1 : 32 ≤ q) (h2 : q < 128) : rtV ((q : Nat) : Int) = rtN q ∧ rtO ((q : Nat) : Int) = true := by
  constructor
  · unfold rtV
    rw [if_pos (by omega)]
    rfl
  · exact decide_eq_true (by omega)
theorem rcV_at {q : Nat} (h1 : 64 ≤ q) (h2 : q < 128) : rcV (((q : Nat) : Int) - 64) = rcN (q - 64) ∧ rcO (((q : Nat) : Int) - 64) = true := by
  constructor
  · unfold rcV
    rw [if_pos (by omega), show (((q : Nat) : Int) - 64).toNat = q - 64 by omega]
  · exact decide_eq_true (by omega)
theorem w8_256 : (#[.int .u64 (dgl (2 ^ 256) 0 : Nat), .int .u64 (dgl (2 ^ 256) 1 : Nat), .int .u64 (dgl (2 ^ 256) 2 : Nat), .int .u64 (dgl (2 ^ 256) 3 : Nat), .int .u64 (dgl (2 ^ 256) 4 : Nat), .int .u64 (dgl (2 ^ 256) 5 : Nat), .int .u64 (dgl (2 ^ 256) 6 : Nat), .int .u64 (dgl (2 ^ 256) 7 : Nat)] : Array Value) = #[.int .u64 0, .int .u64 0, .int .u64 0, .int .u64 0, .int .u64 1, .int .u64 0, .int .u64 0, .int .u64 0] :=
  w8_of (a := 0) (b := 0) (c := 0) (d := 0) (e := 1) (by decide +kernel) (by decide +kernel) (by decide +kernel) (by decide +kernel) (by decide +kernel) (by decide +kernel) (by decide +kernel) (by decide +kernel)

theorem romGuesses_any (xh xl yh yl : Nat) (h1 : xh < 18446744073709551616) (h2 : xl < 18446744073709551616) (h3 : yh < 18446744073709551616) (h4 : yl < 18446744073709551616) (w : World) :
    Calls Try.prog 4 #[.agg #[.int .u64 (xh : Nat), .int .u64 (xl : Nat)], .agg #[.int .u64 (yh : Nat), .int .u64 (yl : Nat)]] w fun e w' => e = .returned (.bool true) ∧ Below w.heap.size w w' := by
  have H2 := hide (w8_pair h2 h1).symm
  have H4 := hide (w8_four h2 h1 h4 h3).symm
  have H3 := hide (w8_three (c := 1) h2 h1 (by decide)).symm
  have hL := four_lt h2 h1 h4
  have eN := four_eq xl xh yl yh
  have hDq : xl + 18446744073709551616 * xh < QQ := Nat.lt_of_lt_of_le (show xl + 18446744073709551616 * xh < 18446744073709551616 * 18446744073709551616 by omega) (by decide +kernel)
  have hTq : xl + 18446744073709551616 * (xh + 18446744073709551616 * 1) < QQ := Nat.lt_of_lt_of_le (show xl + 18446744073709551616 * (xh + 18446744073709551616 * 1) < 2 * (18446744073709551616 * 18446744073709551616) by omega) (by decide +kernel)
  have hNq : xl + 18446744073709551616 * (xh + 18446744073709551616 * (yl + 18446744073709551616 * yh)) < QQ := by
    refine Nat.lt_of_lt_of_le (show _ < 18446744073709551616 * (18446744073709551616 * (18446744073709551616 * 18446744073709551616)) by omega) (by decide +kernel)
  have HN := hide (fun w => rnew_any w)
  have HAW := hide (fun w => awake17_any w)
  have hgI1 := fun (h : 9223372036854775808 ≤ xh) => gI_big h2 h1 h
  have hgI0 := fun (h : xh < 9223372036854775808) => gI_small h2 h
  have hgR1 := fun (h : 4611686018427387904 ≤ yh) => gR_big rfl hL h3 h
  have hgR0 := fun (h : yh < 4611686018427387904) => gR_small rfl hL h
  have hT : gI (xl + 18446744073709551616 * (xh + 18446744073709551616 * 1)) = -1 := by
    have hb := (bitLen_above (xl + 18446744073709551616 * (xh + 18446744073709551616 * 1)) 128).2 (by
      rw [show (2 : Nat) ^ 128 = 18446744073709551616 * 18446744073709551616 by decide +kernel]; omega)
    unfold gI
    rw [if_neg (by omega)]
  rw [← eN] at hgR1 hgR0
  clear eN hL
  generalize xl + 18446744073709551616 * (xh + 18446744073709551616 * (yl + 18446744073709551616 * yh)) = N at *
  generalize xl + 18446744073709551616 * (xh + 18446744073709551616 * 1) = T at *
  generalize xl + 18446744073709551616 * xh = D at *
  -- the first guess is not there, or is
  have HG0 : xh < 9223372036854775808 → Hid (∀ b d w W, RomD b d w W → Calls Try.prog 15 #[.pointer (some ⟨b, 0, none⟩), .agg #[.int .u64 (dgl (D) 0 : Nat), .int .u64 (dgl (D) 1 : Nat), .int .u64 (dgl (D) 2 : Nat), .int .u64 (dgl (D) 3 : Nat), .int .u64 (dgl (D) 4 : Nat), .int .u64 (dgl (D) 5 : Nat), .int .u64 (dgl (D) 6 : Nat), .int .u64 (dgl (D) 7 : Nat)]] W fun e w' => e = .returned (.tuple #[.int .u64 0, .bool false]) ∧ RomD b true w w') := fun h b d w W hr => by
    have g := guess_any b d D hDq w W hr
    rw [hgI0 h] at g
    exact g
  have HK0 : yh < 4611686018427387904 → Hid (∀ b d w W, RomD b d w W → Calls Try.prog 16 #[.pointer (some ⟨b, 0, none⟩), .agg #[.int .u64 (dgl (N) 0 : Nat), .int .u64 (dgl (N) 1 : Nat), .int .u64 (dgl (N) 2 : Nat), .int .u64 (dgl (N) 3 : Nat), .int .u64 (dgl (N) 4 : Nat), .int .u64 (dgl (N) 5 : Nat), .int .u64 (dgl (N) 6 : Nat), .int .u64 (dgl (N) 7 : Nat)]] W fun e w' => e = .returned (.tuple #[.int .u64 0, .bool false]) ∧ RomD b true w w') := fun h b d w W hr => by
    have g := guessR_any b d N hNq w W hr
    rw [hgR0 h] at g
    exact g
  have HGL : Hid (∀ b d w W, RomD b d w W → Calls Try.prog 15 #[.pointer (some ⟨b, 0, none⟩), .agg #[.int .u64 (dgl (T) 0 : Nat), .int .u64 (dgl (T) 1 : Nat), .int .u64 (dgl (T) 2 : Nat), .int .u64 (dgl (T) 3 : Nat), .int .u64 (dgl (T) 4 : Nat), .int .u64 (dgl (T) 5 : Nat), .int .u64 (dgl (T) 6 : Nat), .int .u64 (dgl (T) 7 : Nat)]] W fun e w' => e = .returned (.tuple #[.int .u64 ((0 : Nat) : Int), .bool false]) ∧ RomD b true w w') := fun b d w W hr => by
    have g := guess_any b d T hTq w W hr
    rw [hT] at g
    exact g
  have HKL : Hid (∀ b d w W, RomD b d w W → Calls Try.prog 16 #[.pointer (some ⟨b, 0, none⟩), .agg #[.int .u64 0, .int .u64 0, .int .u64 0, .int .u64 0, .int .u64 1, .int .u64 0, .int .u64 0, .int .u64 0]] W fun e w' => e = .returned (.tuple #[.int .u64 ((0 : Nat) : Int), .bool false]) ∧ RomD b true w w') := fun b d w W hr => by
    have g := guessR_any b d (2 ^ 256) (by decide +kernel) w W hr
    rw [show gR (2 ^ 256) = -1 by decide +kernel, w8_256] at g
    exact g
  -- the guesses
  have HX : 9223372036854775808 ≤ xh → ∃ (x x6 q PX BX0 BX1 : Nat) (cx0 cx1 i : Int), decide ((xh : Int) < 9223372036854775808) = false ∧ (Op.shift .shr .u64 ((xh : Nat) : Int) .u64 57 = pure (.int .u64 ((q : Nat) : Int)) ∧ IntKind.i64.wrap (q : Int) = (q : Int) ∧ IntKind.i64.wrap ((q : Int) - 64) = i) ∧ IntKind.u64.wrap (64 * (x : Int)) = (x6 : Int) ∧ (decide (cx0 < 0) = false ∧ decide (0 < cx1) = false) ∧
      Hid (∀ b d w W, RomD b d w W → Calls Try.prog 15 #[.pointer (some ⟨b, 0, none⟩), .agg #[.int .u64 (dgl (D) 0 : Nat), .int .u64 (dgl (D) 1 : Nat), .int .u64 (dgl (D) 2 : Nat), .int .u64 (dgl (D) 3 : Nat), .int .u64 (dgl (D) 4 : Nat), .int .u64 (dgl (D) 5 : Nat), .int .u64 (dgl (D) 6 : Nat), .int .u64 (dgl (D) 7 : Nat)]] W fun e w' => e = .returned (.tuple #[.int .u64 (x : Nat), .bool true]) ∧ RomD b true w w') ∧ Hid (∀ w, Calls Try.prog 12 #[.int .i64 i] w fun e w' => e = .returned (.tuple #[.int .u64 (x : Nat), .bool true]) ∧ w' = w) ∧
      x6 < 18446744073709551616 ∧ x6 * D = PX ∧ 63 * 2 ^ 137 = BX0 ∧ 65 * 2 ^ 137 = BX1 ∧ cmpN PX BX0 = cx0 ∧ cmpN PX BX1 = cx1 := fun h => by
    obtain ⟨e1, q1, q2, b1, b2⟩ := hgI1 h
    have hs := shr57 xh
    generalize xh / 2 ^ 57 = q at *
    obtain ⟨v1, v2⟩ := rcV_at q1 q2
    have hx := (rcN_all (q - 64) (by omega)).2.2
    have hn := rcN_near (q - 64) D (2 ^ 121) (by omega) (by rw [show 64 + (q - 64) = q by omega]; exact b1) (by rw [show 65 + (q - 64) = q + 1 by omega]; exact b2)
    rw [show 65536 * 2 ^ 121 = 2 ^ 137 by decide +kernel] at hn
    refine ⟨rcN (q - 64), 64 * rcN (q - 64), q, _, _, _, _, _, _, decide_eq_false (by omega), ⟨hs, by rw [IntKind.wrap_i64]; omega, rfl⟩, by rw [IntKind.wrap_u64]; omega, ⟨cmp_ge hn.1, cmp_le hn.2⟩, fun b d w W hr => ?_, fun w => ?_, by omega, rfl, rfl, rfl, rfl, rfl⟩
    · have g := guess_any b d D hDq w W hr
      rw [e1, v1, v2] at g
      exact g
    · have g := recip17_any (((q : Nat) : Int) - 64) w
      rw [v1, v2] at g
      rw [show IntKind.i64.wrap (((q : Nat) : Int) - 64) = ((q : Nat) : Int) - 64 by rw [IntKind.wrap_i64]; omega]
      exact g
  have HY : 4611686018427387904 ≤ yh → ∃ (y y5 y6 r PY BY0 BY1 : Nat) (cy0 cy1 : Int), decide ((yh : Int) < 4611686018427387904) = false ∧ (Op.shift .shr .u64 ((yh : Nat) : Int) .u64 57 = pure (.int .u64 ((r : Nat) : Int)) ∧ IntKind.i64.wrap (r : Int) = (r : Int)) ∧ IntKind.u64.wrap (32 * (y : Int)) = (y5 : Int) ∧ IntKind.u64.wrap ((y5 : Int) * (y : Int)) = (y6 : Int) ∧ (decide (cy0 < 0) = false ∧ decide (0 < cy1) = false) ∧
      Hid (∀ b d w W, RomD b d w W → Calls Try.prog 16 #[.pointer (some ⟨b, 0, none⟩), .agg #[.int .u64 (dgl (N) 0 : Nat), .int .u64 (dgl (N) 1 : Nat), .int .u64 (dgl (N) 2 : Nat), .int .u64 (dgl (N) 3 : Nat), .int .u64 (dgl (N) 4 : Nat), .int .u64 (dgl (N) 5 : Nat), .int .u64 (dgl (N) 6 : Nat), .int .u64 (dgl (N) 7 : Nat)]] W fun e w' => e = .returned (.tuple #[.int .u64 (y : Nat), .bool true]) ∧ RomD b true w w') ∧ Hid (∀ w, Calls Try.prog 13 #[.int .i64 (r : Nat)] w fun e w' => e = .returned (.tuple #[.int .u64 (y : Nat), .bool true]) ∧ w' = w) ∧
      y6 < 18446744073709551616 ∧ y6 * N = PY ∧ 31 * 2 ^ 274 = BY0 ∧ 33 * 2 ^ 274 = BY1 ∧ cmpN PY BY0 = cy0 ∧ cmpN PY BY1 = cy1 := fun h => by
    obtain ⟨e1, q1, q2, b1, b2⟩ := hgR1 h
    have hs := shr57 yh
    generalize yh / 2 ^ 57 = q at *
    obtain ⟨v1, v2⟩ := rtV_at q1 q2
    have hx := rtN_le q q1 q2
    have hn := rtN_near q N (2 ^ 249) q1 q2 b1 b2
    rw [show 33554432 * 2 ^ 249 = 2 ^ 274 by decide +kernel] at hn
    have hxx : rtN q * rtN q ≤ 1100 * 1100 := Nat.mul_le_mul hx hx
    have ec : ((32 * rtN q : Nat) : Int) * ((rtN q : Nat) : Int) = ((32 * (rtN q * rtN q) : Nat) : Int) := by push_cast; rw [Int.mul_assoc]
    refine ⟨rtN q, 32 * rtN q, 32 * (rtN q * rtN q), q, _, _, _, _, _, decide_eq_false (by omega), ⟨hs, by rw [IntKind.wrap_i64]; omega⟩, by rw [IntKind.wrap_u64]; omega, by rw [ec, IntKind.wrap_u64]; omega, ⟨cmp_ge hn.1, cmp_le hn.2⟩, fun b d w W hr => ?_, fun w => ?_, by omega, rfl, rfl, rfl, rfl, rfl⟩
    · have g := guessR_any b d N hNq w W hr
      rw [e1, v1, v2] at g
      exact g
    · have g := root17_any ((q : Nat) : Int) w
      rw [v1, v2] at g
      exact g
  clear hgI1 hgI0 hgR1 hgR0 hT
  have HBD := hide (fun w => refBig_any D hDq w)
  have HBN := hide (fun w => refBig_any N hNq w)
  rcases Nat.lt_or_ge xh 9223372036854775808 with hx | hx <;> rcases Nat.lt_or_ge yh 4611686018427387904 with hy | hy
  · exact romGuesses_NN (w := w) (H2 := H2) (H4 := H4) (HN := HN) (HG := HG0 hx) (HK := HK0 hy) (HAW := HAW) (hx := hide (by omega)) (hy := hide (by omega))
  · obtain ⟨y, y5, y6, r, PY, BY0, BY1, cy0, cy1, k1, k2, k3, k4, k5, k6, k7, k8, k9, k10, k11, k12, k13⟩ := HY hy
    exact romGuesses_NY (w := w) (H2 := H2) (H4 := H4) (HN := HN) (HG := HG0 hx) (HK := k6) (HAW := HAW) (hx := hide (by omega)) (hy := hide k1) (HRR := hide k2) (HY5 := hide k3) (HY6 := hide k4) (HCY := hide k5) (HRY := k7)
      (HSN := hide fun w => small_any y6 k8 w) (HBN := HBN) (HMY := hide fun u v w hu hv => by have g := refMul_any y6 N 2 40 u v w hu hv (by decide) (by decide); rw [k9] at g; exact g)
      (HSY0 := hide fun w => small_any 31 (by decide) w) (HSY1 := hide fun w => small_any 33 (by decide) w) (HHY0 := hide fun u w hu => by have g := refShl_any 31 2 274 u w hu (by decide) (by decide); rw [k10] at g; exact g) (HHY1 := hide fun u w hu => by have g := refShl_any 33 2 274 u w hu (by decide) (by decide); rw [k11] at g; exact g)
      (HCY0 := hide fun u v w hu hv => by have g := cmp_any _ _ 42 11 u v w hu hv; rw [k12] at g; exact g) (HCY1 := hide fun u v w hu hv => by have g := cmp_any _ _ 42 11 u v w hu hv; rw [k13] at g; exact g) (T := T) (H3 := H3) (HGL := HGL) (HKL := HKL)
  · obtain ⟨x, x6, q, PX, BX0, BX1, cx0, cx1, i, j1, j2, j3, j4, j5, j6, j7, j8, j9, j10, j11, j12⟩ := HX hx
    exact romGuesses_YN (w := w) (H2 := H2) (H4 := H4) (HN := HN) (HG := j5) (HK := HK0 hy) (HAW := HAW) (hx := hide j1) (HQ := hide j2) (HX6 := hide j3) (HCX := hide j4) (HRX := j6)
      (HSM := hide fun w => small_any x6 j7 w) (HBD := HBD) (HMX := hide fun u v w hu hv => by have g := refMul_any x6 D 2 40 u v w hu hv (by decide) (by decide); rw [j8] at g; exact g)
      (HSX0 := hide fun w => small_any 63 (by decide) w) (HSX1 := hide fun w => small_any 65 (by decide) w) (HHX0 := hide fun u w hu => by have g := refShl_any 63 2 137 u w hu (by decide) (by decide); rw [j9] at g; exact g) (HHX1 := hide fun u w hu => by have g := refShl_any 65 2 137 u w hu (by decide) (by decide); rw [j10] at g; exact g)
      (HCX0 := hide fun u v w hu hv => by have g := cmp_any _ _ 42 7 u v w hu hv; rw [j11] at g; exact g) (HCX1 := hide fun u v w hu hv => by have g := cmp_any _ _ 42 7 u v w hu hv; rw [j12] at g; exact g) (hy := hide (by omega))
  · obtain ⟨x, x6, q, PX, BX0, BX1, cx0, cx1, i, j1, j2, j3, j4, j5, j6, j7, j8, j9, j10, j11, j12⟩ := HX hx
    obtain ⟨y, y5, y6, r, PY, BY0, BY1, cy0, cy1, k1, k2, k3, k4, k5, k6, k7, k8, k9, k10, k11, k12, k13⟩ := HY hy
    exact romGuesses_YY (w := w) (H2 := H2) (H4 := H4) (HN := HN) (HG := j5) (HK := k6) (HAW := HAW) (hx := hide j1) (HQ := hide j2) (HX6 := hide j3) (HCX := hide j4) (HRX := j6)
      (HSM := hide fun w => small_any x6 j7 w) (HBD := HBD) (HMX := hide fun u v w hu hv => by have g := refMul_any x6 D 2 40 u v w hu hv (by decide) (by decide); rw [j8] at g; exact g)
      (HSX0 := hide fun w => small_any 63 (by decide) w) (HSX1 := hide fun w => small_any 65 (by decide) w) (HHX0 := hide fun u w hu => by have g := refShl_any 63 2 137 u w hu (by decide) (by decide); rw [j9] at g; exact g) (HHX1 := hide fun u w hu => by have g := refShl_any 65 2 137 u w hu (by decide) (by decide); rw [j10] at g; exact g)
      (HCX0 := hide fun u v w hu hv => by have g := cmp_any _ _ 42 7 u v w hu hv; rw [j11] at g; exact g) (HCX1 := hide fun u v w hu hv => by have g := cmp_any _ _ 42 7 u v w hu hv; rw [j12] at g; exact g)
      (hy := hide k1) (HRR := hide k2) (HY5 := hide k3) (HY6 := hide k4) (HCY := hide k5) (HRY := k7)
      (HSN := hide fun w => small_any y6 k8 w) (HBN := HBN) (HMY := hide fun u v w hu hv => by have g := refMul_any y6 N 2 40 u v w hu hv (by decide) (by decide); rw [k9] at g; exact g)
      (HSY0 := hide fun w => small_any 31 (by decide) w) (HSY1 := hide fun w => small_any 33 (by decide) w) (HHY0 := hide fun u w hu => by have g := refShl_any 31 2 274 u w hu (by decide) (by decide); rw [k10] at g; exact g) (HHY1 := hide fun u w hu => by have g := refShl_any 33 2 274 u w hu (by decide) (by decide); rw [k11] at g; exact g)
      (HCY0 := hide fun u v w hu hv => by have g := cmp_any _ _ 42 11 u v w hu hv; rw [k12] at g; exact g) (HCY1 := hide fun u v w hu hv => by have g := cmp_any _ _ 42 11 u v w hu hv; rw [k13] at g; exact g) (T := T) (H3 := H3) (HGL := HGL) (HKL := HKL)
end Go.Proofs.Yteocibahclpegaa

/- For all words the law radicandlaw17.RomGuesses returns true and leaves what came in as it was. No condition. -/
namespace Go.Proofs.Yteocibahclpegaa.romGuesses
open Go.ChangeShapes Go.WideShapes Go.ChangeAt Go.RowKit Go.Proofs.Yteocibahclpegaa

theorem own : ownKnob Try.prog.godebug = none := by kernel_rfl
theorem laidOut : laidOutB Try.prog = true := by kernel_rfl

set_option maxRecDepth 100000 in
theorem lifted (os : Os) (started : os.Started) (H : Type) (enc : TypeId × Value → H) :
    ReturnsInHanded {} Try.checked os 4 .any (Rows.romGuessesSpec.pre6 enc Try.prog Try.f4 Rows.romGuessesRow.domain false) (Rows.romGuessesSpec.post enc Try.prog Try.f4 false true false false) := by
  refine returnsInHanded_of_change (C := Try.checked) own started (by kernel_rfl) Try.func4
    (ChangeSpec.witness6 (enc := enc) (C := Try.checked) false ⟨#[], #[.agg #[.int .u64 0, .int .u64 0], .agg #[.int .u64 0, .int .u64 0]], []⟩ 8 (by kernel_rfl) (by kernel_rfl) (by kernel_rfl) (by kernel_rfl)) ?_
  intro W base args ds gs before hval0 hW hcnd _
  have hval : ∀ (j : Nat) t v, Try.f4.params[j]? = some t → args[j]? = some v → Value.okWide Try.prog W .any base t v := hval0
  have hW' := hW
  obtain ⟨p, q, hA0, hV, rfl, hfz, hnd⟩ := hW
  have hA : DataW.TrodAll enc Try.prog W 0 (fun _ => true) true Try.f4.params.toList args.toList ds p := hA0
  rw [Try.params4] at hA hval
  obtain ⟨v0, vs0, d0, ds0, p0, q0, hargs, rfl, rfl, h0, r0⟩ := trodAll_cons hA
  obtain ⟨v1, vs1, d1, ds1, p1, q1, rfl, rfl, rfl, h1, r1⟩ := trodAll_cons r0
  obtain ⟨rfl, rfl, rfl⟩ := trodAll_nil r1
  obtain rfl : args = #[v0, v1] := by cases args; simp_all
  obtain ⟨rfl, rfl⟩ := trodVars_none hV
  have k0 := h0
  have lt0 : ∀ x ∈ p0, x.block < W.heap.size := by obtain ⟨m, hm⟩ := k0; exact DataW.trod_lt m _ _ _ hm
  have k1 := h1
  have lt1 : ∀ x ∈ p1, x.block < W.heap.size := by obtain ⟨m, hm⟩ := k1; exact DataW.trod_lt m _ _ _ hm
  obtain ⟨x0, y0, hx0, hy0, rfl⟩ := word_of_trod (hval 0 30 v0 rfl rfl) h0
  obtain ⟨x1, y1, hx1, hy1, rfl⟩ := word_of_trod (hval 1 30 v1 rfl rfl) h1
  clear hA0 hval0
  refine (romGuesses_any x0 y0 x1 y1 hx0 hy0 hx1 hy1 W).mono fun e W' ⟨he, bel⟩ => ?_
  subst he
  exact ⟨_, rfl, _, _, _, [], _, [], hW', trodAll_mk1 (shut_bool Try.underlying4 _), (trodAll_cons_mk (Below.trod laidOut (by kernel_rfl) (of_decide_eq_true (by kernel_rfl)) k0 bel lt0) (trodAll_cons_mk (Below.trod laidOut (by kernel_rfl) (of_decide_eq_true (by kernel_rfl)) k1 bel lt1) trodAll_mk0)), rfl, bel.frame _, fun h => by cases h⟩

theorem over : Rows.romGuessesRow.holds Try.pinned (OpenSpec.ofChange Rows.romGuessesSpec) :=
  OpenClaim.holds_of_wide 4 Try.f4 rfl rfl rfl rfl rfl rfl rfl ⟨rfl, rfl, rfl, rfl, rfl⟩ rfl rfl rfl rfl rfl (by kernel_rfl) Try.func4 (by kernel_rfl)
    (of_decide_eq_true (by kernel_rfl)) (by unfold Func.isWrapper; first | (rw [if_pos (by decide +kernel)]; kernel_rfl) | (rw [if_neg (by decide +kernel)]; exact ⟨rfl, rfl⟩))
    (fun os started H enc _ => lifted os started H enc)

theorem proved : Rows.RomGuessesSaid := over
#print axioms proved
end Go.Proofs.Yteocibahclpegaa.romGuesses

