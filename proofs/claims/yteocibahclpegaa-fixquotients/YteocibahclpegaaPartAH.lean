/- Contracts and laws: LimbE, LimbF, LimbG, LimbH, LimbI, LawA, LawB, WideA, WideB, RefD, RefE, RefF, WideC, RefG, RefH, RefI. -/
import Derived.Test.YteocibahclpegaaPartAF
import Derived.Test.YteocibahclpegaaPartAG
import Derived.StillTailTactics
import Derived.Test.YteocibahclpegaaPartAD
/- Contracts: limb.Sum. -/
set_option linter.unusedVariables false
set_option linter.unusedSimpArgs false
set_option maxRecDepth 8000
namespace Go.Proofs.Yteocibahclpegaa
open Go.RowKit Plain

theorem mixedOk : Try.prog.follows .mixedOrders = true := by kernel_rfl

theorem carry_lt (n m k : Nat) : carry 18446744073709551616 n m k ≤ 1 := carry_le (by decide)
theorem oneI_carry (n m k : Nat) : oneI (carry 18446744073709551616 n m k : Nat) = (carry 18446744073709551616 n m k : Nat) := by
  have := carry_lt n m k
  unfold oneI
  split <;> omega
theorem sum_lo (n m k : Nat) : lo64 ((dgl n k : Int) + (dgl m k : Int) + oneI (carry 18446744073709551616 n m k : Nat)) = (dgl (n + m) k : Nat) := by
  rw [oneI_carry]
  have h := add_digit (n := n) (m := m) (k := k) (β := 18446744073709551616) (by decide)
  have e : ((dgl (n + m) k : Nat) : Int) = (((carry 18446744073709551616 n m k + dgl n k + dgl m k) % 18446744073709551616 : Nat) : Int) := congrArg _ h.symm
  rw [e]; unfold lo64 M64; omega
theorem sum_hi (n m k : Nat) : hi64 ((dgl n k : Int) + (dgl m k : Int) + oneI (carry 18446744073709551616 n m k : Nat)) = (carry 18446744073709551616 n m (k + 1) : Nat) := by
  rw [oneI_carry]
  have h := add_carry (n := n) (m := m) (k := k) (β := 18446744073709551616) (by decide)
  have e : ((carry 18446744073709551616 n m (k + 1) : Nat) : Int) = (((carry 18446744073709551616 n m k + dgl n k + dgl m k) / 18446744073709551616 : Nat) : Int) := congrArg _ h.symm
  rw [e]; unfold hi64 M64; omega

end Go.Proofs.Yteocibahclpegaa

/- Contracts: limb.Sum. -/
set_option linter.unusedVariables false
set_option linter.unusedSimpArgs false
set_option maxRecDepth 8000
namespace Go.Proofs.Yteocibahclpegaa
open Go.RowKit Plain

theorem app3 (x a b c : Value) : (#[x] ++ #[a, b, c] : Array Value) = #[x, a, b, c] := rfl

end Go.Proofs.Yteocibahclpegaa

/- Contracts: limb.Shift. -/
set_option linter.unusedVariables false
set_option linter.unusedSimpArgs false
set_option maxRecDepth 8000
namespace Go.Proofs.Yteocibahclpegaa
open Go.RowKit Plain

/-- The limb at a place that may be below 0. -/
def atI (n : Nat) (i : Int) : Int := if i < 0 then 0 else (dgl n i.toNat : Nat)
/-- The limb at place e of n, times 2^b (b < 64). -/
def shd (n b : Nat) (e : Int) : Nat := if e < 0 then 0 else n * 2 ^ b / 18446744073709551616 ^ e.toNat % 18446744073709551616

theorem or_add (b x y : Nat) (hb : b < 64) (hx : x < 18446744073709551616) (hy : y < 18446744073709551616) :
    bits .or .u64 (IntKind.u64.wrap ((x : Int) * 2 ^ b)) ((y : Int) / 2 ^ min (IntKind.u64.wrap (64 - (b : Int))).toNat 64) = ((2 ^ b * (x % 2 ^ (64 - b)) + y / 2 ^ (64 - b) : Nat) : Int) := by
  have e0 : min (IntKind.u64.wrap (64 - (b : Int))).toNat 64 = 64 - b := by rw [IntKind.wrap_u64]; omega
  have hTR : 2 ^ b * 2 ^ (64 - b) = 18446744073709551616 := by rw [← Nat.pow_add]; have : b + (64 - b) = 64 := by omega
                                                               rw [this]
  have e1 : IntKind.u64.wrap ((x : Int) * 2 ^ b) = ((2 ^ b * (x % 2 ^ (64 - b)) : Nat) : Int) := by
    rw [IntKind.wrap_u64, ← Nat.mul_mod_mul_left, hTR]
    have : (x : Int) * 2 ^ b = ((2 ^ b * x : Nat) : Int) := by rw [Int.natCast_mul, Int.natCast_pow, Int.mul_comm]; rfl
    rw [this]; omega
  have e2 : (y : Int) / 2 ^ (64 - b) = ((y / 2 ^ (64 - b) : Nat) : Int) := by rw [Int.natCast_ediv, Int.natCast_pow]; rfl
  have hpos : 0 < 2 ^ (64 - b) := Nat.two_pow_pos _
  have hy2 : y / 2 ^ (64 - b) < 2 ^ b := by rw [Nat.div_lt_iff_lt_mul hpos, hTR]; exact hy
  have hx2 : 2 ^ b * (x % 2 ^ (64 - b)) + 2 ^ b ≤ 18446744073709551616 := by
    rw [← Nat.mul_succ, ← hTR]; exact Nat.mul_le_mul_left _ (Nat.mod_lt _ hpos)
  rw [e0, e1, e2, bits_or_u64_nat _ _ (by have := Nat.two_pow_pos b; omega) (by have := Nat.two_pow_pos b; omega), Nat.two_pow_add_eq_or_of_lt hy2]

theorem shift_val (n b : Nat) (hb : b < 64) (e : Int) :
    bits .or .u64 (IntKind.u64.wrap (atI n e * 2 ^ b)) (atI n (e - 1) / 2 ^ min (IntKind.u64.wrap (64 - (b : Int))).toNat 64) = (shd n b e : Nat) := by
  have hTR : 2 ^ b * 2 ^ (64 - b) = 18446744073709551616 := by rw [← Nat.pow_add]; have : b + (64 - b) = 64 := by omega
                                                               rw [this]
  have hT := Nat.two_pow_pos b
  have hR := Nat.two_pow_pos (64 - b)
  unfold shd
  by_cases h : e < 0
  · have h1 : atI n e = ((0 : Nat) : Int) := by unfold atI; rw [if_pos h]; rfl
    have h2 : atI n (e - 1) = ((0 : Nat) : Int) := by unfold atI; rw [if_pos (by omega)]; rfl
    rw [h1, h2, or_add b 0 0 hb (by decide) (by decide), if_pos h]
    simp
  · obtain ⟨k, rfl⟩ := Int.eq_ofNat_of_zero_le (Int.not_lt.1 h)
    have h1 : atI n (k : Int) = (dgl n k : Nat) := by unfold atI; rw [if_neg h, Int.toNat_natCast]
    rw [if_neg h, Int.toNat_natCast]
    cases k with
    | zero =>
      have h2 : atI n (((0 : Nat) : Int) - 1) = ((0 : Nat) : Int) := by unfold atI; rw [if_pos (by omega)]; rfl
      rw [h1, h2, or_add b _ 0 hb (dgl_lt n 0) (by decide)]
      have := shift_digit0 (2 ^ b) (2 ^ (64 - b)) n hR
      rw [hTR] at this
      rw [this]
      simp [dgl]
    | succ k =>
      have h2 : atI n (((k + 1 : Nat) : Int) - 1) = (dgl n k : Nat) := by
        have : ((k + 1 : Nat) : Int) - 1 = (k : Int) := by omega
        rw [this]; unfold atI; rw [if_neg (by omega), Int.toNat_natCast]
      rw [h1, h2, or_add b _ _ hb (dgl_lt n _) (dgl_lt n _)]
      have := shift_digit (2 ^ b) (2 ^ (64 - b)) n k hT hR
      rw [hTR] at this
      rw [this]
      rfl

end Go.Proofs.Yteocibahclpegaa

/- Contracts: limb.Shift. -/
set_option linter.unusedVariables false
set_option linter.unusedSimpArgs false
set_option maxRecDepth 8000
namespace Go.Proofs.Yteocibahclpegaa
open Go.RowKit Plain

theorem and63 (n : Int) : bits .and .i64 n 63 = ((n % 64).toNat : Nat) := by
  have h63 : (BitVec.ofInt 64 63).toNat = 2 ^ 6 - 1 := by decide
  have key : (BitVec.ofInt 64 n &&& BitVec.ofInt 64 63).toNat = (n % ((2 ^ 64 : Nat) : Int)).toNat % 2 ^ 6 := by
    rw [BitVec.toNat_and, BitVec.toNat_ofInt, h63, Nat.and_two_pow_sub_one_eq_mod]
  show IntKind.i64.wrap ((BitVec.ofInt 64 n &&& BitVec.ofInt 64 63).toNat : Nat) = _
  rw [key, IntKind.wrap_i64]
  omega

/-- n times 2^k, or divided by 2^-k, without rest. -/
def sh (n : Nat) (k : Int) : Nat := if k < 0 then n / 2 ^ (-k).toNat else n * 2 ^ k.toNat

theorem LLpow (s : Nat) : (18446744073709551616 : Nat) ^ s = 2 ^ (64 * s) := by rw [Nat.pow_mul]

theorem sh_pos (n s b : Nat) : sh n (64 * (s : Int) + (b : Int)) = n * 2 ^ b * 18446744073709551616 ^ s := by
  unfold sh
  rw [if_neg (by omega), LLpow, show (64 * (s : Int) + (b : Int)).toNat = b + 64 * s by omega, Nat.pow_add, Nat.mul_assoc]
theorem sh_neg (n t b : Nat) (ht : 1 ≤ t) (hb : b < 64) : sh n (-64 * (t : Int) + (b : Int)) = n * 2 ^ b / 18446744073709551616 ^ t := by
  unfold sh
  rw [if_pos (by omega), LLpow, show (-(-64 * (t : Int) + (b : Int))).toNat = 64 * t - b by omega]
  have e : 2 ^ (64 * t) = 2 ^ (64 * t - b) * 2 ^ b := by rw [← Nat.pow_add]; congr 1; omega
  rw [e, Nat.mul_div_mul_right _ _ (Nat.two_pow_pos b)]

theorem sh_digit (n b : Nat) (k : Int) (hb : b = (k % 64).toNat) (j : Nat) : shd n b ((j : Int) - k / 64) = sh n k / 18446744073709551616 ^ j % 18446744073709551616 := by
  by_cases hk : k / 64 < 0
  · obtain ⟨t, ht⟩ : ∃ t : Nat, k / 64 = -(t : Int) := ⟨(-(k / 64)).toNat, by omega⟩
    have ek : k = -64 * (t : Int) + (b : Int) := by omega
    rw [ek, sh_neg n t b (by omega) (by omega), Nat.div_div_eq_div_mul, ← Nat.pow_add]
    have e2 : (-64 * (t : Int) + (b : Int)) / 64 = -(t : Int) := by omega
    rw [e2]
    unfold shd
    rw [if_neg (by omega), show ((j : Int) - -(t : Int)).toNat = t + j by omega]
  · obtain ⟨s, hs⟩ : ∃ s : Nat, k / 64 = (s : Int) := ⟨(k / 64).toNat, by omega⟩
    have ek : k = 64 * (s : Int) + (b : Int) := by omega
    rw [ek, sh_pos]
    have e2 : (64 * (s : Int) + (b : Int)) / 64 = (s : Int) := by omega
    rw [e2]
    unfold shd
    by_cases hj : j < s
    · rw [if_pos (by omega)]
      have e3 : n * 2 ^ b * 18446744073709551616 ^ s = 18446744073709551616 ^ j * (n * 2 ^ b * 18446744073709551616 ^ (s - j - 1) * 18446744073709551616) := by
        have : s = j + (s - j - 1 + 1) := by omega
        conv => lhs; rw [this]
        rw [Nat.pow_add, Nat.pow_succ]
        simp [Nat.mul_comm, Nat.mul_left_comm, Nat.mul_assoc]
      rw [e3, Nat.mul_div_cancel_left _ (Nat.pow_pos (by decide)), Nat.mul_mod_left]
    · rw [if_neg (by omega), show ((j : Int) - (s : Int)).toNat = j - s by omega]
      have e3 : (18446744073709551616 : Nat) ^ j = 18446744073709551616 ^ (j - s) * 18446744073709551616 ^ s := by rw [← Nat.pow_add]; congr 1; omega
      rw [e3, Nat.mul_div_mul_right _ _ (Nat.pow_pos (by decide))]

end Go.Proofs.Yteocibahclpegaa

/- Contracts: limb.Bit. -/
set_option linter.unusedVariables false
set_option linter.unusedSimpArgs false
set_option maxRecDepth 8000
namespace Go.Proofs.Yteocibahclpegaa
open Go.RowKit Plain

end Go.Proofs.Yteocibahclpegaa

/- Contracts: radicandref01.Small. -/
set_option linter.unusedVariables false
set_option linter.unusedSimpArgs false
set_option maxRecDepth 8000
namespace Go.Proofs.Yteocibahclpegaa
open Go.RowKit Plain

theorem small_any (x : Nat) (hx : x < 18446744073709551616) (w : World) :
    Calls Try.prog 18 #[.int .u64 (x : Nat)] w fun e w' => ∃ v, e = .returned v ∧ BigV w' v x 2 ∧ Below w.heap.size w w' := by
  have hr := Rd.lit (mk := mk64) w 24 [.int .u64 (x : Nat)] [x] rfl 1 (Nat.le_refl 1) (by decide)
  have hd := dig_one (β := LL) hx
  have HR := hide hr
  clear hr
  go_enter Try.func18, Try.ntmps18
  go_wp2_with (go_at_call 49; refine (of_any [x] x _ _ HR.out hd (by simp)).mono ?_; rintro e w' ⟨v, rfl, hbig, hbel⟩)
  go_ret
  exact ⟨_, rfl, hbig, Below.trans ((Below.refl _ _).alloc (Nat.le_refl _) _) (hbel.mono (by simp))⟩

end Go.Proofs.Yteocibahclpegaa

/- The calls of the law LimbAdds, said of naturals. -/
set_option linter.unusedVariables false
set_option linter.unusedSimpArgs false
set_option maxRecDepth 8000
namespace Go.Proofs.Yteocibahclpegaa
open Go.RowKit Plain

/-- 1 of what isn't 0. -/
def oneN (z : Nat) : Nat := if z = 0 then 0 else 1
theorem oneN_le (z : Nat) : oneN z ≤ 1 := by unfold oneN; split <;> omega
theorem oneI_nat (z : Nat) : oneI (z : Int) = (oneN z : Nat) := by unfold oneI oneN; split <;> split <;> omega

theorem add_nat (x y z : Nat) (w : World) :
    Calls Try.prog 99 #[.int .u64 (x : Nat), .int .u64 (y : Nat), .int .u64 (z : Nat)] w fun e w' => ∃ s c : Nat, e = .returned (.tuple #[.int .u64 (s : Nat), .int .u64 (c : Nat)]) ∧
      s < 18446744073709551616 ∧ s + 18446744073709551616 * c = x + y + oneN z ∧ w' = w := by
  refine (limbAdd_any _ _ _ w (by omega) (by omega)).mono ?_
  rintro e w' ⟨rfl, rfl⟩
  refine ⟨(x + y + oneN z) % 18446744073709551616, (x + y + oneN z) / 18446744073709551616, ?_, Nat.mod_lt _ (by decide), Nat.mod_add_div _ _, rfl⟩
  rw [oneI_nat]
  have e1 : lo64 ((x : Int) + (y : Int) + ((oneN z : Nat) : Int)) = (((x + y + oneN z) % 18446744073709551616 : Nat) : Int) := by unfold lo64 M64; omega
  have e2 : hi64 ((x : Int) + (y : Int) + ((oneN z : Nat) : Int)) = (((x + y + oneN z) / 18446744073709551616 : Nat) : Int) := by unfold hi64 M64; omega
  rw [e1, e2]

theorem sub_nat (x y z : Nat) (hx : x < 18446744073709551616) (hy : y < 18446744073709551616) (w : World) :
    Calls Try.prog 84 #[.int .u64 (x : Nat), .int .u64 (y : Nat), .int .u64 (z : Nat)] w fun e w' => ∃ d b : Nat, e = .returned (.tuple #[.int .u64 (d : Nat), .int .u64 (b : Nat)]) ∧
      d < 18446744073709551616 ∧ b ≤ 1 ∧ d + (y + oneN z) = x + 18446744073709551616 * b ∧ w' = w := by
  refine (limbSub_any _ _ _ w (by omega) (by omega) (by unfold M64; omega)).mono ?_
  rintro e w' ⟨rfl, rfl⟩
  rw [oneI_nat]
  have ho := oneN_le z
  generalize oneN z = o at *
  by_cases h : x < y + o
  · refine ⟨x + 18446744073709551616 - y - o, 1, ?_, by omega, by omega, by omega, rfl⟩
    rw [if_pos (by omega)]
    have e1 : lo64 ((x : Int) - (y : Int) - (o : Int)) = ((x + 18446744073709551616 - y - o : Nat) : Int) := by unfold lo64 M64; omega
    rw [e1]; rfl
  · refine ⟨x - y - o, 0, ?_, by omega, by omega, by omega, rfl⟩
    rw [if_neg (by omega)]
    have e1 : lo64 ((x : Int) - (y : Int) - (o : Int)) = ((x - y - o : Nat) : Int) := by unfold lo64 M64; omega
    rw [e1]; rfl

theorem mul_nat (x y : Nat) (hx : x < 18446744073709551616) (hy : y < 18446744073709551616) (w : World) :
    Calls Try.prog 100 #[.int .u64 (x : Nat), .int .u64 (y : Nat)] w fun e w' => ∃ h l : Nat, e = .returned (.tuple #[.int .u64 (h : Nat), .int .u64 (l : Nat)]) ∧
      h < 18446744073709551616 ∧ l < 18446744073709551616 ∧ l + 18446744073709551616 * h = x * y ∧ w' = w := by
  refine (limbMul_any _ _ w (by omega) (by unfold M64; omega) (by omega) (by unfold M64; omega)).mono ?_
  rintro e w' ⟨rfl, rfl⟩
  have hlt : x * y < 18446744073709551616 * 18446744073709551616 := Nat.mul_lt_mul_of_lt_of_lt hx hy
  refine ⟨x * y / 18446744073709551616, x * y % 18446744073709551616, ?_, by omega, Nat.mod_lt _ (by decide), Nat.mod_add_div _ _, rfl⟩
  rw [mulN]
  have e1 : lo64 ((x * y : Nat) : Int) = ((x * y % 18446744073709551616 : Nat) : Int) := by unfold lo64 M64; omega
  have e2 : hi64 ((x * y : Nat) : Int) = ((x * y / 18446744073709551616 : Nat) : Int) := by unfold hi64 M64; omega
  rw [e1, e2]

theorem below_alloc_then {a b : World} {o : Obj} (h : Below (a.alloc o).heap.size (a.alloc o) b) : Below a.heap.size a b :=
  Below.trans ((Below.refl _ _).alloc (Nat.le_refl _) o) (h.mono (by simp))

theorem cmpN_self {n m : Nat} (h : n = m) : cmpN n m = 0 := by subst h; simp [cmpN]

end Go.Proofs.Yteocibahclpegaa

/- Contracts: wide.each. -/
set_option linter.unusedVariables false
set_option linter.unusedSimpArgs false
set_option maxRecDepth 8000
namespace Go.Proofs.Yteocibahclpegaa
open Go.RowKit Plain

theorem below_set8 {B : Nat} {a w : World} (h : Below B a w) (b : Nat) (hb : B ≤ b) (x0 x1 x2 x3 x4 x5 x6 x7 : Value) :
    Below B a ((((((((w.setCell ⟨b, 0, none⟩ x0).setCell ⟨b, 1, none⟩ x1).setCell ⟨b, 2, none⟩ x2).setCell ⟨b, 3, none⟩ x3).setCell ⟨b, 4, none⟩ x4).setCell ⟨b, 5, none⟩ x5).setCell ⟨b, 6, none⟩ x6).setCell ⟨b, 7, none⟩ x7) :=
  (((((((h.setCell (p := ⟨b, 0, none⟩) hb _).setCell (p := ⟨b, 1, none⟩) hb _).setCell (p := ⟨b, 2, none⟩) hb _).setCell (p := ⟨b, 3, none⟩) hb _).setCell (p := ⟨b, 4, none⟩) hb _).setCell (p := ⟨b, 5, none⟩) hb _).setCell (p := ⟨b, 6, none⟩) hb _).setCell (p := ⟨b, 7, none⟩) hb _

/-- A world under a name, with what is known of it. -/
theorem wp_gen {P : Program} {c : Code} {Q : Exit → Act → World → Prop} {a : Act} {w : World} (F : World → Prop) (h : F w) (k : ∀ W, F W → Code.wp P c Q a W) : Code.wp P c Q a w := k w h

set_option maxHeartbeats 1000000 in
theorem each_any (fid : Nat) (caps : Array Value) (f : Nat → Nat) (I : Nat → World → Prop) (row : Option Nat) (w : World)
    (hent : ∀ args w, (callFunc fid args).run Try.prog w = .ok (.enter fid args) w) (hrow : ∀ c, row = some c → c < w.heap.size)
    (hcall : ∀ i wr, i < 8 → I i wr → w.heap.size ≤ wr.heap.size → Calls Try.prog fid (#[.int .i64 i] ++ caps) wr fun e w' => e = .returned (.int .u64 (f i : Nat)) ∧ I (i + 1) w' ∧ wr.grownBy w' row)
    (hst : ∀ i wr wr', I i wr → Below w.heap.size wr wr' → I i wr') (h0 : I 0 w) :
    Calls Try.prog 87 #[.func (.func fid) #[] caps] w fun e w' => e = .returned (.agg #[.int .u64 (f 0 : Nat), .int .u64 (f 1 : Nat), .int .u64 (f 2 : Nat), .int .u64 (f 3 : Nat), .int .u64 (f 4 : Nat), .int .u64 (f 5 : Nat), .int .u64 (f 6 : Nat), .int .u64 (f 7 : Nat)]) ∧ I 8 w' ∧ w.grownBy w' row := by
  have HC := hide hcall
  have HS := hide hst
  have H0 := hide h0
  have HR := hide hrow
  clear hcall hst h0 hrow
  go_enter Try.func87, Try.ntmps87
  go_wp2
  go_loopw [5] (fun i wr => ∃ (k : Nat) (o : List Nat), k ≤ 8 ∧ i = .int .i64 k ∧ Hid (o.length = 8 ∧ ∀ j, j < k → dg o j = f j) ∧
      wr.ownsRow w.heap.size 32 1 (.slice (some ⟨w.heap.size + 1, 0, none⟩) 8 8) 8 (o.map mk64) ∧ wr.ownsRow w.heap.size 32 1 (.slice (some ⟨w.heap.size, 0, none⟩) 8 8) 8 ((List.replicate 8 0).map mk64) ∧ I k wr ∧ w.grownBy wr row)
    (fun i _ => 8 - (intOf i).toNat)
  case atStart =>
    have hb : Below w.heap.size w ((w.alloc (.cells #[.int .u64 0, .int .u64 0, .int .u64 0, .int .u64 0, .int .u64 0, .int .u64 0, .int .u64 0, .int .u64 0] 32)).alloc (.cells #[.int .u64 0, .int .u64 0, .int .u64 0, .int .u64 0, .int .u64 0, .int .u64 0, .int .u64 0, .int .u64 0] 32)) :=
      Below.alloc (Below.alloc (Below.refl _ _) (Nat.le_refl _) _) (by simp) _
    refine ⟨0, List.replicate 8 0, by omega, rfl, ⟨rfl, fun j hj => by omega⟩, ?_, ?_, unhide HS _ _ _ H0.out hb, grownBy_of_below hb row⟩
    · have := World.ownsRow_lit (base := w.heap.size) (e := 32) (size := 1) (w.alloc (.cells #[.int .u64 0, .int .u64 0, .int .u64 0, .int .u64 0, .int .u64 0, .int .u64 0, .int .u64 0, .int .u64 0] 32)) #[.int .u64 0, .int .u64 0, .int .u64 0, .int .u64 0, .int .u64 0, .int .u64 0, .int .u64 0, .int .u64 0] 8 (by simp) (by simp [maxLen]) rfl
      rw [World.size_alloc] at this
      exact this
    · exact (World.ownsRow_lit (base := w.heap.size) (e := 32) (size := 1) w #[.int .u64 0, .int .u64 0, .int .u64 0, .int .u64 0, .int .u64 0, .int .u64 0, .int .u64 0, .int .u64 0] 8 (Nat.le_refl _) (by simp [maxLen]) rfl).alloc _
  case round =>
    clear H0
    obtain ⟨k, o, hk, rfl, ho, hV, hR, hI, hgr⟩ := hrel
    by_cases hlt : k < 8
    · have hsz := hgr.size
      obtain ⟨ho1, ho2⟩ := ho.out
      have HO1 := hide ho1
      have HO2 := hide ho2
      clear ho ho1 ho2
      go_wp2_with fail
      refine (unhide HC k wr hlt hI hsz).mono ?_
      rintro e w1 ⟨rfl, hI1, hg1⟩
      have hne : ∀ x, w.heap.size ≤ x → (some x : Option Nat) ≠ row := by
        intro x hx he
        have := unhide HR _ he.symm
        omega
      have hV1 := hV.kept hg1 (.inr (hne _ (by simp)))
      have hR1 := hR.kept hg1 (.inr (hne _ (by simp)))
      have hgr1 := grownBy_trans hgr hg1
      clear hV hR hI hgr hg1 hne
      have hco : w1.cell? ⟨w.heap.size + 1, k, none⟩ = some (.int .u64 (dg o k : Nat)) := owns_cell hV1 HO1.out k hlt
      have hfo : w1.frozen? ⟨w.heap.size + 1, k, none⟩ = false := hV1.frozenAt _
      obtain ⟨hV2, hb2⟩ := owns_store (mk := mk64) hV1 k (f k) (Below.refl w.heap.size w1) (by omega)
      have hR2 := hR1.kept (hV1.stored k (mk64 (f k))).2 (.inr (by simp [Value.ownBlock]))
      have HI2 := hide (unhide HS _ _ _ hI1 hb2)
      have HG2 := hide (grownBy_then hgr1 (Nat.le_refl _) hb2)
      have HV2 := hide hV2
      have HR2 := hide hR2
      have HL2 := hide (show (o.set k (f k)).length = 8 from by rw [List.length_set]; exact HO1.out)
      have HD2 := hide (show ∀ j, j < k + 1 → dg (o.set k (f k)) j = f j from by
        intro j hj
        rw [dg_set _ _ _ _ (by rw [HO1.out]; exact hlt)]
        split
        · rename_i h; rw [h]
        · exact HO2.out j (by omega))
      clear hV1 hR1 hgr1 hV2 hR2 hb2 hI1
      have hj1 : (k : Int) < 8 := by omega
      go_wp2
      go_roundw
      case rel => exact ⟨k + 1, _, by omega, by go_num, ⟨HL2.out, HD2.out⟩, HV2.out, HR2.out, HI2.out, HG2.out⟩
      case measure => simp [intOf]; omega
    · have hk8 : k = 8 := by omega
      subst hk8
      obtain ⟨ho1, ho2⟩ := ho.out
      have hv : ∀ i, i < 8 → wr.cell? ⟨w.heap.size + 1, i, none⟩ = some (.int .u64 (f i : Nat)) := fun i hi => by rw [owns_cell hV ho1 i hi, ho2 i hi]; rfl
      have hr : ∀ i, i < 8 → wr.cell? ⟨w.heap.size, i, none⟩ = some (.int .u64 (dg (List.replicate 8 0) i : Nat)) := fun i hi => owns_cell hR (by simp) i hi
      have hfr : ∀ i, wr.frozen? ⟨w.heap.size, i, none⟩ = false := fun i => hR.frozenAt i
      clear ho ho1 ho2 hV hR
      have HI := hide hI
      have HG := hide hgr
      clear hI hgr
      go_wp2
      have hb8 := below_set8 (Below.refl w.heap.size wr) w.heap.size (Nat.le_refl _) (.int .u64 (f 0 : Nat)) (.int .u64 (f 1 : Nat)) (.int .u64 (f 2 : Nat)) (.int .u64 (f 3 : Nat)) (.int .u64 (f 4 : Nat)) (.int .u64 (f 5 : Nat)) (.int .u64 (f 6 : Nat)) (.int .u64 (f 7 : Nat))
      exact bodyPost_ret (v := .agg #[.int .u64 (f 0 : Nat), .int .u64 (f 1 : Nat), .int .u64 (f 2 : Nat), .int .u64 (f 3 : Nat), .int .u64 (f 4 : Nat), .int .u64 (f 5 : Nat), .int .u64 (f 6 : Nat), .int .u64 (f 7 : Nat)]) (by simp [results, Try.results87, go_sem, hr]) rfl ⟨rfl, unhide HS _ _ _ HI.out hb8, grownBy_then HG.out (Nat.le_refl _) hb8⟩

end Go.Proofs.Yteocibahclpegaa

/- Contracts: wide.chain. -/
set_option linter.unusedVariables false
set_option linter.unusedSimpArgs false
set_option maxRecDepth 8000
namespace Go.Proofs.Yteocibahclpegaa
open Go.RowKit Plain

/-- The block b holds the limbs of a. -/
def Lies (w : World) (b a : Nat) : Prop := ∀ i, i < 8 → w.cell? ⟨b, i, none⟩ = some (.int .u64 (dgl a i : Nat))
theorem Lies.below {w w' : World} {b a B : Nat} (h : Lies w b a) (hb : Below B w w') (hlt : b < B) : Lies w' b a :=
  fun i hi => (hb.cell (p := ⟨b, i, none⟩) hlt).trans (h i hi)

theorem dgl_zero (i : Nat) : dgl 0 i = 0 := by simp [dgl]

theorem lies_alloc (w : World) (a : Nat) (e : TypeId) : Lies (w.alloc (.cells #[.int .u64 (dgl (a) 0 : Nat), .int .u64 (dgl (a) 1 : Nat), .int .u64 (dgl (a) 2 : Nat), .int .u64 (dgl (a) 3 : Nat), .int .u64 (dgl (a) 4 : Nat), .int .u64 (dgl (a) 5 : Nat), .int .u64 (dgl (a) 6 : Nat), .int .u64 (dgl (a) 7 : Nat)] e)) w.heap.size a := by
  intro i hi
  rw [cell_of_row _ w.heap.size i #[.int .u64 (dgl (a) 0 : Nat), .int .u64 (dgl (a) 1 : Nat), .int .u64 (dgl (a) 2 : Nat), .int .u64 (dgl (a) 3 : Nat), .int .u64 (dgl (a) 4 : Nat), .int .u64 (dgl (a) 5 : Nat), .int .u64 (dgl (a) 6 : Nat), .int .u64 (dgl (a) 7 : Nat)] e (0, 0) (heap_alloc_new w _)]
  match i, hi with
  | 0, _ => rfl
  | 1, _ => rfl
  | 2, _ => rfl
  | 3, _ => rfl
  | 4, _ => rfl
  | 5, _ => rfl
  | 6, _ => rfl
  | 7, _ => rfl
theorem lies_alloc0 (w : World) (e : TypeId) : Lies (w.alloc (.cells #[.int .u64 0, .int .u64 0, .int .u64 0, .int .u64 0, .int .u64 0, .int .u64 0, .int .u64 0, .int .u64 0] e)) w.heap.size 0 := by
  have h := lies_alloc w 0 e
  simp only [dgl_zero] at h
  exact h
theorem Lies.alloc {w : World} {b a : Nat} (h : Lies w b a) (hlt : b < w.heap.size) (o : Obj) : Lies (w.alloc o) b a :=
  h.below ((Below.refl _ _).alloc (Nat.le_refl _) o) hlt

/-- The box of a result, behind a call that left what was there. -/
theorem res_box {X w1 : World} {e : TypeId} (hb : Below (X.alloc (.cells #[.int .u64 0, .int .u64 0, .int .u64 0, .int .u64 0, .int .u64 0, .int .u64 0, .int .u64 0, .int .u64 0] e)).heap.size (X.alloc (.cells #[.int .u64 0, .int .u64 0, .int .u64 0, .int .u64 0, .int .u64 0, .int .u64 0, .int .u64 0, .int .u64 0] e)) w1) :
    (∀ i, i < 8 → w1.cell? ⟨X.heap.size, i, none⟩ = some (.int .u64 (dgl 0 i : Nat))) ∧ (∀ i, w1.frozen? ⟨X.heap.size, i, none⟩ = false) ∧ X.heap.size < w1.heap.size := by
  have h1 := hb.size
  simp only [World.size_alloc] at h1
  refine ⟨(lies_alloc0 X e).below hb (by simp), fun i => ?_, by omega⟩
  rw [hb.frozen (p := ⟨X.heap.size, i, none⟩) (by simp)]
  simp [go_sem]

set_option maxHeartbeats 400000 in
theorem chain1_any (fid k D A B C a b c s c' : Nat) (w : World) (hent : ∀ args w, (callFunc fid args).run Try.prog w = .ok (.enter fid args) w)
    (hdo : ∀ w, Calls Try.prog fid #[.int .u64 (dgl a k : Nat), .int .u64 (dgl b k : Nat), .int .u64 (c : Nat)] w fun e w' => e = .returned (.tuple #[.int .u64 (s : Nat), .int .u64 (c' : Nat)]) ∧ w' = w)
    (hk : k < 8) (cD : w.cell? ⟨D, 0, none⟩ = some (.func (.func fid) #[] #[])) (cA : Lies w A a) (cB : Lies w B b)
    (cC : w.cell? ⟨C, 0, none⟩ = some (.int .u64 (c : Nat))) (fC : w.frozen? ⟨C, 0, none⟩ = false) :
    Calls Try.prog 101 #[.int .i64 k, .pointer (some ⟨D, 0, none⟩), .pointer (some ⟨A, 0, none⟩), .pointer (some ⟨B, 0, none⟩), .pointer (some ⟨C, 0, none⟩)] w fun e w' =>
      e = .returned (.int .u64 (s : Nat)) ∧ ∃ q, w' = (w.drewN q).setCell ⟨C, 0, none⟩ (.int .u64 (c' : Nat)) := by
  have c1 := cA k hk
  have c2 := cB k hk
  have hj : (k : Int) < 8 := by omega
  have HDO := hide hdo
  clear hdo cA cB
  go_enter Try.func101, Try.ntmps101
  go_wp2
  refine wp_region_still_tail 13 mixedOk (by kernel_rfl) ?_
  simp only [List.take_succ_cons, List.take_zero, List.drop_succ_cons, List.drop_zero]
  change wpStill _ _ w.drew _ _ _
  repeat still_step
  still_call (HDO.out _)
  repeat still_step
  refine wpStill_nil ?_
  go_wp2
  go_ret
  exact ⟨rfl, 1, rfl⟩

/-- What the closure of wide.chain finds in its boxes behind k places. -/
structure ChainInv (fid a b B : Nat) (g : Nat → Nat) (w : World) (k : Nat) (wr : World) : Prop where
  d : wr.cell? ⟨B, 0, none⟩ = some (.func (.func fid) #[] #[])
  a : Lies wr (B + 1) a
  b : Lies wr (B + 1 + 1) b
  c : wr.cell? ⟨B + 1 + 1 + 1 + 1, 0, none⟩ = some (.int .u64 (g k : Nat))
  f : wr.frozen? ⟨B + 1 + 1 + 1 + 1, 0, none⟩ = false
  r : Lies wr (B + 1 + 1 + 1) 0
  rf : ∀ i, wr.frozen? ⟨B + 1 + 1 + 1, i, none⟩ = false
  bel : Below B w wr

theorem ChainInv.below {fid a b B : Nat} {g : Nat → Nat} {w wr wr' : World} {k : Nat} (h : ChainInv fid a b B g w k wr) (hb : Below (B + 1 + 1 + 1 + 1 + 1) wr wr') : ChainInv fid a b B g w k wr' :=
  ⟨(hb.cell (p := ⟨B, 0, none⟩) (show B < B + 1 + 1 + 1 + 1 + 1 by omega)).trans h.d, h.a.below hb (by omega), h.b.below hb (by omega),
   (hb.cell (p := ⟨B + 1 + 1 + 1 + 1, 0, none⟩) (show B + 1 + 1 + 1 + 1 < B + 1 + 1 + 1 + 1 + 1 by omega)).trans h.c, (hb.frozen (p := ⟨B + 1 + 1 + 1 + 1, 0, none⟩) (show B + 1 + 1 + 1 + 1 < B + 1 + 1 + 1 + 1 + 1 by omega)).trans h.f,
   h.r.below hb (by omega), fun i => (hb.frozen (p := ⟨B + 1 + 1 + 1, i, none⟩) (show B + 1 + 1 + 1 < B + 1 + 1 + 1 + 1 + 1 by omega)).trans (h.rf i), h.bel.trans (hb.mono (by omega))⟩

theorem ChainInv.step {fid a b B : Nat} {g : Nat → Nat} {w wr : World} {k : Nat} (h : ChainInv fid a b B g w k wr) (q : Nat) :
    ChainInv fid a b B g w (k + 1) ((wr.drewN q).setCell ⟨B + 1 + 1 + 1 + 1, 0, none⟩ (.int .u64 (g (k + 1) : Nat))) := by
  have hb : Below (B + 1 + 1 + 1 + 1) wr ((wr.drewN q).setCell ⟨B + 1 + 1 + 1 + 1, 0, none⟩ (.int .u64 (g (k + 1) : Nat))) := Below.setCell (p := ⟨B + 1 + 1 + 1 + 1, 0, none⟩) (below_drewN' (Below.refl (B + 1 + 1 + 1 + 1) wr) q) (Nat.le_refl _) _
  refine ⟨(hb.cell (p := ⟨B, 0, none⟩) (show B < B + 1 + 1 + 1 + 1 by omega)).trans h.d, h.a.below hb (by omega), h.b.below hb (by omega), ?_, ?_, h.r.below hb (by omega), fun i => (hb.frozen (p := ⟨B + 1 + 1 + 1, i, none⟩) (show B + 1 + 1 + 1 < B + 1 + 1 + 1 + 1 by omega)).trans (h.rf i), h.bel.trans (hb.mono (by omega))⟩
  · have h1 : (wr.drewN q).cell? ⟨B + 1 + 1 + 1 + 1, 0, none⟩ = some (.int .u64 (g k : Nat)) := h.c
    exact World.cell?_setCell_same (wr.drewN q) ⟨B + 1 + 1 + 1 + 1, 0, none⟩ (.int .u64 (g (k + 1) : Nat)) h1
  · have h1 : (wr.drewN q).frozen? ⟨B + 1 + 1 + 1 + 1, 0, none⟩ = false := h.f
    simp [h1]

theorem app4 (x a b c d : Value) : (#[x] ++ #[a, b, c, d] : Array Value) = #[x, a, b, c, d] := rfl

theorem ChainInv.start (fid a b : Nat) (g : Nat → Nat) (w : World) (hg : g 0 = 0) :
    ChainInv fid a b w.heap.size g w 0 (((((w.alloc (Obj.cells #[Value.func (Fn.func fid) #[] #[]] 122)).alloc (Obj.cells #[.int .u64 (dgl (a) 0 : Nat), .int .u64 (dgl (a) 1 : Nat), .int .u64 (dgl (a) 2 : Nat), .int .u64 (dgl (a) 3 : Nat), .int .u64 (dgl (a) 4 : Nat), .int .u64 (dgl (a) 5 : Nat), .int .u64 (dgl (a) 6 : Nat), .int .u64 (dgl (a) 7 : Nat)] 32)).alloc (Obj.cells #[.int .u64 (dgl (b) 0 : Nat), .int .u64 (dgl (b) 1 : Nat), .int .u64 (dgl (b) 2 : Nat), .int .u64 (dgl (b) 3 : Nat), .int .u64 (dgl (b) 4 : Nat), .int .u64 (dgl (b) 5 : Nat), .int .u64 (dgl (b) 6 : Nat), .int .u64 (dgl (b) 7 : Nat)] 32)).alloc
      (Obj.cells #[.int .u64 0, .int .u64 0, .int .u64 0, .int .u64 0, .int .u64 0, .int .u64 0, .int .u64 0, .int .u64 0] 32)).alloc (Obj.cells #[Value.int IntKind.u64 0] 24)) := by
  have hA := lies_alloc (w.alloc (Obj.cells #[Value.func (Fn.func fid) #[] #[]] 122)) a 32
  have hB := lies_alloc ((w.alloc (Obj.cells #[Value.func (Fn.func fid) #[] #[]] 122)).alloc (Obj.cells #[.int .u64 (dgl (a) 0 : Nat), .int .u64 (dgl (a) 1 : Nat), .int .u64 (dgl (a) 2 : Nat), .int .u64 (dgl (a) 3 : Nat), .int .u64 (dgl (a) 4 : Nat), .int .u64 (dgl (a) 5 : Nat), .int .u64 (dgl (a) 6 : Nat), .int .u64 (dgl (a) 7 : Nat)] 32)) b 32
  have hR := lies_alloc0 (((w.alloc (Obj.cells #[Value.func (Fn.func fid) #[] #[]] 122)).alloc (Obj.cells #[.int .u64 (dgl (a) 0 : Nat), .int .u64 (dgl (a) 1 : Nat), .int .u64 (dgl (a) 2 : Nat), .int .u64 (dgl (a) 3 : Nat), .int .u64 (dgl (a) 4 : Nat), .int .u64 (dgl (a) 5 : Nat), .int .u64 (dgl (a) 6 : Nat), .int .u64 (dgl (a) 7 : Nat)] 32)).alloc (Obj.cells #[.int .u64 (dgl (b) 0 : Nat), .int .u64 (dgl (b) 1 : Nat), .int .u64 (dgl (b) 2 : Nat), .int .u64 (dgl (b) 3 : Nat), .int .u64 (dgl (b) 4 : Nat), .int .u64 (dgl (b) 5 : Nat), .int .u64 (dgl (b) 6 : Nat), .int .u64 (dgl (b) 7 : Nat)] 32)) 32
  simp only [World.size_alloc] at hA hB hR
  refine ⟨by simp [go_sem], ((hA.alloc (by simp) _).alloc (by simp) _).alloc (by simp) _, (hB.alloc (by simp) _).alloc (by simp) _, by rw [hg]; simp [go_sem], by simp [go_sem], hR.alloc (by simp) _, fun i => by simp [go_sem], ?_⟩
  exact Below.alloc (Below.alloc (Below.alloc (Below.alloc (Below.alloc (Below.refl _ _) (Nat.le_refl _) _) (by simp) _) (by simp; omega) _) (by simp; omega) _) (by simp; omega) _

set_option maxHeartbeats 1000000 in
theorem chain_any (fid a b : Nat) (f g : Nat → Nat) (w : World) (hent : ∀ args w, (callFunc fid args).run Try.prog w = .ok (.enter fid args) w)
    (hdo : ∀ i, i < 8 → ∀ w, Calls Try.prog fid #[.int .u64 (dgl a i : Nat), .int .u64 (dgl b i : Nat), .int .u64 (g i : Nat)] w fun e w' => e = .returned (.tuple #[.int .u64 (f i : Nat), .int .u64 (g (i + 1) : Nat)]) ∧ w' = w)
    (hg0 : g 0 = 0) :
    Calls Try.prog 83 #[.func (.func fid) #[] #[], .agg #[.int .u64 (dgl (a) 0 : Nat), .int .u64 (dgl (a) 1 : Nat), .int .u64 (dgl (a) 2 : Nat), .int .u64 (dgl (a) 3 : Nat), .int .u64 (dgl (a) 4 : Nat), .int .u64 (dgl (a) 5 : Nat), .int .u64 (dgl (a) 6 : Nat), .int .u64 (dgl (a) 7 : Nat)], .agg #[.int .u64 (dgl (b) 0 : Nat), .int .u64 (dgl (b) 1 : Nat), .int .u64 (dgl (b) 2 : Nat), .int .u64 (dgl (b) 3 : Nat), .int .u64 (dgl (b) 4 : Nat), .int .u64 (dgl (b) 5 : Nat), .int .u64 (dgl (b) 6 : Nat), .int .u64 (dgl (b) 7 : Nat)]] w fun e w' => e = .returned (.tuple #[.agg #[.int .u64 (f 0 : Nat), .int .u64 (f 1 : Nat), .int .u64 (f 2 : Nat), .int .u64 (f 3 : Nat), .int .u64 (f 4 : Nat), .int .u64 (f 5 : Nat), .int .u64 (f 6 : Nat), .int .u64 (f 7 : Nat)], .bool ((g 8 : Int) != 0)]) ∧ Below w.heap.size w w' := by
  have HDO := hide hdo
  have HG := hide hg0
  clear hdo hg0
  go_enter Try.func83, Try.ntmps83
  go_wp2_with fail
  refine (each_any 101 _ f (fun k wr => ChainInv fid a b w.heap.size g w k wr) (some (w.heap.size + 1 + 1 + 1 + 1)) _ (enters_of Try.func101 (by kernel_rfl) rfl) (by intro c hc; simp at hc; subst hc; simp) ?_ ?_ ?_).mono ?_
  · intro i wr hi hI hsz
    rw [app4]
    refine (chain1_any fid i w.heap.size (w.heap.size + 1) (w.heap.size + 1 + 1) (w.heap.size + 1 + 1 + 1 + 1) a b (g i) (f i) (g (i + 1)) wr hent (HDO.out i hi) hi hI.d hI.a hI.b hI.c hI.f).mono ?_
    rintro e w' ⟨rfl, q, rfl⟩
    refine ⟨rfl, hI.step q, ?_⟩
    exact ⟨rfl, rfl, rfl, by simp, fun k _ hk => Below.heap_setCell _ _ _ _ (fun e => hk (by rw [e]))⟩
  · intro i wr wr' hI hb
    exact hI.below (hb.mono (by simp))
  · exact ChainInv.start fid a b g w HG.out
  · rintro e w1 ⟨rfl, hI, hg⟩
    have hsz := hg.size
    simp only [World.size_alloc] at hsz
    have hr := hI.r
    have hrf := hI.rf
    have hc := hI.c
    have hbel := hI.bel
    have HB := hide hbel
    clear hg hI hbel
    unfold Lies at hr
    have hl1 : w.heap.size + 1 + 1 + 1 < w1.heap.size := by omega
    have hl2 : w.heap.size + 1 + 1 + 1 + 1 < w1.heap.size := by omega
    go_wp2
    go_region
    all_goals
      go_wp2
      refine bodyPost_ret (v := .tuple #[.agg #[.int .u64 (f 0 : Nat), .int .u64 (f 1 : Nat), .int .u64 (f 2 : Nat), .int .u64 (f 3 : Nat), .int .u64 (f 4 : Nat), .int .u64 (f 5 : Nat), .int .u64 (f 6 : Nat), .int .u64 (f 7 : Nat)], .bool ((g 8 : Int) != 0)]) (by simp [results, Try.results83, go_sem, hr, hl1]) rfl ⟨rfl, ?_⟩
      exact ((below_set8 HB.out (w.heap.size + 1 + 1 + 1) (by omega) _ _ _ _ _ _ _ _).alloc (by simp; omega) _).drew

end Go.Proofs.Yteocibahclpegaa

/- Contracts of radicandref01: Len, cut, Bits. -/
set_option linter.unusedVariables false
set_option linter.unusedSimpArgs false
set_option maxRecDepth 8000
namespace Go.Proofs.Yteocibahclpegaa
open Go.RowKit Plain

theorem lenBB {n i d : Nat} (hd : n / BB ^ i % BB = d) (hd0 : d ≠ 0) (hn : n < BB ^ (i + 1)) : Go.bitLen n = 32 * i + Go.bitLen d := by
  have hlt : n / BB ^ i < BB := by
    rw [Nat.div_lt_iff_lt_mul (Nat.pow_pos (by decide))]; rw [Nat.pow_succ, Nat.mul_comm] at hn; exact hn
  rw [Nat.mod_eq_of_lt hlt] at hd
  have e : BB ^ i = 2 ^ (32 * i) := by rw [Nat.pow_mul]; rfl
  rw [e] at hd
  rw [bitLen_shift n (32 * i) (by rw [hd]; exact hd0), hd]

theorem bitLen_le32 (d : Nat) (h : d < 4294967296) : Go.bitLen d ≤ 32 := by
  unfold Go.bitLen
  split
  · omega
  · rename_i h0
    have := (Nat.log2_lt h0).2 (show d < 2 ^ 32 from h)
    omega

set_option maxHeartbeats 1000000 in
theorem refLen_any (n K : Nat) (va : Value) (w : World) (ha : BigV w va n K) (hK : K ≤ 1000000) :
    Calls Try.prog 28 #[va] w fun e w' => e = .returned (.int .i64 (Go.bitLen n : Nat)) ∧ w' = w := by
  obtain ⟨l0, hr0, hd0, hn0, hl0⟩ := ha
  have HR0 := hide hr0
  have HD0 := hide hd0
  clear hr0 hd0 hn0
  go_enter Try.func28, Try.ntmps28
  go_wp2_with fail
  refine (trim_any l0 n K _ _ HR0.out HD0.out hl0).mono ?_
  rintro e w' ⟨v, rfl, ⟨l, ⟨ao, ca, rfl, hca, hma, hra⟩, hd, hn, hl⟩, hw⟩
  subst w'
  unfold maxLen at hma
  have HN := hide hn
  have HD := hide hd
  have RA := hide hra
  clear hn hd hra
  by_cases h0 : l.length = 0
  · have hq : ((l.length : Int) == 0) = true := by simp [h0]
    have H0 := hide h0
    clear h0
    go_wp2
    go_ret
    exact ⟨ret_int (by
      have := HD.out.1
      rw [H0.out] at this
      simp at this
      rw [this]; rfl), rfl⟩
  · have hq : ((l.length : Int) == 0) = false := beq_eq_false_iff_ne.2 (by omega)
    rcases unhide RA with hc | ⟨b, off, rfl, hbl, hcell⟩
    · omega
    · have c1 : w.cell? ⟨b, off + (l.length - 1), none⟩ = some (.int .u32 (dg l (l.length - 1) : Nat)) := hcell (l.length - 1) (by omega)
      have hb1 : dg l (l.length - 1) < 4294967296 := HD.out.lt (by decide) _
      have hdd := HD.out.2 (l.length - 1)
      have hd0 : dg l (l.length - 1) ≠ 0 := by
        have h1 := HN.out
        rcases h1 with h1 | h1
        · omega
        · intro hz
          rw [hdd] at hz
          have := lt_of_digit_zero (β := BB) (k := l.length - 1) (by decide) (by have := HD.out.1; rw [show l.length - 1 + 1 = l.length by omega]; exact this) hz
          omega
      have hlen := lenBB hdd.symm hd0 (by have := HD.out.1; rw [show l.length - 1 + 1 = l.length by omega]; exact this)
      have HLEN := hide hlen
      clear hcell hdd hlen
      generalize dg l (l.length - 1) = d0 at *
      obtain ⟨m, hm⟩ : ∃ m, l.length = m + 1 := ⟨l.length - 1, by omega⟩
      rw [hm] at c1 hca hl HLEN hq ⊢
      have H0 := hide h0
      have HMM := hide hm
      clear hm h0
      simp only [Nat.add_sub_cancel] at c1 HLEN
      have hidx : (m : Int) + 1 - 1 = (m : Int) := by omega
      have hbl0 := bitLen_le32 d0 hb1
      go_wp2
      go_loop [3, 4] (fun c d => ∃ cc x : Nat, c = .int .i64 cc ∧ d = .int .u32 x ∧ cc + Go.bitLen x = Go.bitLen d0 ∧ x < 4294967296) (fun _ d => (intOf d).toNat)
      case atStart => exact ⟨0, d0, rfl, rfl, by omega, hb1⟩
      case round =>
        obtain ⟨cc, x, rfl, rfl, hsum, hx⟩ := hrel
        have HS := hide hsum
        have hcc : cc ≤ 32 := by omega
        clear hsum
        by_cases hx0 : x = 0
        · subst hx0
          go_wp2
          go_ret
          exact ⟨ret_int (by
            rw [HLEN.out, ← HS.out]
            have : Go.bitLen 0 = 0 := rfl
            rw [this]; omega), rfl⟩
        · have hpos : 0 < x := by omega
          have HX := hide (bitLen_half x hx0)
          clear hx0
          go_wp2
          go_round
          case rel => exact ⟨cc + 1, x / 2, by go_num, by go_num, by have h1 := HX.out; have h2 := HS.out; omega, by omega⟩
          case measure => simp [intOf]; omega

end Go.Proofs.Yteocibahclpegaa

/- Contracts of radicandref01: Shift, Limbs. -/
set_option linter.unusedVariables false
set_option linter.unusedSimpArgs false
set_option maxRecDepth 8000
namespace Go.Proofs.Yteocibahclpegaa
open Go.RowKit Plain

end Go.Proofs.Yteocibahclpegaa

/- Contracts of radicandref01: Limbs. -/
set_option linter.unusedVariables false
set_option linter.unusedSimpArgs false
set_option maxRecDepth 8000
namespace Go.Proofs.Yteocibahclpegaa
open Go.RowKit Plain

end Go.Proofs.Yteocibahclpegaa

/- Contracts: wide.Add, wide.Sub. -/
set_option linter.unusedVariables false
set_option linter.unusedSimpArgs false
set_option maxRecDepth 8000
namespace Go.Proofs.Yteocibahclpegaa
open Go.RowKit Plain

def QQ : Nat := 18446744073709551616 ^ 8

theorem carry8 (a b : Nat) (ha : a < QQ) (hb : b < QQ) : (((carry 18446744073709551616 a b 8 : Nat) : Int) != 0) = decide (QQ ≤ a + b) := by
  unfold carry
  have ha' : a < 18446744073709551616 ^ 8 := ha
  have hb' : b < 18446744073709551616 ^ 8 := hb
  rw [Nat.mod_eq_of_lt ha', Nat.mod_eq_of_lt hb']
  have hq : 0 < 18446744073709551616 ^ 8 := Nat.pow_pos (by decide)
  unfold QQ
  generalize 18446744073709551616 ^ 8 = Q at *
  by_cases h : Q ≤ a + b
  · have := Nat.div_pos h hq
    rw [decide_eq_true h, bne_iff_ne]; omega
  · have h2 : (a + b) / Q = 0 := Nat.div_eq_of_lt (by omega)
    rw [decide_eq_false h, h2]; rfl
theorem borrow8 (a b : Nat) (ha : a < QQ) (hb : b < QQ) : (((bor 18446744073709551616 a b 8 : Nat) : Int) != 0) = decide (a < b) := by
  unfold bor
  have ha' : a < 18446744073709551616 ^ 8 := ha
  have hb' : b < 18446744073709551616 ^ 8 := hb
  rw [Nat.mod_eq_of_lt ha', Nat.mod_eq_of_lt hb']
  by_cases h : a < b
  · simp [h]
  · simp [h]

theorem w8_congr {x y : Nat → Nat} (h : ∀ i, i < 8 → x i = y i) : (#[.int .u64 (x 0 : Nat), .int .u64 (x 1 : Nat), .int .u64 (x 2 : Nat), .int .u64 (x 3 : Nat), .int .u64 (x 4 : Nat), .int .u64 (x 5 : Nat), .int .u64 (x 6 : Nat), .int .u64 (x 7 : Nat)] : Array Value) = #[.int .u64 (y 0 : Nat), .int .u64 (y 1 : Nat), .int .u64 (y 2 : Nat), .int .u64 (y 3 : Nat), .int .u64 (y 4 : Nat), .int .u64 (y 5 : Nat), .int .u64 (y 6 : Nat), .int .u64 (y 7 : Nat)] := by
  rw [h 0 (by decide), h 1 (by decide), h 2 (by decide), h 3 (by decide), h 4 (by decide), h 5 (by decide), h 6 (by decide), h 7 (by decide)]

set_option maxHeartbeats 400000 in
theorem wideAdd_any (a b : Nat) (ha : a < QQ) (hb : b < QQ) (w : World) :
    Calls Try.prog 79 #[.agg #[.int .u64 (dgl (a) 0 : Nat), .int .u64 (dgl (a) 1 : Nat), .int .u64 (dgl (a) 2 : Nat), .int .u64 (dgl (a) 3 : Nat), .int .u64 (dgl (a) 4 : Nat), .int .u64 (dgl (a) 5 : Nat), .int .u64 (dgl (a) 6 : Nat), .int .u64 (dgl (a) 7 : Nat)], .agg #[.int .u64 (dgl (b) 0 : Nat), .int .u64 (dgl (b) 1 : Nat), .int .u64 (dgl (b) 2 : Nat), .int .u64 (dgl (b) 3 : Nat), .int .u64 (dgl (b) 4 : Nat), .int .u64 (dgl (b) 5 : Nat), .int .u64 (dgl (b) 6 : Nat), .int .u64 (dgl (b) 7 : Nat)]] w fun e w' => e = .returned (.tuple #[.agg #[.int .u64 (dgl (a + b) 0 : Nat), .int .u64 (dgl (a + b) 1 : Nat), .int .u64 (dgl (a + b) 2 : Nat), .int .u64 (dgl (a + b) 3 : Nat), .int .u64 (dgl (a + b) 4 : Nat), .int .u64 (dgl (a + b) 5 : Nat), .int .u64 (dgl (a + b) 6 : Nat), .int .u64 (dgl (a + b) 7 : Nat)], .bool (decide (QQ ≤ a + b))]) ∧ Below w.heap.size w w' := by
  have hc := fun w => chain_any 99 a b (fun i => dgl (a + b) i) (fun i => carry 18446744073709551616 a b i) w (enters_of Try.func99 (by kernel_rfl) rfl) (by
    intro i hi w
    refine (limbAdd_any _ _ _ w (by omega) (by omega)).mono ?_
    rintro e w' ⟨rfl, rfl⟩
    exact ⟨by rw [sum_lo, sum_hi], rfl⟩) (carry_zero _ _ _)
  rw [← carry8 a b ha hb]
  have HC := hide hc
  clear hc ha hb
  go_enter Try.func79, Try.ntmps79
  go_wp2_with fail
  refine (HC.out _).mono ?_
  rintro e w1 ⟨rfl, hb1⟩
  obtain ⟨hr, hrf, hl⟩ := res_box hb1
  simp only [World.size_alloc] at hr hrf hl
  have HB := hide (below_alloc_then (below_alloc_then (below_alloc_then hb1)))
  clear hb1
  go_wp2
  exact bodyPost_ret (v := .tuple #[.agg #[.int .u64 (dgl (a + b) 0 : Nat), .int .u64 (dgl (a + b) 1 : Nat), .int .u64 (dgl (a + b) 2 : Nat), .int .u64 (dgl (a + b) 3 : Nat), .int .u64 (dgl (a + b) 4 : Nat), .int .u64 (dgl (a + b) 5 : Nat), .int .u64 (dgl (a + b) 6 : Nat), .int .u64 (dgl (a + b) 7 : Nat)], .bool (((carry 18446744073709551616 a b 8 : Nat) : Int) != 0)]) (by simp [results, Try.results79, go_sem, hr]) rfl ⟨rfl, below_set8 HB.out _ (by omega) _ _ _ _ _ _ _ _⟩

/-- a without b, modulo 2^512. -/
def subQ (a b : Nat) : Nat := subW 18446744073709551616 8 a b
theorem subQ_lt (a b : Nat) : subQ a b < QQ := subW_lt (by decide) 8 a b

theorem sub_hdo (a b i : Nat) (hi : i < 8) (w : World) :
    Calls Try.prog 84 #[.int .u64 (dgl a i : Nat), .int .u64 (dgl b i : Nat), .int .u64 (bor 18446744073709551616 a b i : Nat)] w fun e w' => e = .returned (.tuple #[.int .u64 (dgl (subQ a b) i : Nat), .int .u64 (bor 18446744073709551616 a b (i + 1) : Nat)]) ∧ w' = w := by
  refine (sub_nat _ _ _ (dgl_lt a i) (dgl_lt b i) w).mono ?_
  rintro e w' ⟨d, o, rfl, hd, ho, heq, rfl⟩
  refine ⟨?_, rfl⟩
  have h1 := sbd_eq (β := 18446744073709551616) (by decide) a b i
  have h2 : dgl (subQ a b) i = sbd 18446744073709551616 a b i := subW_digit (by decide) 8 a b i hi
  have h3 := bor_le 18446744073709551616 a b i
  have h4 := bor_le 18446744073709551616 a b (i + 1)
  have h5 : oneN (bor 18446744073709551616 a b i) = bor 18446744073709551616 a b i := by unfold oneN; split <;> omega
  rw [h5] at heq
  rw [h2]
  obtain ⟨h6, h7⟩ := h1
  have h8 : sbd 18446744073709551616 a b i + (dgl b i + bor 18446744073709551616 a b i) = dgl a i + 18446744073709551616 * bor 18446744073709551616 a b (i + 1) := h7
  generalize sbd 18446744073709551616 a b i = s at *
  generalize bor 18446744073709551616 a b (i + 1) = t at *
  generalize bor 18446744073709551616 a b i = u at *
  generalize dgl a i = x at *
  generalize dgl b i = y at *
  have e1 : o = t := by omega
  have e2 : d = s := by omega
  rw [e1, e2]

set_option maxHeartbeats 400000 in
theorem wideSub_any (a b : Nat) (ha : a < QQ) (hb : b < QQ) (w : World) :
    Calls Try.prog 58 #[.agg #[.int .u64 (dgl (a) 0 : Nat), .int .u64 (dgl (a) 1 : Nat), .int .u64 (dgl (a) 2 : Nat), .int .u64 (dgl (a) 3 : Nat), .int .u64 (dgl (a) 4 : Nat), .int .u64 (dgl (a) 5 : Nat), .int .u64 (dgl (a) 6 : Nat), .int .u64 (dgl (a) 7 : Nat)], .agg #[.int .u64 (dgl (b) 0 : Nat), .int .u64 (dgl (b) 1 : Nat), .int .u64 (dgl (b) 2 : Nat), .int .u64 (dgl (b) 3 : Nat), .int .u64 (dgl (b) 4 : Nat), .int .u64 (dgl (b) 5 : Nat), .int .u64 (dgl (b) 6 : Nat), .int .u64 (dgl (b) 7 : Nat)]] w fun e w' => e = .returned (.tuple #[.agg #[.int .u64 (dgl (subQ a b) 0 : Nat), .int .u64 (dgl (subQ a b) 1 : Nat), .int .u64 (dgl (subQ a b) 2 : Nat), .int .u64 (dgl (subQ a b) 3 : Nat), .int .u64 (dgl (subQ a b) 4 : Nat), .int .u64 (dgl (subQ a b) 5 : Nat), .int .u64 (dgl (subQ a b) 6 : Nat), .int .u64 (dgl (subQ a b) 7 : Nat)], .bool (decide (a < b))]) ∧ Below w.heap.size w w' := by
  have hc := fun w => chain_any 84 a b (fun i => dgl (subQ a b) i) (fun i => bor 18446744073709551616 a b i) w (enters_of Try.func84 (by kernel_rfl) rfl) (fun i hi w => sub_hdo a b i hi w) (bor_zero _ _ _)
  rw [← borrow8 a b ha hb]
  have HC := hide hc
  clear hc ha hb
  go_enter Try.func58, Try.ntmps58
  go_wp2_with fail
  refine (HC.out _).mono ?_
  rintro e w1 ⟨rfl, hb1⟩
  obtain ⟨hr, hrf, hl⟩ := res_box hb1
  simp only [World.size_alloc] at hr hrf hl
  have HB := hide (below_alloc_then (below_alloc_then (below_alloc_then hb1)))
  clear hb1
  go_wp2
  exact bodyPost_ret (v := .tuple #[.agg #[.int .u64 (dgl (subQ a b) 0 : Nat), .int .u64 (dgl (subQ a b) 1 : Nat), .int .u64 (dgl (subQ a b) 2 : Nat), .int .u64 (dgl (subQ a b) 3 : Nat), .int .u64 (dgl (subQ a b) 4 : Nat), .int .u64 (dgl (subQ a b) 5 : Nat), .int .u64 (dgl (subQ a b) 6 : Nat), .int .u64 (dgl (subQ a b) 7 : Nat)], .bool (((bor 18446744073709551616 a b 8 : Nat) : Int) != 0)]) (by simp [results, Try.results58, go_sem, hr]) rfl ⟨rfl, below_set8 HB.out _ (by omega) _ _ _ _ _ _ _ _⟩

end Go.Proofs.Yteocibahclpegaa

/- Contracts of radicandref01: Shl. -/
set_option linter.unusedVariables false
set_option linter.unusedSimpArgs false
set_option maxRecDepth 8000
namespace Go.Proofs.Yteocibahclpegaa
open Go.RowKit Plain

/-- What is carried into the digit k of n times T. -/
def shc (n T k : Nat) : Nat := n % BB ^ k * T / BB ^ k

theorem shc_zero (n T : Nat) : shc n T 0 = 0 := by unfold shc; simp [Nat.mod_one]
theorem shc_lt (n T k : Nat) (hT : 0 < T) : shc n T k < T := by
  unfold shc
  have hp : 0 < BB ^ k := Nat.pow_pos (by decide)
  rw [Nat.div_lt_iff_lt_mul hp, Nat.mul_comm T]
  exact Nat.mul_lt_mul_of_pos_right (Nat.mod_lt _ hp) hT
theorem shc_succ (n T k : Nat) : (shc n T k + dgt n k * T) / BB = shc n T (k + 1) := by
  unfold shc dgt
  have hp : 0 < BB ^ k := Nat.pow_pos (by decide)
  rw [Nat.pow_succ, Nat.mod_mul (x := n), Nat.add_mul, Nat.mul_assoc, ← Nat.div_div_eq_div_mul, Nat.add_mul_div_left _ _ hp]
theorem shc_digit (n T k : Nat) : (shc n T k + dgt n k * T) % BB = n * T / BB ^ k % BB := by
  unfold shc dgt
  have hp : 0 < BB ^ k := Nat.pow_pos (by decide)
  have e : n * T = n % BB ^ k * T + BB ^ k * (n / BB ^ k * T) := by
    rw [← Nat.mul_assoc, ← Nat.add_mul, Nat.mod_add_div]
  rw [e, Nat.add_mul_div_left _ _ hp]
  generalize n / BB ^ k = m
  generalize n % BB ^ k * T / BB ^ k = c
  have e2 : m * T = m % BB * T + BB * (m / BB * T) := by
    rw [← Nat.mul_assoc, ← Nat.add_mul, Nat.mod_add_div]
  rw [e2, ← Nat.add_assoc, Nat.add_mul_mod_self_left]

theorem dig_zeros' {β : Nat} (hβ : 0 < β) (k : Nat) {l : List Nat} {n : Nat} (h : Dig β l n) : Dig β (List.replicate k 0 ++ l) (n * β ^ k) := by
  have hv := dig_val hβ l n h
  have hd := val_dig (β := β) hβ (List.replicate k 0 ++ l) (fun i => by
    rcases Nat.lt_or_ge i k with h1 | h1
    · simp [dg, List.getElem?_append, h1]; exact hβ
    · have := h.lt hβ (i - k)
      simp only [dg, List.getD_eq_getElem?_getD] at this ⊢
      rw [List.getElem?_append_right (by simpa using h1)]
      simpa using this)
  rw [val_append, val_zeros, hv, List.length_replicate, Nat.zero_add, Nat.mul_comm] at hd
  exact hd

theorem shl_or (c d r : Nat) (hr : r < 32) (hc : c < 2 ^ r) (hd : d < 4294967296) :
    bits .or .u64 (c : Int) (IntKind.u64.wrap ((d : Int) * 2 ^ r)) = ((c + d * 2 ^ r : Nat) : Int) ∧ c + d * 2 ^ r < 18446744073709551616 := by
  have hp : 2 ^ r ≤ 2 ^ 31 := Nat.pow_le_pow_right (by decide) (by omega)
  have h31 : (2 : Nat) ^ 31 = 2147483648 := by decide
  have hm : d * 2 ^ r ≤ 4294967295 * 2147483648 := Nat.mul_le_mul (by omega) (by omega)
  have e1 : IntKind.u64.wrap ((d : Int) * 2 ^ r) = ((2 ^ r * d : Nat) : Int) := by
    have : (d : Int) * 2 ^ r = ((2 ^ r * d : Nat) : Int) := by rw [Int.natCast_mul, Int.natCast_pow, Int.mul_comm]; rfl
    rw [IntKind.wrap_u64, this, Nat.mul_comm]; omega
  rw [Nat.mul_comm] at hm
  rw [Nat.mul_comm d, e1, bits_or_u64_nat _ _ (by omega) (by omega), Nat.or_comm, Nat.add_comm, Nat.two_pow_add_eq_or_of_lt hc]
  exact ⟨rfl, by rw [← Nat.two_pow_add_eq_or_of_lt hc]; omega⟩

theorem bigpow (n s : Nat) : n * 2 ^ (s % 32) * BB ^ (s / 32) = n * 2 ^ s := by
  have e : BB = 2 ^ 32 := by decide
  rw [e, ← Nat.pow_mul, Nat.mul_assoc, ← Nat.pow_add]; congr 2; omega

set_option maxHeartbeats 2000000 in
theorem refShl_any (n K s : Nat) (va : Value) (w : World) (ha : BigV w va n K) (hK : K ≤ 1000000) (hs : s ≤ 100000) :
    Calls Try.prog 21 #[va, .int .i64 s] w fun e w' => ∃ v, e = .returned v ∧ BigV w' v (n * 2 ^ s) (s / 32 + K + 1) ∧ Below w.heap.size w w' := by
  have ha' := ha
  obtain ⟨la, ⟨ao, ca, rfl, hca, hma, -⟩, hda, -, hka⟩ := ha'
  unfold maxLen at hma
  have HA : Hid (n < BB ^ la.length) := hda.1
  clear hda
  generalize la.length = na at *
  obtain ⟨i0, hi, hz0, hz1, hz2⟩ := info_parts info32
  have hT0 : 0 < 2 ^ (s % 32) := Nat.two_pow_pos _
  have hT1 : 2 ^ (s % 32) ≤ 2147483648 := Nat.le_trans (Nat.pow_le_pow_right (by decide) (show s % 32 ≤ 31 by omega)) (by decide)
  have HOR := hide (fun k => shl_or (shc n (2 ^ (s % 32)) k) (dgt n k) (s % 32) (by omega) (shc_lt n _ k hT0) (dgt_lt n k))
  have HBP := hide (bigpow n s)
  obtain ⟨T, hT⟩ : ∃ T : Nat, T = 2 ^ (s % 32) := ⟨_, rfl⟩
  rw [← hT] at hT0 hT1 HOR HBP
  have HT := hide hT
  clear hT
  have hwi : IntKind.i64.wrap ((s : Int) / 32) = (s : Int) / 32 := by rw [IntKind.wrap_i64]; omega
  have hwm : (s : Int).tmod 32 = (s : Int) % 32 := Int.tmod_eq_emod_of_nonneg (by omega)
  have hwt : ((s : Int) % 32).toNat = s % 32 := by omega
  have hws : 0 ≤ (s : Int) % 32 := by omega
  go_enter Try.func21, Try.ntmps21
  go_wp2
  go_loopw [5, 6] (fun v i wr => ∃ k : Nat, k ≤ s / 32 ∧ i = .int .i64 k ∧
        wr.ownsRow w.heap.size 72 1 v k ((List.replicate k 0).map mk32) ∧ Below w.heap.size w wr)
      (fun _ i _ => s / 32 - (intOf i).toNat)
  case atStart => exact ⟨0, by omega, rfl, World.ownsRow_nil _ _ _ _, Below.refl _ _⟩
  case round =>
    obtain ⟨k, hk, rfl, hown, hbel⟩ := hrel
    have hsz := hbel.size
    by_cases hlt : k < s / 32
    · have hj : (k : Int) < (s : Int) / 32 := by omega
      go_wp2_with (at_builtin; go_must (refine wpList_app1 w wr rfl _ _ 36 rfl w.heap.size 72 i0 (.int .u32 0) 4 Try.underlying36 hi hz0 hz1 hz2 rfl mk32 _ _ _ (by rfl) hown hbel _ 0 rfl rfl (by rfl) (by omega) (by omega) (by omega) ?_); intro v' w1 hown1 hbel1; clear hown hbel hsz)
      go_roundw
      case rel => exact ⟨k + 1, by omega, by go_num, by rw [List.replicate_succ']; exact hown1, hbel1⟩
      case measure => simp [intOf]; omega
    · have hj : ¬ (k : Int) < (s : Int) / 32 := by omega
      have hk : k = s / 32 := by omega
      subst hk
      clear hj
      go_wp2
      go_loopw [5, 7, 8] (fun v c i wr => ∃ k : Nat, k ≤ na + 1 ∧ i = .int .i64 k ∧ c = .int .u64 (shc n T k : Nat) ∧
          wr.ownsRow w.heap.size 72 1 v (s / 32 + k) ((List.replicate (s / 32) 0 ++ dl BB (n * T) k).map mk32) ∧ Below w.heap.size w wr)
        (fun _ _ i _ => na + 1 - (intOf i).toNat)
      case atStart => exact ⟨0, by omega, rfl, by rw [shc_zero]; rfl, by simpa [dl] using hown, hbel⟩
      case round =>
        clear hown hbel hsz
        obtain ⟨k, hk, rfl, rfl, hown, hbel⟩ := hrel
        have ha1 := ha.below hbel
        have hsz := hbel.size
        by_cases hlt : k ≤ na
        · have hj : (k : Int) ≤ (na : Int) := by omega
          obtain ⟨hor, hX⟩ := HOR.out k
          have hd1 := shc_digit n T k
          have hc1 := shc_succ n T k
          generalize hXe : shc n T k + dgt n k * T = X at *
          clear hXe
          have HD1 := hide hd1
          have HC1 := hide hc1
          clear hd1 hc1
          generalize shc n T k = c at *
          go_wp2_with (first
            | (go_at_call 50; refine (digit_big _ _ k _ _ _ ha1 (by omega)).mono ?_; rintro e w' ⟨rfl, hw⟩; subst w')
            | (at_builtin; go_must (refine wpList_app1 w wr rfl _ _ 36 rfl w.heap.size 72 i0 (.int .u32 0) 4 Try.underlying36 hi hz0 hz1 hz2 rfl mk32 _ _ _ (by rfl) hown hbel _ (X % 4294967296) (congrArg (Value.int .u32) (show (X : Int) % 4294967296 = ((X % 4294967296 : Nat) : Int) by omega)) rfl (by rfl) (by omega) (by omega) (by omega) ?_); intro v' w1 hown1 hbel1; clear hown hbel ha1 hsz))
          go_roundw
          case rel =>
            refine ⟨_, _, _, _, _, _, _, _, _, _, _, _, _, _, _, _, _, _, _, _, _, _, _, _, ⟨k + 1, by omega, ?_, ?_, ?_, hbel1⟩, rfl⟩
            · go_num
            · exact congrArg (Value.int .u64) (by rw [← HC1.out]; unfold BB; omega)
            · rw [dl_succ, ← HD1.out, ← List.append_assoc]; exact hown1
          case measure => simp [intOf]; omega
        · have hj : ¬ (k : Int) ≤ (na : Int) := by omega
          have hk : k = na + 1 := by omega
          have hr := Rd.of_owns (l := List.replicate (s / 32) 0 ++ dl BB (n * T) k) (by rw [List.length_append, List.length_replicate, dl_length]; exact hown)
          have hnT : n * T < BB ^ k := by
            rw [hk, Nat.pow_succ]
            exact Nat.lt_of_lt_of_le (Nat.mul_lt_mul_of_pos_right HA.out hT0) (Nat.mul_le_mul_left _ (Nat.le_trans hT1 (by decide)))
          have hd := dig_zeros' (β := BB) (by decide) (s / 32) (dl_dig BB (n * T) k hnT (by decide))
          rw [HBP.out] at hd
          have hl : (List.replicate (s / 32) 0 ++ dl BB (n * T) k).length ≤ s / 32 + K + 1 := by rw [List.length_append, List.length_replicate, dl_length]; omega
          have HK := hide hk
          clear hown ha1 hk
          go_wp2_with (go_at_call 48; refine (trim_any _ _ (s / 32 + K + 1) _ _ hr hd hl).mono ?_; rintro e w' ⟨v', rfl, hbig, hw⟩; subst w')
          go_ret
          exact ⟨_, rfl, hbig, hbel⟩

end Go.Proofs.Yteocibahclpegaa

/- Contracts of radicandref01: Shr, Sub, Odd. -/
set_option linter.unusedVariables false
set_option linter.unusedSimpArgs false
set_option maxRecDepth 8000
namespace Go.Proofs.Yteocibahclpegaa
open Go.RowKit Plain

/-- One digit of a quotient by 2^r. -/
theorem shr_digit (n k r : Nat) (hr : r < 32) : (dgt n k + 4294967296 * dgt n (k + 1)) / 2 ^ r % 4294967296 = n / 2 ^ r / BB ^ k % BB := by
  unfold dgt
  have hT := Nat.two_pow_pos r
  have e1 : n / BB ^ (k + 1) = n / BB ^ k / BB := div_pow_succ n BB k
  have e0 : n / 2 ^ r / BB ^ k = n / BB ^ k / 2 ^ r := by rw [Nat.div_div_eq_div_mul, Nat.mul_comm, ← Nat.div_div_eq_div_mul]
  rw [e1, e0]
  generalize n / BB ^ k = m
  obtain ⟨s, hs⟩ : ∃ s, 32 = r + s := ⟨32 - r, by omega⟩
  have eB : BB = 2 ^ r * 2 ^ s := by rw [← Nat.pow_add, ← hs]; rfl
  have e2 : m = (m % BB + BB * (m / BB % BB)) + BB * BB * (m / BB / BB) := by
    have h1 := Nat.mod_add_div m BB
    have h2 := Nat.mod_add_div (m / BB) BB
    generalize m / BB / BB = q at *
    generalize m / BB % BB = d at *
    generalize hX : m / BB = X at *
    rw [← h2, Nat.mul_add, ← Nat.add_assoc, ← Nat.mul_assoc] at h1
    exact h1.symm
  show (m % BB + BB * (m / BB % BB)) / 2 ^ r % BB = m / 2 ^ r % BB
  conv => rhs; rw [e2]
  have e3 : BB * BB * (m / BB / BB) = 2 ^ r * (BB * (2 ^ s * (m / BB / BB))) := by
    conv => lhs; rw [show BB * BB = (2 ^ r * 2 ^ s) * BB from by rw [← eB]]
    simp only [Nat.mul_left_comm, Nat.mul_comm]
  rw [e3, Nat.add_mul_div_left _ _ hT, Nat.add_mul_mod_self_left]

theorem shr_or (c d : Nat) (hc : c < 4294967296) (hd : d < 4294967296) :
    bits .or .u64 (c : Int) ((d : Int) * 4294967296) = ((c + 4294967296 * d : Nat) : Int) := by
  have e : (d : Int) * 4294967296 = ((2 ^ 32 * d : Nat) : Int) := by omega
  rw [e, bits_or_u64_nat _ _ (by omega) (by omega), Nat.or_comm, ← Nat.two_pow_add_eq_or_of_lt (by omega)]
  omega

theorem shr_pow (n s : Nat) : n / 2 ^ (s % 32) / BB ^ (s / 32) = n / 2 ^ s := by
  have e : BB = 2 ^ 32 := by decide
  rw [e, ← Nat.pow_mul, Nat.div_div_eq_div_mul, ← Nat.pow_add]; congr 2; omega

theorem shr_digit' (n s k : Nat) : (dgt n (s / 32 + k) + 4294967296 * dgt n (s / 32 + k + 1)) / 2 ^ (s % 32) % 4294967296 = n / 2 ^ s / BB ^ k % BB := by
  rw [shr_digit n (s / 32 + k) (s % 32) (by omega), Nat.pow_add, ← Nat.div_div_eq_div_mul, shr_pow]

theorem shr_fits (n s len k : Nat) (hn : n < BB ^ len) (hk : s / 32 + k = max len (s / 32)) : n / 2 ^ s < BB ^ k := by
  rw [← shr_pow, Nat.div_lt_iff_lt_mul (Nat.pow_pos (by decide)), ← Nat.pow_add]
  refine Nat.lt_of_le_of_lt (Nat.div_le_self _ _) (Nat.lt_of_lt_of_le hn (Nat.pow_le_pow_right (by decide) (by omega)))

set_option maxHeartbeats 1000000 in
theorem refShr_any (n K s : Nat) (va : Value) (w : World) (ha : BigV w va n K) (hK : K ≤ 1000000) (hs : s ≤ 100000) :
    Calls Try.prog 35 #[va, .int .i64 s] w fun e w' => ∃ v, e = .returned v ∧ BigV w' v (n / 2 ^ s) K ∧ Below w.heap.size w w' := by
  have ha' := ha
  obtain ⟨la, ⟨ao, ca, rfl, hca, hma, -⟩, hda, -, hka⟩ := ha'
  unfold maxLen at hma
  have HA : Hid (n < BB ^ la.length) := hda.1
  clear hda
  generalize la.length = na at *
  obtain ⟨i0, hi, hz0, hz1, hz2⟩ := info_parts info32
  have hwi : IntKind.i64.wrap ((s : Int) / 32) = (s : Int) / 32 := by rw [IntKind.wrap_i64]; omega
  have hwm : (s : Int).tmod 32 = (s : Int) % 32 := Int.tmod_eq_emod_of_nonneg (by omega)
  have hwt : ((s : Int) % 32).toNat = s % 32 := by omega
  have hws : 0 ≤ (s : Int) % 32 := by omega
  have hmin : min (s % 32) 64 = s % 32 := by omega
  go_enter Try.func35, Try.ntmps35
  go_wp2
  go_loopw [5, 6] (fun v i wr => ∃ k : Nat, s / 32 + k ≤ max na (s / 32) ∧ i = .int .i64 ((s / 32 + k : Nat) : Int) ∧
        wr.ownsRow w.heap.size 72 1 v k ((dl BB (n / 2 ^ s) k).map mk32) ∧ Below w.heap.size w wr)
      (fun _ i _ => max na (s / 32) - (intOf i).toNat)
  case atStart => exact ⟨0, by omega, congrArg (Value.int .i64) (by omega), World.ownsRow_nil _ _ _ _, Below.refl _ _⟩
  case round =>
    obtain ⟨k, hk, rfl, hown, hbel⟩ := hrel
    have hsz := hbel.size
    have ha1 := ha.below hbel
    have HD := hide (shr_digit' n s k)
    generalize hj : s / 32 + k = j at *
    by_cases hlt : j < na
    · have hjl : (j : Int) < (na : Int) := by omega
      have d0 := dgt_lt n j
      have d1 := dgt_lt n (j + 1)
      have hor := shr_or _ _ d0 d1
      have hwd : IntKind.u64.wrap ((dgt n (j + 1) : Int) * 4294967296) = (dgt n (j + 1) : Int) * 4294967296 := by rw [IntKind.wrap_u64]; omega
      generalize hX : dgt n j + 4294967296 * dgt n (j + 1) = X at *
      have hXl : X < 18446744073709551616 := by omega
      clear hX
      have HXE := hide (show (X : Int) / 2 ^ (s % 32) % 4294967296 = ((X / 2 ^ (s % 32) % 4294967296 : Nat) : Int) by rw [Int.natCast_emod, Int.natCast_ediv, Int.natCast_pow]; rfl)
      go_wp2_with (first
        | (go_at_call 50; first | (refine (digit_big n _ j _ _ _ ha1 (by with_reducible rfl)).mono ?_; rintro e w' ⟨rfl, hw⟩; subst w') | (refine (digit_big n _ (j + 1) _ _ _ ha1 (by omega)).mono ?_; rintro e w' ⟨rfl, hw⟩; subst w'))
        | (at_builtin; go_must (refine wpList_app1 w wr rfl _ _ 36 rfl w.heap.size 72 i0 (.int .u32 0) 4 Try.underlying36 hi hz0 hz1 hz2 rfl mk32 _ _ _ (by rfl) hown hbel _ (X / 2 ^ (s % 32) % 4294967296) (congrArg (Value.int .u32) HXE.out) rfl (by rfl) (by omega) (by omega) (by omega) ?_); intro v' w1 hown1 hbel1; clear hown hbel ha1 hsz))
      go_roundw
      case rel => exact ⟨k + 1, by omega, congrArg (Value.int .i64) (by omega), by rw [dl_succ, ← HD.out]; exact hown1, hbel1⟩
      case measure => simp [intOf]; omega
    · have hjl : ¬ (j : Int) < (na : Int) := by omega
      have hr := Rd.of_owns (l := dl BB (n / 2 ^ s) k) (by rw [dl_length]; exact hown)
      have hd := dl_dig BB (n / 2 ^ s) k (shr_fits n s na k HA.out (by omega)) (by decide)
      have hl := dl_length BB (n / 2 ^ s) k
      clear hown ha1
      go_wp2_with (go_at_call 48; refine (trim_any _ _ K _ _ hr hd (by omega)).mono ?_; rintro e w' ⟨v', rfl, hbig, hw⟩; subst w')
      go_ret
      exact ⟨_, rfl, hbig, hbel⟩

end Go.Proofs.Yteocibahclpegaa

/- Contracts of radicandref01: Sub, Odd. -/
set_option linter.unusedVariables false
set_option linter.unusedSimpArgs false
set_option maxRecDepth 8000
namespace Go.Proofs.Yteocibahclpegaa
open Go.RowKit Plain

theorem subW_sub {β : Nat} (hβ : 0 < β) (K n m : Nat) (hn : n < β ^ K) (hm : m ≤ n) : subW β K n m = n - m := by
  have h := subW_eq hβ K n m
  have hl := subW_lt hβ K n m
  rw [Nat.mod_eq_of_lt hn, Nat.mod_eq_of_lt (Nat.lt_of_le_of_lt hm hn)] at h
  have hb := bor_le β n m K
  rcases (show bor β n m K = 0 ∨ bor β n m K = 1 by omega) with e | e
  · rw [e] at h; omega
  · rw [e] at h; omega

theorem sub_step (n m k : Nat) : ∃ X, X = dgt n k + 4294967296 - dgt m k - bor BB n m k ∧ dgt m k + bor BB n m k ≤ dgt n k + 4294967296 ∧ X % 4294967296 = sbd BB n m k ∧ 1 - X / 4294967296 = bor BB n m (k + 1) ∧ X < 8589934592 ∧ X / 4294967296 ≤ 1 := by
  obtain ⟨h1, h2⟩ := sbd_eq (β := BB) (by decide) n m k
  have hb := bor_le BB n m k
  have hb2 := bor_le BB n m (k + 1)
  have d0 := dgt_lt n k
  have d1 := dgt_lt m k
  have h2' : sbd BB n m k + (dgt m k + bor BB n m k) = dgt n k + 4294967296 * bor BB n m (k + 1) := h2
  have h1' : sbd BB n m k < 4294967296 := h1
  refine ⟨_, rfl, by omega, ?_, ?_, ?_, ?_⟩
  · rcases (show bor BB n m (k + 1) = 0 ∨ bor BB n m (k + 1) = 1 by omega) with e | e <;> rw [e] at h2' <;> omega
  · rcases (show bor BB n m (k + 1) = 0 ∨ bor BB n m (k + 1) = 1 by omega) with e | e <;> rw [e] at h2' ⊢ <;> omega
  · omega
  · omega

set_option maxHeartbeats 1000000 in
theorem refSub_any (n m K L : Nat) (va vb : Value) (w : World) (ha : BigV w va n K) (hb : BigV w vb m L) (hK : K ≤ 1000000) (hmn : m ≤ n) :
    Calls Try.prog 39 #[va, vb] w fun e w' => ∃ v, e = .returned v ∧ BigV w' v (n - m) K ∧ Below w.heap.size w w' := by
  have ha' := ha
  have hb' := hb
  obtain ⟨la, ⟨ao, ca, rfl, hca, hma, -⟩, hda, -, hka⟩ := ha'
  obtain ⟨lb, ⟨bo, cb, rfl, hcb, hmb, -⟩, hdb, -, hkb⟩ := hb'
  unfold maxLen at hma hmb
  have HSW := hide (subW_sub (β := BB) (by decide) la.length n m hda.1 hmn)
  have HN := hide hda.1
  clear hda hdb hmn
  generalize la.length = na at *
  generalize lb.length = nb at *
  obtain ⟨i0, hi, hz0, hz1, hz2⟩ := info_parts info32
  go_enter Try.func39, Try.ntmps39
  go_wp2
  go_loopw [5, 6, 7] (fun v c i wr => ∃ k : Nat, k ≤ na ∧ i = .int .i64 k ∧ c = .int .u64 (bor BB n m k : Nat) ∧
        wr.ownsRow w.heap.size 72 1 v k ((dl BB (n - m) k).map mk32) ∧ Below w.heap.size w wr)
      (fun _ _ i _ => na - (intOf i).toNat)
  case atStart => exact ⟨0, by omega, rfl, by rw [bor_zero]; rfl, World.ownsRow_nil _ _ _ _, Below.refl _ _⟩
  case round =>
    obtain ⟨k, hk, rfl, rfl, hown, hbel⟩ := hrel
    have ha1 := ha.below hbel
    have hb1 := hb.below hbel
    have hsz := hbel.size
    by_cases hlt : k < na
    · have hj : (k : Int) < (na : Int) := by omega
      have HDG := hide (subW_digit (β := BB) (by decide) na n m k hlt)
      rw [HSW.out] at HDG
      obtain ⟨X, hX, hXle, hXm, hXd, hXl, hXq⟩ := sub_step n m k
      rw [← HDG.out] at hXm
      have HXM := hide hXm
      have HXD := hide hXd
      clear hXm hXd
      have bc := bor_le BB n m k
      have d0 := dgt_lt n k
      have d1 := dgt_lt m k
      generalize bor BB n m k = c at *
      have hs1 : (dgt n k : Int) + 4294967296 - (dgt m k : Int) - (c : Int) = (X : Int) := by omega
      clear hX
      go_wp2_with (first
        | (go_at_call 50; refine (digit_big _ _ k _ _ _ (by assumption) (by omega)).mono ?_; rintro e w' ⟨rfl, hw⟩; subst w')
        | (at_builtin; go_must (refine wpList_app1 w wr rfl _ _ 36 rfl w.heap.size 72 i0 (.int .u32 0) 4 Try.underlying36 hi hz0 hz1 hz2 rfl mk32 _ _ _ (by rfl) hown hbel _ (X % 4294967296) (congrArg (Value.int .u32) (show (X : Int) % 4294967296 = ((X % 4294967296 : Nat) : Int) by omega)) rfl (by rfl) (by omega) (by omega) (by omega) ?_); intro v' w1 hown1 hbel1; clear hown hbel ha1 hb1 hsz))
      go_roundw
      case rel => exact ⟨k + 1, by omega, by go_num, congrArg (Value.int .u64) (by rw [← HXD.out]; omega), by rw [dl_succ, ← HXM.out]; exact hown1, hbel1⟩
      case measure => simp [intOf]; omega
    · have hj : ¬ (k : Int) < (na : Int) := by omega
      have hk : k = na := by omega
      subst hk
      have hr := Rd.of_owns (l := dl BB (n - m) k) (by rw [dl_length]; exact hown)
      have hd := dl_dig BB (n - m) k (Nat.lt_of_le_of_lt (Nat.sub_le _ _) HN.out) (by decide)
      have hl := dl_length BB (n - m) k
      clear hown ha1 hb1
      go_wp2_with (go_at_call 48; refine (trim_any _ _ K _ _ hr hd (by omega)).mono ?_; rintro e w' ⟨v', rfl, hbig, hw⟩; subst w')
      go_ret
      exact ⟨_, rfl, hbig, hbel⟩

end Go.Proofs.Yteocibahclpegaa

