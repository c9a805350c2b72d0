/- Contracts and laws: LimbC, LimbE, LimbF, LimbG, LimbH, LimbI, LawA, LawB, RefD, RefE, RefF, RefG, RefH, RefI. -/
import Derived.Test.YtidfegilddlglaaDoorBaseB
import Derived.Shelf.Strconv.Itoa0
import Derived.Laws.MathBits
import Derived.StillTailTactics
import Derived.Test.YtidfegilddlglaaDoorBaseA
/- Contracts: bits.Len64, limb.Len. -/
set_option linter.unusedVariables false
set_option linter.unusedSimpArgs false
set_option maxRecDepth 8000
namespace Go.Proofs.YtidfegilddlglaaDoor
open Go.RowKit Plain Go.Shelf

/-- The numbering of the shelf's body of bits.Len64 in this program. -/
def renLen : Ren := { f := fun n => if n = 129 then 113 else 0, t := fun n => if n = 46 then 112 else if n = 53 then 22 else n, g := fun n => n }

theorem laysLen : Lays.n129 Tryd.prog renLen where
  mixed := by kernel_rfl
  f129 := by kernel_rfl
  t3 := by kernel_rfl
  a3 := fun _ => by kernel_rfl
  z3 := fun _ => by kernel_rfl
  v3 := fun _ => by kernel_rfl
  t4 := by kernel_rfl
  a4 := fun _ => by kernel_rfl
  z4 := fun _ => by kernel_rfl
  v4 := fun _ => by kernel_rfl
  t5 := by kernel_rfl
  a5 := fun _ => by kernel_rfl
  z5 := fun _ => by kernel_rfl
  v5 := fun _ => by kernel_rfl
  t9 := by kernel_rfl
  a9 := fun _ => by kernel_rfl
  z9 := fun _ => by kernel_rfl
  v9 := fun _ => by kernel_rfl
  t46 := by kernel_rfl
  a46 := fun _ => by kernel_rfl
  z46 := fun _ => by kernel_rfl
  v46 := fun _ => by kernel_rfl
  t53 := by kernel_rfl
  a53 := fun _ => by kernel_rfl
  z53 := fun _ => by kernel_rfl
  v53 := fun _ => by kernel_rfl

theorem len64_any (x : Int) (w : World) (h0 : 0 ≤ x) (h1 : x ≤ 18446744073709551615) :
    Calls Tryd.prog 113 #[.int .u64 x] w fun e w' => e = .returned (.int .i64 (Lib.bitLen x.toNat)) ∧ w' = w :=
  Any.bits_Len64 laysLen x w h0 h1

theorem bitLen_half (x : Nat) (h : x ≠ 0) : Go.bitLen x = 1 + Go.bitLen (x / 2) := by
  by_cases h1 : x / 2 = 0
  · have : x = 1 := by omega
    subst this
    decide
  · have := bitLen_shift x 1 (by simpa using h1)
    simpa using this
theorem bitLenAux_eq : ∀ (f x : Nat), x < 2 ^ f → Lib.bitLenAux f x = Go.bitLen x
  | 0, x, h => by have : x = 0 := by simpa using h
                  subst this; rfl
  | f + 1, x, h => by
    unfold Lib.bitLenAux
    split
    · rename_i h0; rw [h0]; rfl
    · rename_i h0
      rw [bitLen_half x h0, bitLenAux_eq f (x / 2) (by rw [Nat.pow_succ] at h; omega)]
theorem lenDigits {n i d : Nat} (hd : n / 18446744073709551616 ^ i % 18446744073709551616 = d) (hd0 : d ≠ 0) (hn : n < 18446744073709551616 ^ (i + 1)) : Go.bitLen n = 64 * i + Go.bitLen d := by
  have hlt : n / 18446744073709551616 ^ i < 18446744073709551616 := by
    rw [Nat.div_lt_iff_lt_mul (Nat.pow_pos (by decide))]; rw [Nat.pow_succ, Nat.mul_comm] at hn; exact hn
  rw [Nat.mod_eq_of_lt hlt] at hd
  have e : (18446744073709551616 : Nat) ^ i = 2 ^ (64 * i) := by rw [Nat.pow_mul]
  rw [e] at hd
  rw [bitLen_shift n (64 * i) (by rw [hd]; exact hd0), hd]
theorem bitLen_le64 (d : Nat) (h : d < 18446744073709551616) : Go.bitLen d ≤ 64 := by
  unfold Go.bitLen
  split
  · omega
  · rename_i h0
    have := (Nat.log2_lt h0).2 (show d < 2 ^ 64 from h)
    omega

set_option maxHeartbeats 400000 in
theorem len_any (n : Nat) (la : List Nat) (va : Value) (w : World) (ha : Rd mk64 w va la) (hda : Dig 18446744073709551616 la n) (hK : la.length ≤ 1000000) :
    Calls Tryd.prog 98 #[va] w fun e w' => e = .returned (.int .i64 (Go.bitLen n : Nat)) ∧ w' = w := by
  obtain ⟨ao, ca, rfl, hca, hma, hra⟩ := ha
  unfold maxLen at hma
  have HD := hide hda
  have RA := hide hra
  clear hra hda
  go_enter Tryd.func98, Tryd.ntmps98
  go_wp2
  go_loop [3] (fun i => ∃ k : Nat, k ≤ la.length ∧ i = .int .i64 ((k : Int) - 1) ∧ n < 18446744073709551616 ^ k) (fun i => (intOf i + 1).toNat)
  case atStart => exact ⟨la.length, by omega, rfl, HD.out.1⟩
  case round =>
    obtain ⟨k, hk, rfl, hz⟩ := hrel
    have HZ := hide hz
    clear hz
    by_cases h0 : k = 0
    · subst h0
      go_wp2
      go_ret
      exact ⟨ret_int (by have := HZ.out; simp at this; rw [this]; rfl), rfl⟩
    · obtain ⟨j, rfl⟩ : ∃ j, k = j + 1 := ⟨k - 1, by omega⟩
      rcases unhide RA with hc | ⟨b, off, rfl, hbl, hcell⟩
      · omega
      · have c1 : w.cell? ⟨b, off + j, none⟩ = some (.int .u64 (dg la j : Nat)) := hcell j (by omega)
        have hdj := HD.out.2 j
        have HDJ := hide hdj
        have hb1 : dg la j < 18446744073709551616 := HD.out.lt (by decide) j
        clear hcell hdj
        by_cases hd : dg la j = 0
        · have hq : ((dg la j : Int) != 0) = false := by simp [hd]
          have HD0 := hide hd
          clear hd
          go_wp2
          go_round
          case rel => exact ⟨j, by omega, by go_num, lt_of_digit_zero (by decide) HZ.out (by rw [← HDJ.out]; exact HD0.out)⟩
          case measure => simp [intOf]
        · have hq : ((dg la j : Int) != 0) = true := by simp; omega
          have HD0 := hide hd
          clear hd
          have hbl : Lib.bitLen (dg la j) ≤ 64 := by
            unfold Lib.bitLen
            rw [bitLenAux_eq 64 _ hb1]; exact bitLen_le64 _ hb1
          go_wp2_with (go_at_call 113; refine (len64_any _ _ (by omega) (by omega)).mono ?_; rintro e w' ⟨rfl, hw⟩; subst w'; rw [Int.toNat_natCast])
          go_ret
          exact ⟨ret_int (by
            rw [lenDigits HDJ.out.symm HD0.out HZ.out]
            unfold Lib.bitLen
            rw [bitLenAux_eq 64 _ hb1]
            omega), rfl⟩

end Go.Proofs.YtidfegilddlglaaDoor

/- Contracts: limb.Sum. -/
set_option linter.unusedVariables false
set_option linter.unusedSimpArgs false
set_option maxRecDepth 8000
namespace Go.Proofs.YtidfegilddlglaaDoor
open Go.RowKit Plain

theorem mixedOk : Tryd.prog.follows .mixedOrders = true := by kernel_rfl

theorem carry_lt (n m k : Nat) : carry 18446744073709551616 n m k ≤ 1 := carry_le (by decide)
theorem oneI_carry (n m k : Nat) : oneI (carry 18446744073709551616 n m k : Nat) = (carry 18446744073709551616 n m k : Nat) := by
  have := carry_lt n m k
  unfold oneI
  split <;> omega
theorem sum_lo (n m k : Nat) : lo64 ((dgl n k : Int) + (dgl m k : Int) + oneI (carry 18446744073709551616 n m k : Nat)) = (dgl (n + m) k : Nat) := by
  rw [oneI_carry]
  have h := add_digit (n := n) (m := m) (k := k) (β := 18446744073709551616) (by decide)
  have e : ((dgl (n + m) k : Nat) : Int) = (((carry 18446744073709551616 n m k + dgl n k + dgl m k) % 18446744073709551616 : Nat) : Int) := congrArg _ h.symm
  rw [e]; unfold lo64 M64; omega
theorem sum_hi (n m k : Nat) : hi64 ((dgl n k : Int) + (dgl m k : Int) + oneI (carry 18446744073709551616 n m k : Nat)) = (carry 18446744073709551616 n m (k + 1) : Nat) := by
  rw [oneI_carry]
  have h := add_carry (n := n) (m := m) (k := k) (β := 18446744073709551616) (by decide)
  have e : ((carry 18446744073709551616 n m (k + 1) : Nat) : Int) = (((carry 18446744073709551616 n m k + dgl n k + dgl m k) / 18446744073709551616 : Nat) : Int) := congrArg _ h.symm
  rw [e]; unfold hi64 M64; omega

end Go.Proofs.YtidfegilddlglaaDoor

/- Contracts: limb.Sum. -/
set_option linter.unusedVariables false
set_option linter.unusedSimpArgs false
set_option maxRecDepth 8000
namespace Go.Proofs.YtidfegilddlglaaDoor
open Go.RowKit Plain

theorem app3 (x a b c : Value) : (#[x] ++ #[a, b, c] : Array Value) = #[x, a, b, c] := rfl

/-- What the closure of limb.Sum finds in its boxes behind k places. -/
structure SumInv (n m k B : Nat) (va vb : Value) (w wr : World) : Prop where
  a : wr.cell? ⟨B, 0, none⟩ = some va
  b : wr.cell? ⟨B + 1, 0, none⟩ = some vb
  c : wr.cell? ⟨B + 1 + 1, 0, none⟩ = some (.int .u64 (carry 18446744073709551616 n m k : Nat))
  f : wr.frozen? ⟨B + 1 + 1, 0, none⟩ = false
  bel : Below B w wr

theorem SumInv.below {n m k B : Nat} {va vb : Value} {w wr wr' : World} (h : SumInv n m k B va vb w wr) (hb : Below (B + 1 + 1 + 1) wr wr') : SumInv n m k B va vb w wr' :=
  ⟨(hb.cell (p := ⟨B, 0, none⟩) (show B < B + 1 + 1 + 1 by omega)).trans h.a, (hb.cell (p := ⟨B + 1, 0, none⟩) (show B + 1 < B + 1 + 1 + 1 by omega)).trans h.b,
   (hb.cell (p := ⟨B + 1 + 1, 0, none⟩) (show B + 1 + 1 < B + 1 + 1 + 1 by omega)).trans h.c, (hb.frozen (p := ⟨B + 1 + 1, 0, none⟩) (show B + 1 + 1 < B + 1 + 1 + 1 by omega)).trans h.f, h.bel.trans (hb.mono (by omega))⟩

theorem SumInv.step {n m k B : Nat} {va vb : Value} {w wr : World} (h : SumInv n m k B va vb w wr) (q : Nat) (hlt : B + 1 + 1 < wr.heap.size) :
    SumInv n m (k + 1) B va vb w ((wr.drewN q).setCell ⟨B + 1 + 1, 0, none⟩ (.int .u64 (carry 18446744073709551616 n m (k + 1) : Nat))) := by
  have hb : Below (B + 1 + 1) wr ((wr.drewN q).setCell ⟨B + 1 + 1, 0, none⟩ (.int .u64 (carry 18446744073709551616 n m (k + 1) : Nat))) := Below.setCell (p := ⟨B + 1 + 1, 0, none⟩) (below_drewN' (Below.refl (B + 1 + 1) wr) q) (Nat.le_refl _) _
  refine ⟨(hb.cell (p := ⟨B, 0, none⟩) (show B < B + 1 + 1 by omega)).trans h.a, (hb.cell (p := ⟨B + 1, 0, none⟩) (show B + 1 < B + 1 + 1 by omega)).trans h.b, ?_, ?_, h.bel.trans (hb.mono (by omega))⟩
  · have h1 : (wr.drewN q).cell? ⟨B + 1 + 1, 0, none⟩ = some (.int .u64 (carry 18446744073709551616 n m k : Nat)) := h.c
    exact World.cell?_setCell_same (wr.drewN q) ⟨B + 1 + 1, 0, none⟩ (.int .u64 (carry 18446744073709551616 n m (k + 1) : Nat)) h1
  · have h1 : (wr.drewN q).frozen? ⟨B + 1 + 1, 0, none⟩ = false := h.f
    simp [h1]

theorem SumInv.start (n m : Nat) (w : World) (va vb : Value) :
    SumInv n m 0 w.heap.size va vb w (((w.alloc (Obj.cells #[va] 111)).alloc (Obj.cells #[vb] 111)).alloc (Obj.cells #[Value.int IntKind.u64 0] 22)) := by
  refine ⟨?_, ?_, ?_, ?_, ?_⟩
  · simp [go_sem]
  · simp [go_sem]
  · rw [carry_zero]; simp [go_sem]
  · simp [go_sem]
  · exact Below.alloc (Below.alloc (Below.alloc (Below.refl _ _) (Nat.le_refl _) _) (by simp) _) (by simp; omega) _

end Go.Proofs.YtidfegilddlglaaDoor

/- Contracts: limb.Shift. -/
set_option linter.unusedVariables false
set_option linter.unusedSimpArgs false
set_option maxRecDepth 8000
namespace Go.Proofs.YtidfegilddlglaaDoor
open Go.RowKit Plain

/-- The limb at a place that may be below 0. -/
def atI (n : Nat) (i : Int) : Int := if i < 0 then 0 else (dgl n i.toNat : Nat)
/-- The limb at place e of n, times 2^b (b < 64). -/
def shd (n b : Nat) (e : Int) : Nat := if e < 0 then 0 else n * 2 ^ b / 18446744073709551616 ^ e.toNat % 18446744073709551616

theorem atI_any (n : Nat) (l : List Nat) (v : Value) (w : World) (i : Int) (hr : Rd mk64 w v l) (hd : Dig 18446744073709551616 l n) :
    Calls Tryd.prog 112 #[v, .int .i64 i] w fun e w' => e = .returned (.int .u64 (atI n i)) ∧ w' = w := by
  refine (at_any l v w hr i).mono ?_
  rintro e w' ⟨rfl, rfl⟩
  refine ⟨ret_int ?_, rfl⟩
  unfold atI
  split
  · rfl
  · rw [hd.2]; rfl

theorem or_add (b x y : Nat) (hb : b < 64) (hx : x < 18446744073709551616) (hy : y < 18446744073709551616) :
    bits .or .u64 (IntKind.u64.wrap ((x : Int) * 2 ^ b)) ((y : Int) / 2 ^ min (IntKind.u64.wrap (64 - (b : Int))).toNat 64) = ((2 ^ b * (x % 2 ^ (64 - b)) + y / 2 ^ (64 - b) : Nat) : Int) := by
  have e0 : min (IntKind.u64.wrap (64 - (b : Int))).toNat 64 = 64 - b := by rw [IntKind.wrap_u64]; omega
  have hTR : 2 ^ b * 2 ^ (64 - b) = 18446744073709551616 := by rw [← Nat.pow_add]; have : b + (64 - b) = 64 := by omega
                                                               rw [this]
  have e1 : IntKind.u64.wrap ((x : Int) * 2 ^ b) = ((2 ^ b * (x % 2 ^ (64 - b)) : Nat) : Int) := by
    rw [IntKind.wrap_u64, ← Nat.mul_mod_mul_left, hTR]
    have : (x : Int) * 2 ^ b = ((2 ^ b * x : Nat) : Int) := by rw [Int.natCast_mul, Int.natCast_pow, Int.mul_comm]; rfl
    rw [this]; omega
  have e2 : (y : Int) / 2 ^ (64 - b) = ((y / 2 ^ (64 - b) : Nat) : Int) := by rw [Int.natCast_ediv, Int.natCast_pow]; rfl
  have hpos : 0 < 2 ^ (64 - b) := Nat.two_pow_pos _
  have hy2 : y / 2 ^ (64 - b) < 2 ^ b := by rw [Nat.div_lt_iff_lt_mul hpos, hTR]; exact hy
  have hx2 : 2 ^ b * (x % 2 ^ (64 - b)) + 2 ^ b ≤ 18446744073709551616 := by
    rw [← Nat.mul_succ, ← hTR]; exact Nat.mul_le_mul_left _ (Nat.mod_lt _ hpos)
  rw [e0, e1, e2, bits_or_u64_nat _ _ (by have := Nat.two_pow_pos b; omega) (by have := Nat.two_pow_pos b; omega), Nat.two_pow_add_eq_or_of_lt hy2]

theorem shift_val (n b : Nat) (hb : b < 64) (e : Int) :
    bits .or .u64 (IntKind.u64.wrap (atI n e * 2 ^ b)) (atI n (e - 1) / 2 ^ min (IntKind.u64.wrap (64 - (b : Int))).toNat 64) = (shd n b e : Nat) := by
  have hTR : 2 ^ b * 2 ^ (64 - b) = 18446744073709551616 := by rw [← Nat.pow_add]; have : b + (64 - b) = 64 := by omega
                                                               rw [this]
  have hT := Nat.two_pow_pos b
  have hR := Nat.two_pow_pos (64 - b)
  unfold shd
  by_cases h : e < 0
  · have h1 : atI n e = ((0 : Nat) : Int) := by unfold atI; rw [if_pos h]; rfl
    have h2 : atI n (e - 1) = ((0 : Nat) : Int) := by unfold atI; rw [if_pos (by omega)]; rfl
    rw [h1, h2, or_add b 0 0 hb (by decide) (by decide), if_pos h]
    simp
  · obtain ⟨k, rfl⟩ := Int.eq_ofNat_of_zero_le (Int.not_lt.1 h)
    have h1 : atI n (k : Int) = (dgl n k : Nat) := by unfold atI; rw [if_neg h, Int.toNat_natCast]
    rw [if_neg h, Int.toNat_natCast]
    cases k with
    | zero =>
      have h2 : atI n (((0 : Nat) : Int) - 1) = ((0 : Nat) : Int) := by unfold atI; rw [if_pos (by omega)]; rfl
      rw [h1, h2, or_add b _ 0 hb (dgl_lt n 0) (by decide)]
      have := shift_digit0 (2 ^ b) (2 ^ (64 - b)) n hR
      rw [hTR] at this
      rw [this]
      simp [dgl]
    | succ k =>
      have h2 : atI n (((k + 1 : Nat) : Int) - 1) = (dgl n k : Nat) := by
        have : ((k + 1 : Nat) : Int) - 1 = (k : Int) := by omega
        rw [this]; unfold atI; rw [if_neg (by omega), Int.toNat_natCast]
      rw [h1, h2, or_add b _ _ hb (dgl_lt n _) (dgl_lt n _)]
      have := shift_digit (2 ^ b) (2 ^ (64 - b)) n k hT hR
      rw [hTR] at this
      rw [this]
      rfl

end Go.Proofs.YtidfegilddlglaaDoor

/- Contracts: limb.Shift. -/
set_option linter.unusedVariables false
set_option linter.unusedSimpArgs false
set_option maxRecDepth 8000
namespace Go.Proofs.YtidfegilddlglaaDoor
open Go.RowKit Plain

theorem and63 (n : Int) : bits .and .i64 n 63 = ((n % 64).toNat : Nat) := by
  have h63 : (BitVec.ofInt 64 63).toNat = 2 ^ 6 - 1 := by decide
  have key : (BitVec.ofInt 64 n &&& BitVec.ofInt 64 63).toNat = (n % ((2 ^ 64 : Nat) : Int)).toNat % 2 ^ 6 := by
    rw [BitVec.toNat_and, BitVec.toNat_ofInt, h63, Nat.and_two_pow_sub_one_eq_mod]
  show IntKind.i64.wrap ((BitVec.ofInt 64 n &&& BitVec.ofInt 64 63).toNat : Nat) = _
  rw [key, IntKind.wrap_i64]
  omega

/-- n times 2^k, or divided by 2^-k, without rest. -/
def sh (n : Nat) (k : Int) : Nat := if k < 0 then n / 2 ^ (-k).toNat else n * 2 ^ k.toNat

theorem LLpow (s : Nat) : (18446744073709551616 : Nat) ^ s = 2 ^ (64 * s) := by rw [Nat.pow_mul]

theorem sh_pos (n s b : Nat) : sh n (64 * (s : Int) + (b : Int)) = n * 2 ^ b * 18446744073709551616 ^ s := by
  unfold sh
  rw [if_neg (by omega), LLpow, show (64 * (s : Int) + (b : Int)).toNat = b + 64 * s by omega, Nat.pow_add, Nat.mul_assoc]
theorem sh_neg (n t b : Nat) (ht : 1 ≤ t) (hb : b < 64) : sh n (-64 * (t : Int) + (b : Int)) = n * 2 ^ b / 18446744073709551616 ^ t := by
  unfold sh
  rw [if_pos (by omega), LLpow, show (-(-64 * (t : Int) + (b : Int))).toNat = 64 * t - b by omega]
  have e : 2 ^ (64 * t) = 2 ^ (64 * t - b) * 2 ^ b := by rw [← Nat.pow_add]; congr 1; omega
  rw [e, Nat.mul_div_mul_right _ _ (Nat.two_pow_pos b)]

theorem sh_digit (n b : Nat) (k : Int) (hb : b = (k % 64).toNat) (j : Nat) : shd n b ((j : Int) - k / 64) = sh n k / 18446744073709551616 ^ j % 18446744073709551616 := by
  by_cases hk : k / 64 < 0
  · obtain ⟨t, ht⟩ : ∃ t : Nat, k / 64 = -(t : Int) := ⟨(-(k / 64)).toNat, by omega⟩
    have ek : k = -64 * (t : Int) + (b : Int) := by omega
    rw [ek, sh_neg n t b (by omega) (by omega), Nat.div_div_eq_div_mul, ← Nat.pow_add]
    have e2 : (-64 * (t : Int) + (b : Int)) / 64 = -(t : Int) := by omega
    rw [e2]
    unfold shd
    rw [if_neg (by omega), show ((j : Int) - -(t : Int)).toNat = t + j by omega]
  · obtain ⟨s, hs⟩ : ∃ s : Nat, k / 64 = (s : Int) := ⟨(k / 64).toNat, by omega⟩
    have ek : k = 64 * (s : Int) + (b : Int) := by omega
    rw [ek, sh_pos]
    have e2 : (64 * (s : Int) + (b : Int)) / 64 = (s : Int) := by omega
    rw [e2]
    unfold shd
    by_cases hj : j < s
    · rw [if_pos (by omega)]
      have e3 : n * 2 ^ b * 18446744073709551616 ^ s = 18446744073709551616 ^ j * (n * 2 ^ b * 18446744073709551616 ^ (s - j - 1) * 18446744073709551616) := by
        have : s = j + (s - j - 1 + 1) := by omega
        conv => lhs; rw [this]
        rw [Nat.pow_add, Nat.pow_succ]
        simp [Nat.mul_comm, Nat.mul_left_comm, Nat.mul_assoc]
      rw [e3, Nat.mul_div_cancel_left _ (Nat.pow_pos (by decide)), Nat.mul_mod_left]
    · rw [if_neg (by omega), show ((j : Int) - (s : Int)).toNat = j - s by omega]
      have e3 : (18446744073709551616 : Nat) ^ j = 18446744073709551616 ^ (j - s) * 18446744073709551616 ^ s := by rw [← Nat.pow_add]; congr 1; omega
      rw [e3, Nat.mul_div_mul_right _ _ (Nat.pow_pos (by decide))]

theorem sh_fits (n len : Nat) (k : Int) (hn : n < 18446744073709551616 ^ len) : sh n k < 18446744073709551616 ^ ((len : Int) + k / 64 + 1).toNat := by
  obtain ⟨b, hb⟩ : ∃ b, b = (k % 64).toNat := ⟨_, rfl⟩
  have h1 : n * 2 ^ b < 18446744073709551616 ^ (len + 1) := by
    rw [Nat.pow_succ]
    have : 2 ^ b ≤ 2 ^ 64 := Nat.pow_le_pow_right (by decide) (by omega)
    exact Nat.mul_lt_mul_of_lt_of_le hn this (by decide)
  by_cases hk : k / 64 < 0
  · obtain ⟨t, ht⟩ : ∃ t : Nat, k / 64 = -(t : Int) := ⟨(-(k / 64)).toNat, by omega⟩
    have ek : k = -64 * (t : Int) + (b : Int) := by omega
    have e := sh_neg n t b (by omega) (by omega)
    rw [← ek] at e
    rw [e]
    rcases Nat.lt_or_ge (len + 1) t with h | h
    · have e1 : ((len : Int) + k / 64 + 1).toNat = 0 := by omega
      rw [e1, Nat.div_eq_of_lt (Nat.lt_of_lt_of_le h1 (Nat.pow_le_pow_right (by decide) (by omega)))]
      decide
    · have e1 : ((len : Int) + k / 64 + 1).toNat = len + 1 - t := by omega
      rw [e1, Nat.div_lt_iff_lt_mul (Nat.pow_pos (by decide)), ← Nat.pow_add]
      have : len + 1 - t + t = len + 1 := by omega
      rw [this]; exact h1
  · obtain ⟨s, hs⟩ : ∃ s : Nat, k / 64 = (s : Int) := ⟨(k / 64).toNat, by omega⟩
    have ek : k = 64 * (s : Int) + (b : Int) := by omega
    have e := sh_pos n s b
    rw [← ek] at e
    have e1 : ((len : Int) + k / 64 + 1).toNat = len + 1 + s := by omega
    rw [e, e1, Nat.pow_add]
    exact Nat.mul_lt_mul_of_pos_right h1 (Nat.pow_pos (by decide))

/-- What the closure of limb.Shift finds in its boxes. -/
structure ShiftInv (B : Nat) (va : Value) (s : Int) (b : Nat) (w wr : World) : Prop where
  a : wr.cell? ⟨B, 0, none⟩ = some va
  s : wr.cell? ⟨B + 1, 0, none⟩ = some (.int .i64 s)
  y : wr.cell? ⟨B + 1 + 1, 0, none⟩ = some (.int .u64 (b : Nat))
  bel : Below B w wr

theorem ShiftInv.below {B b : Nat} {va : Value} {s : Int} {w wr wr' : World} (h : ShiftInv B va s b w wr) (hb : Below (B + 1 + 1 + 1) wr wr') : ShiftInv B va s b w wr' :=
  ⟨(hb.cell (p := ⟨B, 0, none⟩) (show B < B + 1 + 1 + 1 by omega)).trans h.a, (hb.cell (p := ⟨B + 1, 0, none⟩) (show B + 1 < B + 1 + 1 + 1 by omega)).trans h.s,
   (hb.cell (p := ⟨B + 1 + 1, 0, none⟩) (show B + 1 + 1 < B + 1 + 1 + 1 by omega)).trans h.y, h.bel.trans (hb.mono (by omega))⟩

theorem ShiftInv.start (w : World) (va : Value) (s : Int) (b : Nat) :
    ShiftInv w.heap.size va s b w (((w.alloc (Obj.cells #[va] 111)).alloc (Obj.cells #[Value.int IntKind.i64 s] 3)).alloc (Obj.cells #[Value.int IntKind.u64 (b : Nat)] 112)) := by
  refine ⟨?_, ?_, ?_, ?_⟩
  · simp [go_sem]
  · simp [go_sem]
  · simp [go_sem]
  · exact Below.alloc (Below.alloc (Below.alloc (Below.refl _ _) (Nat.le_refl _) _) (by simp) _) (by simp; omega) _

/-- From what limb.list hands back to the number. -/
theorem list_num {f : Nat → Nat} {N nn k : Nat} (hf : ∀ j, f j = N / 18446744073709551616 ^ j % 18446744073709551616) (hN : N < 18446744073709551616 ^ nn) (hk : k ≤ nn) (hz : ∀ j, k ≤ j → j < nn → f j = 0) (hn : k = 0 ∨ f (k - 1) ≠ 0) :
    Dig 18446744073709551616 (((List.range nn).map f).take k) N ∧ Norm 18446744073709551616 (((List.range nn).map f).take k) N ∧ (((List.range nn).map f).take k).length = k := by
  have el : (List.range nn).map f = dl 18446744073709551616 N nn := by unfold dl; congr 1; funext j; exact hf j
  rw [el]
  have hdig := dl_dig 18446744073709551616 N nn hN (by decide)
  have hl := dl_length 18446744073709551616 N nn
  have hzz : ∀ j, k ≤ j → dg (dl 18446744073709551616 N nn) j = 0 := by
    intro j hj
    rcases Nat.lt_or_ge j nn with h | h
    · rw [hdig.2 j, ← hf]; exact hz j hj h
    · exact getD_past _ _ (by rw [hl]; exact h)
  have hcut := hdig.cut (by decide) k (by rw [hl]; exact hk) hzz
  have hlk : ((dl 18446744073709551616 N nn).take k).length = k := by rw [List.length_take, hl]; omega
  refine ⟨hcut, hcut.norm (by decide) ?_, hlk⟩
  rw [hlk]
  rcases hn with h | h
  · exact .inl h
  · by_cases h0 : k = 0
    · exact .inl h0
    · exact .inr (by rw [getD_take, if_pos (by omega), hdig.2, ← hf]; exact h)

end Go.Proofs.YtidfegilddlglaaDoor

/- Contracts: limb.Bit. -/
set_option linter.unusedVariables false
set_option linter.unusedSimpArgs false
set_option maxRecDepth 8000
namespace Go.Proofs.YtidfegilddlglaaDoor
open Go.RowKit Plain

theorem bit_val (N k : Nat) : dgl N (k / 64) / 2 ^ (k % 64) % 2 = N / 2 ^ k % 2 := by
  unfold dgl
  rw [LLpow]
  have e : (18446744073709551616 : Nat) = 2 ^ (k % 64) * 2 ^ (64 - k % 64) := by rw [← Nat.pow_add]; have : k % 64 + (64 - k % 64) = 64 := by omega
                                                                                 rw [this]
  have e2 : 2 ^ (64 - k % 64) = 2 * 2 ^ (63 - k % 64) := by rw [Nat.mul_comm, ← Nat.pow_succ]; congr 1; omega
  rw [e, Nat.mod_mul_right_div_self, e2, Nat.mod_mul_right_mod, Nat.div_div_eq_div_mul, ← Nat.pow_add]
  congr 3
  omega

theorem bit_form (N k : Nat) : (bits BinOp.and IntKind.u64 ((dgl N (k / 64) : Int) / 2 ^ (k % 64)) 1 == 1) = (N / 2 ^ k % 2 == 1) := by
  have e1 : (dgl N (k / 64) : Int) / 2 ^ (k % 64) = ((dgl N (k / 64) / 2 ^ (k % 64) : Nat) : Int) := by rw [Int.natCast_ediv, Int.natCast_pow]; rfl
  have hlt : dgl N (k / 64) / 2 ^ (k % 64) < 18446744073709551616 := Nat.lt_of_le_of_lt (Nat.div_le_self _ _) (dgl_lt N _)
  have h := bits_and_u64_nat (dgl N (k / 64) / 2 ^ (k % 64)) 1 hlt (by decide)
  rw [Nat.and_one_is_mod, bit_val] at h
  rw [e1]
  have h2 : bits .and .u64 ((dgl N (k / 64) / 2 ^ (k % 64) : Nat) : Int) 1 = ((N / 2 ^ k % 2 : Nat) : Int) := h
  rw [h2, Bool.eq_iff_iff]
  simp only [beq_iff_eq]
  omega

set_option maxHeartbeats 400000 in
theorem bit_any (N : Nat) (n : Int) (la : List Nat) (va : Value) (w : World) (ha : Rd mk64 w va la) (hda : Dig 18446744073709551616 la N) (hn0 : 0 ≤ n) (hn1 : n ≤ 9223372036854775807) :
    Calls Tryd.prog 96 #[va, .int .i64 n] w fun e w' => e = .returned (.bool (N / 2 ^ n.toNat % 2 == 1)) ∧ w' = w := by
  obtain ⟨k, rfl⟩ := Int.eq_ofNat_of_zero_le hn0
  rw [Int.toNat_natCast]
  have RA := hide ha
  have HA := hide hda
  clear ha hda
  go_enter Tryd.func96, Tryd.ntmps96
  go_wp2_with (go_at_call 112; refine (at_num N (k / 64) la _ _ _ RA.out HA.out (by omega)).mono ?_; rintro e w' ⟨rfl, hw⟩; subst w')
  go_ret
  exact ⟨ret_bool (bit_form N k), rfl⟩

set_option maxHeartbeats 400000 in
theorem bit_neg (n : Int) (la : List Nat) (va : Value) (w : World) (ha : Rd mk64 w va la) (hn0 : n < 0) :
    Calls Tryd.prog 96 #[va, .int .i64 n] w fun e w' => e = .returned (.bool false) ∧ w' = w := by
  obtain ⟨ao, ca, rfl, hca, hma, -⟩ := ha
  have hd : decide (0 ≤ n) = false := by simp; omega
  go_enter Tryd.func96, Tryd.ntmps96
  go_wp2
  go_ret
  exact ⟨rfl, rfl⟩

end Go.Proofs.YtidfegilddlglaaDoor

/- Contracts: radicandref01.Small. -/
set_option linter.unusedVariables false
set_option linter.unusedSimpArgs false
set_option maxRecDepth 8000
namespace Go.Proofs.YtidfegilddlglaaDoor
open Go.RowKit Plain

theorem small_any (x : Nat) (hx : x < 18446744073709551616) (w : World) :
    Calls Tryd.prog 78 #[.int .u64 (x : Nat)] w fun e w' => ∃ v, e = .returned v ∧ BigV w' v x 2 ∧ Below w.heap.size w w' := by
  have hr := Rd.lit (mk := mk64) w 22 [.int .u64 (x : Nat)] [x] rfl 1 (Nat.le_refl 1) (by decide)
  have hd := dig_one (β := LL) hx
  have HR := hide hr
  clear hr
  go_enter Tryd.func78, Tryd.ntmps78
  go_wp2_with (go_at_call 108; refine (of_any [x] x _ _ HR.out hd (by simp)).mono ?_; rintro e w' ⟨v, rfl, hbig, hbel⟩)
  go_ret
  exact ⟨_, rfl, hbig, Below.trans ((Below.refl _ _).alloc (Nat.le_refl _) _) (hbel.mono (by simp))⟩

theorem sh363 : sh 3 63 = 9223372036854775808 + 18446744073709551616 * 1 := by decide
theorem bitLen65 : Go.bitLen (0 + 18446744073709551616 * 1) = 65 := by decide

end Go.Proofs.YtidfegilddlglaaDoor

/- The calls of the law LimbAdds, said of naturals. -/
set_option linter.unusedVariables false
set_option linter.unusedSimpArgs false
set_option maxRecDepth 8000
namespace Go.Proofs.YtidfegilddlglaaDoor
open Go.RowKit Plain

/-- 1 of what isn't 0. -/
def oneN (z : Nat) : Nat := if z = 0 then 0 else 1
theorem oneN_le (z : Nat) : oneN z ≤ 1 := by unfold oneN; split <;> omega
theorem oneI_nat (z : Nat) : oneI (z : Int) = (oneN z : Nat) := by unfold oneI oneN; split <;> split <;> omega

theorem add_nat (x y z : Nat) (w : World) :
    Calls Tryd.prog 100 #[.int .u64 (x : Nat), .int .u64 (y : Nat), .int .u64 (z : Nat)] w fun e w' => ∃ s c : Nat, e = .returned (.tuple #[.int .u64 (s : Nat), .int .u64 (c : Nat)]) ∧
      s < 18446744073709551616 ∧ s + 18446744073709551616 * c = x + y + oneN z ∧ w' = w := by
  refine (limbAdd_any _ _ _ w (by omega) (by omega)).mono ?_
  rintro e w' ⟨rfl, rfl⟩
  refine ⟨(x + y + oneN z) % 18446744073709551616, (x + y + oneN z) / 18446744073709551616, ?_, Nat.mod_lt _ (by decide), Nat.mod_add_div _ _, rfl⟩
  rw [oneI_nat]
  have e1 : lo64 ((x : Int) + (y : Int) + ((oneN z : Nat) : Int)) = (((x + y + oneN z) % 18446744073709551616 : Nat) : Int) := by unfold lo64 M64; omega
  have e2 : hi64 ((x : Int) + (y : Int) + ((oneN z : Nat) : Int)) = (((x + y + oneN z) / 18446744073709551616 : Nat) : Int) := by unfold hi64 M64; omega
  rw [e1, e2]

theorem sub_nat (x y z : Nat) (hx : x < 18446744073709551616) (hy : y < 18446744073709551616) (w : World) :
    Calls Tryd.prog 109 #[.int .u64 (x : Nat), .int .u64 (y : Nat), .int .u64 (z : Nat)] w fun e w' => ∃ d b : Nat, e = .returned (.tuple #[.int .u64 (d : Nat), .int .u64 (b : Nat)]) ∧
      d < 18446744073709551616 ∧ b ≤ 1 ∧ d + (y + oneN z) = x + 18446744073709551616 * b ∧ w' = w := by
  refine (limbSub_any _ _ _ w (by omega) (by omega) (by unfold M64; omega)).mono ?_
  rintro e w' ⟨rfl, rfl⟩
  rw [oneI_nat]
  have ho := oneN_le z
  generalize oneN z = o at *
  by_cases h : x < y + o
  · refine ⟨x + 18446744073709551616 - y - o, 1, ?_, by omega, by omega, by omega, rfl⟩
    rw [if_pos (by omega)]
    have e1 : lo64 ((x : Int) - (y : Int) - (o : Int)) = ((x + 18446744073709551616 - y - o : Nat) : Int) := by unfold lo64 M64; omega
    rw [e1]; rfl
  · refine ⟨x - y - o, 0, ?_, by omega, by omega, by omega, rfl⟩
    rw [if_neg (by omega)]
    have e1 : lo64 ((x : Int) - (y : Int) - (o : Int)) = ((x - y - o : Nat) : Int) := by unfold lo64 M64; omega
    rw [e1]; rfl

theorem below_alloc_then {a b : World} {o : Obj} (h : Below (a.alloc o).heap.size (a.alloc o) b) : Below a.heap.size a b :=
  Below.trans ((Below.refl _ _).alloc (Nat.le_refl _) o) (h.mono (by simp))

theorem of_two (s c : Nat) (hs : s < 18446744073709551616) (hc : c < 18446744073709551616) (w : World) :
    Calls Tryd.prog 108 #[.slice (some ⟨w.heap.size, 0, none⟩) 2 2] (w.alloc (.cells #[.int .u64 (s : Nat), .int .u64 (c : Nat)] 22)) fun e w' =>
      ∃ v, e = .returned v ∧ BigV w' v (s + 18446744073709551616 * c) 4 ∧ Below w.heap.size w w' := by
  have hr := Rd.lit (mk := mk64) w 22 [.int .u64 (s : Nat), .int .u64 (c : Nat)] [s, c] rfl 2 (Nat.le_refl 2) (by decide)
  refine (of_any [s, c] _ _ _ hr (dig_two (β := LL) hs hc) (by simp)).mono ?_
  rintro e w' ⟨v, rfl, h1, h2⟩
  exact ⟨v, rfl, h1, below_alloc_then h2⟩

theorem cmpN_self {n m : Nat} (h : n = m) : cmpN n m = 0 := by subst h; simp [cmpN]

end Go.Proofs.YtidfegilddlglaaDoor

/- Contracts of radicandref01: Len, cut, Bits. -/
set_option linter.unusedVariables false
set_option linter.unusedSimpArgs false
set_option maxRecDepth 8000
namespace Go.Proofs.YtidfegilddlglaaDoor
open Go.RowKit Plain

theorem lenBB {n i d : Nat} (hd : n / BB ^ i % BB = d) (hd0 : d ≠ 0) (hn : n < BB ^ (i + 1)) : Go.bitLen n = 32 * i + Go.bitLen d := by
  have hlt : n / BB ^ i < BB := by
    rw [Nat.div_lt_iff_lt_mul (Nat.pow_pos (by decide))]; rw [Nat.pow_succ, Nat.mul_comm] at hn; exact hn
  rw [Nat.mod_eq_of_lt hlt] at hd
  have e : BB ^ i = 2 ^ (32 * i) := by rw [Nat.pow_mul]; rfl
  rw [e] at hd
  rw [bitLen_shift n (32 * i) (by rw [hd]; exact hd0), hd]

theorem bitLen_le32 (d : Nat) (h : d < 4294967296) : Go.bitLen d ≤ 32 := by
  unfold Go.bitLen
  split
  · omega
  · rename_i h0
    have := (Nat.log2_lt h0).2 (show d < 2 ^ 32 from h)
    omega

set_option maxHeartbeats 1000000 in
theorem refLen_any (n K : Nat) (va : Value) (w : World) (ha : BigV w va n K) (hK : K ≤ 1000000) :
    Calls Tryd.prog 29 #[va] w fun e w' => e = .returned (.int .i64 (Go.bitLen n : Nat)) ∧ w' = w := by
  obtain ⟨l0, hr0, hd0, hn0, hl0⟩ := ha
  have HR0 := hide hr0
  have HD0 := hide hd0
  clear hr0 hd0 hn0
  go_enter Tryd.func29, Tryd.ntmps29
  go_wp2_with fail
  refine (trim_any l0 n K _ _ HR0.out HD0.out hl0).mono ?_
  rintro e w' ⟨v, rfl, ⟨l, ⟨ao, ca, rfl, hca, hma, hra⟩, hd, hn, hl⟩, hw⟩
  subst w'
  unfold maxLen at hma
  have HN := hide hn
  have HD := hide hd
  have RA := hide hra
  clear hn hd hra
  by_cases h0 : l.length = 0
  · have hq : ((l.length : Int) == 0) = true := by simp [h0]
    have H0 := hide h0
    clear h0
    go_wp2
    go_ret
    exact ⟨ret_int (by
      have := HD.out.1
      rw [H0.out] at this
      simp at this
      rw [this]; rfl), rfl⟩
  · have hq : ((l.length : Int) == 0) = false := beq_eq_false_iff_ne.2 (by omega)
    rcases unhide RA with hc | ⟨b, off, rfl, hbl, hcell⟩
    · omega
    · have c1 : w.cell? ⟨b, off + (l.length - 1), none⟩ = some (.int .u32 (dg l (l.length - 1) : Nat)) := hcell (l.length - 1) (by omega)
      have hb1 : dg l (l.length - 1) < 4294967296 := HD.out.lt (by decide) _
      have hdd := HD.out.2 (l.length - 1)
      have hd0 : dg l (l.length - 1) ≠ 0 := by
        have h1 := HN.out
        rcases h1 with h1 | h1
        · omega
        · intro hz
          rw [hdd] at hz
          have := lt_of_digit_zero (β := BB) (k := l.length - 1) (by decide) (by have := HD.out.1; rw [show l.length - 1 + 1 = l.length by omega]; exact this) hz
          omega
      have hlen := lenBB hdd.symm hd0 (by have := HD.out.1; rw [show l.length - 1 + 1 = l.length by omega]; exact this)
      have HLEN := hide hlen
      clear hcell hdd hlen
      generalize dg l (l.length - 1) = d0 at *
      obtain ⟨m, hm⟩ : ∃ m, l.length = m + 1 := ⟨l.length - 1, by omega⟩
      rw [hm] at c1 hca hl HLEN hq ⊢
      have H0 := hide h0
      have HMM := hide hm
      clear hm h0
      simp only [Nat.add_sub_cancel] at c1 HLEN
      have hidx : (m : Int) + 1 - 1 = (m : Int) := by omega
      have hbl0 := bitLen_le32 d0 hb1
      go_wp2
      go_loop [3, 4] (fun c d => ∃ cc x : Nat, c = .int .i64 cc ∧ d = .int .u32 x ∧ cc + Go.bitLen x = Go.bitLen d0 ∧ x < 4294967296) (fun _ d => (intOf d).toNat)
      case atStart => exact ⟨0, d0, rfl, rfl, by omega, hb1⟩
      case round =>
        obtain ⟨cc, x, rfl, rfl, hsum, hx⟩ := hrel
        have HS := hide hsum
        have hcc : cc ≤ 32 := by omega
        clear hsum
        by_cases hx0 : x = 0
        · subst hx0
          go_wp2
          go_ret
          exact ⟨ret_int (by
            rw [HLEN.out, ← HS.out]
            have : Go.bitLen 0 = 0 := rfl
            rw [this]; omega), rfl⟩
        · have hpos : 0 < x := by omega
          have HX := hide (bitLen_half x hx0)
          clear hx0
          go_wp2
          go_round
          case rel => exact ⟨cc + 1, x / 2, by go_num, by go_num, by have h1 := HX.out; have h2 := HS.out; omega, by omega⟩
          case measure => simp [intOf]; omega

/-- v reads as the binary digits of n, without noughts at the end; at most K. -/
def BitV (w : World) (v : Value) (n K : Nat) : Prop := ∃ l, Rd mkB w v l ∧ Dig 2 l n ∧ Norm 2 l n ∧ l.length ≤ K
theorem BitV.below {w w' : World} {v : Value} {n K : Nat} (h : BitV w v n K) (hb : Below w.heap.size w w') : BitV w' v n K := by
  obtain ⟨l, h1, h2⟩ := h; exact ⟨l, h1.below hb, h2⟩

theorem infoB : (Tryd.prog.info? 4).map (fun i => (i.zero, i.size, i.bytes)) = some (some (.bool false), 1, 1) := by kernel_rfl

theorem bits_step (l : List Nat) (n i k : Nat) (hd : Dig 18446744073709551616 l n) (hk : k < 64) : dg l i / 2 ^ k % 2 = n / 2 ^ (64 * i + k) % 2 := by
  have h := bit_val n (64 * i + k)
  rw [show (64 * i + k) / 64 = i by omega, show (64 * i + k) % 64 = k by omega] at h
  rw [hd.2 i]
  exact h

end Go.Proofs.YtidfegilddlglaaDoor

/- Contracts of radicandref01: Shift, Limbs. -/
set_option linter.unusedVariables false
set_option linter.unusedSimpArgs false
set_option maxRecDepth 8000
namespace Go.Proofs.YtidfegilddlglaaDoor
open Go.RowKit Plain

theorem dig_zeros (k : Nat) {l : List Nat} {n : Nat} (h : Dig 2 l n) : Dig 2 (List.replicate k 0 ++ l) (n * 2 ^ k) := by
  have hv := dig_val (by decide) l n h
  have hd := val_dig (β := 2) (by decide) (List.replicate k 0 ++ l) (fun i => by
    rcases Nat.lt_or_ge i k with h1 | h1
    · simp [dg, List.getElem?_append, h1]
    · have := h.lt (by decide) (i - k)
      simp only [dg, List.getD_eq_getElem?_getD] at this ⊢
      rw [List.getElem?_append_right (by simpa using h1)]
      simpa using this)
  rw [val_append, val_zeros, hv, List.length_replicate, Nat.zero_add, Nat.mul_comm] at hd
  exact hd

theorem dig_drop (k : Nat) {l : List Nat} {n : Nat} (h : Dig 2 l n) (hk : k ≤ l.length) : Dig 2 (l.drop k) (n / 2 ^ k) := by
  refine ⟨?_, fun i => ?_⟩
  · rw [Nat.div_lt_iff_lt_mul (Nat.two_pow_pos k), List.length_drop, ← Nat.pow_add]
    have : l.length - k + k = l.length := by omega
    rw [this]; exact h.1
  · rw [Nat.div_div_eq_div_mul, ← Nat.pow_add, ← h.2 (k + i)]
    simp [dg]

end Go.Proofs.YtidfegilddlglaaDoor

/- Contracts of radicandref01: Limbs. -/
set_option linter.unusedVariables false
set_option linter.unusedSimpArgs false
set_option maxRecDepth 8000
namespace Go.Proofs.YtidfegilddlglaaDoor
open Go.RowKit Plain

/-- What Limbs has behind i digits of N: as many limbs as are begun. -/
def LimInv (N i : Nat) (o : List Nat) : Prop := o.length = (i + 63) / 64 ∧ (∀ j, dg o j < 18446744073709551616) ∧ val 18446744073709551616 o = N % 2 ^ i

theorem limInv_zero (N : Nat) : LimInv N 0 [] := ⟨rfl, fun j => by simp [dg], by simp [val, Nat.mod_one]⟩

theorem limInv_push {N i : Nat} {o : List Nat} (h : LimInv N i o) (hi : i % 64 = 0) : (o ++ [0]).length = i / 64 + 1 ∧ (∀ j, dg (o ++ [0]) j < 18446744073709551616) ∧ val 18446744073709551616 (o ++ [0]) = N % 2 ^ i := by
  obtain ⟨h1, h2, h3⟩ := h
  refine ⟨by simp; omega, fun j => ?_, ?_⟩
  · rw [getD_snoc]; split
    · decide
    · exact h2 j
  · rw [val_append, h3]; simp [val]

/-- The limb that a digit goes to, ahead of it. -/
theorem lim_room {N i : Nat} {o : List Nat} (h1 : o.length = i / 64 + 1) (h2 : ∀ j, dg o j < 18446744073709551616) (h3 : val 18446744073709551616 o = N % 2 ^ i) : dg o (i / 64) < 2 ^ (i % 64) := by
  have hd := val_dig (β := 18446744073709551616) (by decide) o h2
  rw [h3] at hd
  rw [hd.2, LLpow]
  refine Nat.lt_of_le_of_lt (Nat.mod_le _ _) ?_
  rw [Nat.div_lt_iff_lt_mul (Nat.two_pow_pos _), ← Nat.pow_add]
  have : i % 64 + 64 * (i / 64) = i := by omega
  rw [this]
  exact Nat.mod_lt _ (Nat.two_pow_pos i)

theorem lim_keep {N i : Nat} {o : List Nat} (h1 : o.length = i / 64 + 1) (h2 : ∀ j, dg o j < 18446744073709551616) (h3 : val 18446744073709551616 o = N % 2 ^ i) (hb : N / 2 ^ i % 2 = 0) : LimInv N (i + 1) o := by
  refine ⟨by omega, h2, ?_⟩
  rw [Nat.pow_succ, Nat.mod_mul, hb, h3]; simp

theorem lim_set {N i : Nat} {o : List Nat} (h1 : o.length = i / 64 + 1) (h2 : ∀ j, dg o j < 18446744073709551616) (h3 : val 18446744073709551616 o = N % 2 ^ i) (hb : N / 2 ^ i % 2 = 1) :
    dg o (i / 64) + 2 ^ (i % 64) < 18446744073709551616 ∧ LimInv N (i + 1) (o.set (i / 64) (dg o (i / 64) + 2 ^ (i % 64))) := by
  have hr := lim_room h1 h2 h3
  have hp : 2 ^ (i % 64) ≤ 2 ^ 63 := Nat.pow_le_pow_right (by decide) (by omega)
  have hlt : dg o (i / 64) + 2 ^ (i % 64) < 18446744073709551616 := by
    have : (2 : Nat) ^ 63 = 9223372036854775808 := by decide
    omega
  refine ⟨hlt, by rw [List.length_set]; omega, fun j => ?_, ?_⟩
  · rw [dg_set _ _ _ _ (by omega)]; split
    · exact hlt
    · exact h2 j
  · have hs := val_set 18446744073709551616 o (i / 64) (dg o (i / 64) + 2 ^ (i % 64)) (by omega)
    rw [Nat.add_mul] at hs
    have e : 2 ^ (i % 64) * 18446744073709551616 ^ (i / 64) = 2 ^ i := by
      rw [LLpow, ← Nat.pow_add]; congr 1; omega
    rw [e, h3] at hs
    rw [Nat.pow_succ, Nat.mod_mul, hb]
    omega

theorem lim_end {N : Nat} {l o : List Nat} (h : LimInv N l.length o) (hd : Dig 2 l N) (hn : Norm 2 l N) : Dig 18446744073709551616 o N ∧ Norm 18446744073709551616 o N := by
  obtain ⟨h1, h2, h3⟩ := h
  have hv := val_dig (β := 18446744073709551616) (by decide) o h2
  rw [h3, Nat.mod_eq_of_lt hd.1] at hv
  refine ⟨hv, ?_⟩
  rcases hn with hn | hn
  · exact .inl (by omega)
  · by_cases h0 : l.length = 0
    · exact .inl (by omega)
    · refine .inr (Nat.le_trans ?_ hn)
      rw [LLpow]
      exact Nat.pow_le_pow_right (by decide) (by omega)

theorem shl_wrap (r : Nat) (hr : r < 64) : IntKind.u64.wrap ((2 : Int) ^ r) = ((2 ^ r : Nat) : Int) := by
  rw [IntKind.wrap_u64]
  have h1 : (2 : Int) ^ r = ((2 ^ r : Nat) : Int) := by rw [Int.natCast_pow]; rfl
  have h2 : 2 ^ r ≤ 2 ^ 63 := Nat.pow_le_pow_right (by decide) (by omega)
  have h3 : (2 : Nat) ^ 63 = 9223372036854775808 := by decide
  rw [h1]; generalize 2 ^ r = p at *; omega

end Go.Proofs.YtidfegilddlglaaDoor

/- Contracts of radicandref01: Shl. -/
set_option linter.unusedVariables false
set_option linter.unusedSimpArgs false
set_option maxRecDepth 8000
namespace Go.Proofs.YtidfegilddlglaaDoor
open Go.RowKit Plain

/-- What is carried into the digit k of n times T. -/
def shc (n T k : Nat) : Nat := n % BB ^ k * T / BB ^ k

theorem shc_zero (n T : Nat) : shc n T 0 = 0 := by unfold shc; simp [Nat.mod_one]
theorem shc_lt (n T k : Nat) (hT : 0 < T) : shc n T k < T := by
  unfold shc
  have hp : 0 < BB ^ k := Nat.pow_pos (by decide)
  rw [Nat.div_lt_iff_lt_mul hp, Nat.mul_comm T]
  exact Nat.mul_lt_mul_of_pos_right (Nat.mod_lt _ hp) hT
theorem shc_succ (n T k : Nat) : (shc n T k + dgt n k * T) / BB = shc n T (k + 1) := by
  unfold shc dgt
  have hp : 0 < BB ^ k := Nat.pow_pos (by decide)
  rw [Nat.pow_succ, Nat.mod_mul (x := n), Nat.add_mul, Nat.mul_assoc, ← Nat.div_div_eq_div_mul, Nat.add_mul_div_left _ _ hp]
theorem shc_digit (n T k : Nat) : (shc n T k + dgt n k * T) % BB = n * T / BB ^ k % BB := by
  unfold shc dgt
  have hp : 0 < BB ^ k := Nat.pow_pos (by decide)
  have e : n * T = n % BB ^ k * T + BB ^ k * (n / BB ^ k * T) := by
    rw [← Nat.mul_assoc, ← Nat.add_mul, Nat.mod_add_div]
  rw [e, Nat.add_mul_div_left _ _ hp]
  generalize n / BB ^ k = m
  generalize n % BB ^ k * T / BB ^ k = c
  have e2 : m * T = m % BB * T + BB * (m / BB * T) := by
    rw [← Nat.mul_assoc, ← Nat.add_mul, Nat.mod_add_div]
  rw [e2, ← Nat.add_assoc, Nat.add_mul_mod_self_left]

theorem dig_zeros' {β : Nat} (hβ : 0 < β) (k : Nat) {l : List Nat} {n : Nat} (h : Dig β l n) : Dig β (List.replicate k 0 ++ l) (n * β ^ k) := by
  have hv := dig_val hβ l n h
  have hd := val_dig (β := β) hβ (List.replicate k 0 ++ l) (fun i => by
    rcases Nat.lt_or_ge i k with h1 | h1
    · simp [dg, List.getElem?_append, h1]; exact hβ
    · have := h.lt hβ (i - k)
      simp only [dg, List.getD_eq_getElem?_getD] at this ⊢
      rw [List.getElem?_append_right (by simpa using h1)]
      simpa using this)
  rw [val_append, val_zeros, hv, List.length_replicate, Nat.zero_add, Nat.mul_comm] at hd
  exact hd

theorem shl_or (c d r : Nat) (hr : r < 32) (hc : c < 2 ^ r) (hd : d < 4294967296) :
    bits .or .u64 (c : Int) (IntKind.u64.wrap ((d : Int) * 2 ^ r)) = ((c + d * 2 ^ r : Nat) : Int) ∧ c + d * 2 ^ r < 18446744073709551616 := by
  have hp : 2 ^ r ≤ 2 ^ 31 := Nat.pow_le_pow_right (by decide) (by omega)
  have h31 : (2 : Nat) ^ 31 = 2147483648 := by decide
  have hm : d * 2 ^ r ≤ 4294967295 * 2147483648 := Nat.mul_le_mul (by omega) (by omega)
  have e1 : IntKind.u64.wrap ((d : Int) * 2 ^ r) = ((2 ^ r * d : Nat) : Int) := by
    have : (d : Int) * 2 ^ r = ((2 ^ r * d : Nat) : Int) := by rw [Int.natCast_mul, Int.natCast_pow, Int.mul_comm]; rfl
    rw [IntKind.wrap_u64, this, Nat.mul_comm]; omega
  rw [Nat.mul_comm] at hm
  rw [Nat.mul_comm d, e1, bits_or_u64_nat _ _ (by omega) (by omega), Nat.or_comm, Nat.add_comm, Nat.two_pow_add_eq_or_of_lt hc]
  exact ⟨rfl, by rw [← Nat.two_pow_add_eq_or_of_lt hc]; omega⟩

theorem bigpow (n s : Nat) : n * 2 ^ (s % 32) * BB ^ (s / 32) = n * 2 ^ s := by
  have e : BB = 2 ^ 32 := by decide
  rw [e, ← Nat.pow_mul, Nat.mul_assoc, ← Nat.pow_add]; congr 2; omega

set_option maxHeartbeats 2000000 in
theorem refShl_any (n K s : Nat) (va : Value) (w : World) (ha : BigV w va n K) (hK : K ≤ 1000000) (hs : s ≤ 100000) :
    Calls Tryd.prog 77 #[va, .int .i64 s] w fun e w' => ∃ v, e = .returned v ∧ BigV w' v (n * 2 ^ s) (s / 32 + K + 1) ∧ Below w.heap.size w w' := by
  have ha' := ha
  obtain ⟨la, ⟨ao, ca, rfl, hca, hma, -⟩, hda, -, hka⟩ := ha'
  unfold maxLen at hma
  have HA : Hid (n < BB ^ la.length) := hda.1
  clear hda
  generalize la.length = na at *
  obtain ⟨i0, hi, hz0, hz1, hz2⟩ := info_parts info32
  have hT0 : 0 < 2 ^ (s % 32) := Nat.two_pow_pos _
  have hT1 : 2 ^ (s % 32) ≤ 2147483648 := Nat.le_trans (Nat.pow_le_pow_right (by decide) (show s % 32 ≤ 31 by omega)) (by decide)
  have HOR := hide (fun k => shl_or (shc n (2 ^ (s % 32)) k) (dgt n k) (s % 32) (by omega) (shc_lt n _ k hT0) (dgt_lt n k))
  have HBP := hide (bigpow n s)
  obtain ⟨T, hT⟩ : ∃ T : Nat, T = 2 ^ (s % 32) := ⟨_, rfl⟩
  rw [← hT] at hT0 hT1 HOR HBP
  have HT := hide hT
  clear hT
  have hwi : IntKind.i64.wrap ((s : Int) / 32) = (s : Int) / 32 := by rw [IntKind.wrap_i64]; omega
  have hwm : (s : Int).tmod 32 = (s : Int) % 32 := Int.tmod_eq_emod_of_nonneg (by omega)
  have hwt : ((s : Int) % 32).toNat = s % 32 := by omega
  have hws : 0 ≤ (s : Int) % 32 := by omega
  go_enter Tryd.func77, Tryd.ntmps77
  go_wp2
  go_loopw [5, 6] (fun v i wr => ∃ k : Nat, k ≤ s / 32 ∧ i = .int .i64 k ∧
        wr.ownsRow w.heap.size 95 1 v k ((List.replicate k 0).map mk32) ∧ Below w.heap.size w wr)
      (fun _ i _ => s / 32 - (intOf i).toNat)
  case atStart => exact ⟨0, by omega, rfl, World.ownsRow_nil _ _ _ _, Below.refl _ _⟩
  case round =>
    obtain ⟨k, hk, rfl, hown, hbel⟩ := hrel
    have hsz := hbel.size
    by_cases hlt : k < s / 32
    · have hj : (k : Int) < (s : Int) / 32 := by omega
      go_wp2_with (at_builtin; go_must (refine wpList_app1 w wr rfl _ _ 41 rfl w.heap.size 95 i0 (.int .u32 0) 4 Tryd.underlying41 hi hz0 hz1 hz2 rfl mk32 _ _ _ (by rfl) hown hbel _ 0 rfl rfl (by rfl) (by omega) (by omega) (by omega) ?_); intro v' w1 hown1 hbel1; clear hown hbel hsz)
      go_roundw
      case rel => exact ⟨k + 1, by omega, by go_num, by rw [List.replicate_succ']; exact hown1, hbel1⟩
      case measure => simp [intOf]; omega
    · have hj : ¬ (k : Int) < (s : Int) / 32 := by omega
      have hk : k = s / 32 := by omega
      subst hk
      clear hj
      go_wp2
      go_loopw [5, 7, 8] (fun v c i wr => ∃ k : Nat, k ≤ na + 1 ∧ i = .int .i64 k ∧ c = .int .u64 (shc n T k : Nat) ∧
          wr.ownsRow w.heap.size 95 1 v (s / 32 + k) ((List.replicate (s / 32) 0 ++ dl BB (n * T) k).map mk32) ∧ Below w.heap.size w wr)
        (fun _ _ i _ => na + 1 - (intOf i).toNat)
      case atStart => exact ⟨0, by omega, rfl, by rw [shc_zero]; rfl, by simpa [dl] using hown, hbel⟩
      case round =>
        clear hown hbel hsz
        obtain ⟨k, hk, rfl, rfl, hown, hbel⟩ := hrel
        have ha1 := ha.below hbel
        have hsz := hbel.size
        by_cases hlt : k ≤ na
        · have hj : (k : Int) ≤ (na : Int) := by omega
          obtain ⟨hor, hX⟩ := HOR.out k
          have hd1 := shc_digit n T k
          have hc1 := shc_succ n T k
          generalize hXe : shc n T k + dgt n k * T = X at *
          clear hXe
          have HD1 := hide hd1
          have HC1 := hide hc1
          clear hd1 hc1
          generalize shc n T k = c at *
          go_wp2_with (first
            | (go_at_call 107; refine (digit_big _ _ k _ _ _ ha1 (by omega)).mono ?_; rintro e w' ⟨rfl, hw⟩; subst w')
            | (at_builtin; go_must (refine wpList_app1 w wr rfl _ _ 41 rfl w.heap.size 95 i0 (.int .u32 0) 4 Tryd.underlying41 hi hz0 hz1 hz2 rfl mk32 _ _ _ (by rfl) hown hbel _ (X % 4294967296) (congrArg (Value.int .u32) (show (X : Int) % 4294967296 = ((X % 4294967296 : Nat) : Int) by omega)) rfl (by rfl) (by omega) (by omega) (by omega) ?_); intro v' w1 hown1 hbel1; clear hown hbel ha1 hsz))
          go_roundw
          case rel =>
            refine ⟨_, _, _, _, _, _, _, _, _, _, _, _, _, _, _, _, _, _, _, _, _, _, _, _, ⟨k + 1, by omega, ?_, ?_, ?_, hbel1⟩, rfl⟩
            · go_num
            · exact congrArg (Value.int .u64) (by rw [← HC1.out]; unfold BB; omega)
            · rw [dl_succ, ← HD1.out, ← List.append_assoc]; exact hown1
          case measure => simp [intOf]; omega
        · have hj : ¬ (k : Int) ≤ (na : Int) := by omega
          have hk : k = na + 1 := by omega
          have hr := Rd.of_owns (l := List.replicate (s / 32) 0 ++ dl BB (n * T) k) (by rw [List.length_append, List.length_replicate, dl_length]; exact hown)
          have hnT : n * T < BB ^ k := by
            rw [hk, Nat.pow_succ]
            exact Nat.lt_of_lt_of_le (Nat.mul_lt_mul_of_pos_right HA.out hT0) (Nat.mul_le_mul_left _ (Nat.le_trans hT1 (by decide)))
          have hd := dig_zeros' (β := BB) (by decide) (s / 32) (dl_dig BB (n * T) k hnT (by decide))
          rw [HBP.out] at hd
          have hl : (List.replicate (s / 32) 0 ++ dl BB (n * T) k).length ≤ s / 32 + K + 1 := by rw [List.length_append, List.length_replicate, dl_length]; omega
          have HK := hide hk
          clear hown ha1 hk
          go_wp2_with (go_at_call 75; refine (trim_any _ _ (s / 32 + K + 1) _ _ hr hd hl).mono ?_; rintro e w' ⟨v', rfl, hbig, hw⟩; subst w')
          go_ret
          exact ⟨_, rfl, hbig, hbel⟩

end Go.Proofs.YtidfegilddlglaaDoor

/- Contracts of radicandref01: Shr, Sub, Odd. -/
set_option linter.unusedVariables false
set_option linter.unusedSimpArgs false
set_option maxRecDepth 8000
namespace Go.Proofs.YtidfegilddlglaaDoor
open Go.RowKit Plain

/-- One digit of a quotient by 2^r. -/
theorem shr_digit (n k r : Nat) (hr : r < 32) : (dgt n k + 4294967296 * dgt n (k + 1)) / 2 ^ r % 4294967296 = n / 2 ^ r / BB ^ k % BB := by
  unfold dgt
  have hT := Nat.two_pow_pos r
  have e1 : n / BB ^ (k + 1) = n / BB ^ k / BB := div_pow_succ n BB k
  have e0 : n / 2 ^ r / BB ^ k = n / BB ^ k / 2 ^ r := by rw [Nat.div_div_eq_div_mul, Nat.mul_comm, ← Nat.div_div_eq_div_mul]
  rw [e1, e0]
  generalize n / BB ^ k = m
  obtain ⟨s, hs⟩ : ∃ s, 32 = r + s := ⟨32 - r, by omega⟩
  have eB : BB = 2 ^ r * 2 ^ s := by rw [← Nat.pow_add, ← hs]; rfl
  have e2 : m = (m % BB + BB * (m / BB % BB)) + BB * BB * (m / BB / BB) := by
    have h1 := Nat.mod_add_div m BB
    have h2 := Nat.mod_add_div (m / BB) BB
    generalize m / BB / BB = q at *
    generalize m / BB % BB = d at *
    generalize hX : m / BB = X at *
    rw [← h2, Nat.mul_add, ← Nat.add_assoc, ← Nat.mul_assoc] at h1
    exact h1.symm
  show (m % BB + BB * (m / BB % BB)) / 2 ^ r % BB = m / 2 ^ r % BB
  conv => rhs; rw [e2]
  have e3 : BB * BB * (m / BB / BB) = 2 ^ r * (BB * (2 ^ s * (m / BB / BB))) := by
    conv => lhs; rw [show BB * BB = (2 ^ r * 2 ^ s) * BB from by rw [← eB]]
    simp only [Nat.mul_left_comm, Nat.mul_comm]
  rw [e3, Nat.add_mul_div_left _ _ hT, Nat.add_mul_mod_self_left]

theorem shr_or (c d : Nat) (hc : c < 4294967296) (hd : d < 4294967296) :
    bits .or .u64 (c : Int) ((d : Int) * 4294967296) = ((c + 4294967296 * d : Nat) : Int) := by
  have e : (d : Int) * 4294967296 = ((2 ^ 32 * d : Nat) : Int) := by omega
  rw [e, bits_or_u64_nat _ _ (by omega) (by omega), Nat.or_comm, ← Nat.two_pow_add_eq_or_of_lt (by omega)]
  omega

theorem shr_pow (n s : Nat) : n / 2 ^ (s % 32) / BB ^ (s / 32) = n / 2 ^ s := by
  have e : BB = 2 ^ 32 := by decide
  rw [e, ← Nat.pow_mul, Nat.div_div_eq_div_mul, ← Nat.pow_add]; congr 2; omega

theorem shr_digit' (n s k : Nat) : (dgt n (s / 32 + k) + 4294967296 * dgt n (s / 32 + k + 1)) / 2 ^ (s % 32) % 4294967296 = n / 2 ^ s / BB ^ k % BB := by
  rw [shr_digit n (s / 32 + k) (s % 32) (by omega), Nat.pow_add, ← Nat.div_div_eq_div_mul, shr_pow]

theorem shr_fits (n s len k : Nat) (hn : n < BB ^ len) (hk : s / 32 + k = max len (s / 32)) : n / 2 ^ s < BB ^ k := by
  rw [← shr_pow, Nat.div_lt_iff_lt_mul (Nat.pow_pos (by decide)), ← Nat.pow_add]
  refine Nat.lt_of_le_of_lt (Nat.div_le_self _ _) (Nat.lt_of_lt_of_le hn (Nat.pow_le_pow_right (by decide) (by omega)))

end Go.Proofs.YtidfegilddlglaaDoor

/- Contracts of radicandref01: Sub, Odd. -/
set_option linter.unusedVariables false
set_option linter.unusedSimpArgs false
set_option maxRecDepth 8000
namespace Go.Proofs.YtidfegilddlglaaDoor
open Go.RowKit Plain

theorem subW_sub {β : Nat} (hβ : 0 < β) (K n m : Nat) (hn : n < β ^ K) (hm : m ≤ n) : subW β K n m = n - m := by
  have h := subW_eq hβ K n m
  have hl := subW_lt hβ K n m
  rw [Nat.mod_eq_of_lt hn, Nat.mod_eq_of_lt (Nat.lt_of_le_of_lt hm hn)] at h
  have hb := bor_le β n m K
  rcases (show bor β n m K = 0 ∨ bor β n m K = 1 by omega) with e | e
  · rw [e] at h; omega
  · rw [e] at h; omega

theorem sub_step (n m k : Nat) : ∃ X, X = dgt n k + 4294967296 - dgt m k - bor BB n m k ∧ dgt m k + bor BB n m k ≤ dgt n k + 4294967296 ∧ X % 4294967296 = sbd BB n m k ∧ 1 - X / 4294967296 = bor BB n m (k + 1) ∧ X < 8589934592 ∧ X / 4294967296 ≤ 1 := by
  obtain ⟨h1, h2⟩ := sbd_eq (β := BB) (by decide) n m k
  have hb := bor_le BB n m k
  have hb2 := bor_le BB n m (k + 1)
  have d0 := dgt_lt n k
  have d1 := dgt_lt m k
  have h2' : sbd BB n m k + (dgt m k + bor BB n m k) = dgt n k + 4294967296 * bor BB n m (k + 1) := h2
  have h1' : sbd BB n m k < 4294967296 := h1
  refine ⟨_, rfl, by omega, ?_, ?_, ?_, ?_⟩
  · rcases (show bor BB n m (k + 1) = 0 ∨ bor BB n m (k + 1) = 1 by omega) with e | e <;> rw [e] at h2' <;> omega
  · rcases (show bor BB n m (k + 1) = 0 ∨ bor BB n m (k + 1) = 1 by omega) with e | e <;> rw [e] at h2' ⊢ <;> omega
  · omega
  · omega

end Go.Proofs.YtidfegilddlglaaDoor

