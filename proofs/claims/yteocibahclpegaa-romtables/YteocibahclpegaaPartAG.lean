/- Contracts and laws: LimbE, LimbF, LimbG, LimbH, LimbI, LawA, LawB, WideA, WideB, RefD, RefE, RefF, WideC, RefG, RefH, RefI. -/
import Derived.Test.YteocibahclpegaaPartAE
import Derived.Test.YteocibahclpegaaPartAF
import Derived.StillTailTactics
import Derived.Test.YteocibahclpegaaPartAC
/- Contracts: limb.Sum. -/
set_option linter.unusedVariables false
set_option linter.unusedSimpArgs false
set_option maxRecDepth 8000
namespace Go.Proofs.Yteocibahclpegaa
open Go.RowKit Plain

theorem mixedOk : Try.prog.follows .mixedOrders = true := by kernel_rfl

end Go.Proofs.Yteocibahclpegaa

/- Contracts: limb.Sum. -/
set_option linter.unusedVariables false
set_option linter.unusedSimpArgs false
set_option maxRecDepth 8000
namespace Go.Proofs.Yteocibahclpegaa
open Go.RowKit Plain

theorem app3 (x a b c : Value) : (#[x] ++ #[a, b, c] : Array Value) = #[x, a, b, c] := rfl

end Go.Proofs.Yteocibahclpegaa

/- Contracts: limb.Shift. -/
set_option linter.unusedVariables false
set_option linter.unusedSimpArgs false
set_option maxRecDepth 8000
namespace Go.Proofs.Yteocibahclpegaa
open Go.RowKit Plain

/-- The limb at a place that may be below 0. -/
def atI (n : Nat) (i : Int) : Int := if i < 0 then 0 else (dgl n i.toNat : Nat)
/-- The limb at place e of n, times 2^b (b < 64). -/
def shd (n b : Nat) (e : Int) : Nat := if e < 0 then 0 else n * 2 ^ b / 18446744073709551616 ^ e.toNat % 18446744073709551616

theorem or_add (b x y : Nat) (hb : b < 64) (hx : x < 18446744073709551616) (hy : y < 18446744073709551616) :
    bits .or .u64 (IntKind.u64.wrap ((x : Int) * 2 ^ b)) ((y : Int) / 2 ^ min (IntKind.u64.wrap (64 - (b : Int))).toNat 64) = ((2 ^ b * (x % 2 ^ (64 - b)) + y / 2 ^ (64 - b) : Nat) : Int) := by
  have e0 : min (IntKind.u64.wrap (64 - (b : Int))).toNat 64 = 64 - b := by rw [IntKind.wrap_u64]; omega
  have hTR : 2 ^ b * 2 ^ (64 - b) = 18446744073709551616 := by rw [← Nat.pow_add]; have : b + (64 - b) = 64 := by omega
                                                               rw [this]
  have e1 : IntKind.u64.wrap ((x : Int) * 2 ^ b) = ((2 ^ b * (x % 2 ^ (64 - b)) : Nat) : Int) := by
    rw [IntKind.wrap_u64, ← Nat.mul_mod_mul_left, hTR]
    have : (x : Int) * 2 ^ b = ((2 ^ b * x : Nat) : Int) := by rw [Int.natCast_mul, Int.natCast_pow, Int.mul_comm]; rfl
    rw [this]; omega
  have e2 : (y : Int) / 2 ^ (64 - b) = ((y / 2 ^ (64 - b) : Nat) : Int) := by rw [Int.natCast_ediv, Int.natCast_pow]; rfl
  have hpos : 0 < 2 ^ (64 - b) := Nat.two_pow_pos _
  have hy2 : y / 2 ^ (64 - b) < 2 ^ b := by rw [Nat.div_lt_iff_lt_mul hpos, hTR]; exact hy
  have hx2 : 2 ^ b * (x % 2 ^ (64 - b)) + 2 ^ b ≤ 18446744073709551616 := by
    rw [← Nat.mul_succ, ← hTR]; exact Nat.mul_le_mul_left _ (Nat.mod_lt _ hpos)
  rw [e0, e1, e2, bits_or_u64_nat _ _ (by have := Nat.two_pow_pos b; omega) (by have := Nat.two_pow_pos b; omega), Nat.two_pow_add_eq_or_of_lt hy2]

theorem shift_val (n b : Nat) (hb : b < 64) (e : Int) :
    bits .or .u64 (IntKind.u64.wrap (atI n e * 2 ^ b)) (atI n (e - 1) / 2 ^ min (IntKind.u64.wrap (64 - (b : Int))).toNat 64) = (shd n b e : Nat) := by
  have hTR : 2 ^ b * 2 ^ (64 - b) = 18446744073709551616 := by rw [← Nat.pow_add]; have : b + (64 - b) = 64 := by omega
                                                               rw [this]
  have hT := Nat.two_pow_pos b
  have hR := Nat.two_pow_pos (64 - b)
  unfold shd
  by_cases h : e < 0
  · have h1 : atI n e = ((0 : Nat) : Int) := by unfold atI; rw [if_pos h]; rfl
    have h2 : atI n (e - 1) = ((0 : Nat) : Int) := by unfold atI; rw [if_pos (by omega)]; rfl
    rw [h1, h2, or_add b 0 0 hb (by decide) (by decide), if_pos h]
    simp
  · obtain ⟨k, rfl⟩ := Int.eq_ofNat_of_zero_le (Int.not_lt.1 h)
    have h1 : atI n (k : Int) = (dgl n k : Nat) := by unfold atI; rw [if_neg h, Int.toNat_natCast]
    rw [if_neg h, Int.toNat_natCast]
    cases k with
    | zero =>
      have h2 : atI n (((0 : Nat) : Int) - 1) = ((0 : Nat) : Int) := by unfold atI; rw [if_pos (by omega)]; rfl
      rw [h1, h2, or_add b _ 0 hb (dgl_lt n 0) (by decide)]
      have := shift_digit0 (2 ^ b) (2 ^ (64 - b)) n hR
      rw [hTR] at this
      rw [this]
      simp [dgl]
    | succ k =>
      have h2 : atI n (((k + 1 : Nat) : Int) - 1) = (dgl n k : Nat) := by
        have : ((k + 1 : Nat) : Int) - 1 = (k : Int) := by omega
        rw [this]; unfold atI; rw [if_neg (by omega), Int.toNat_natCast]
      rw [h1, h2, or_add b _ _ hb (dgl_lt n _) (dgl_lt n _)]
      have := shift_digit (2 ^ b) (2 ^ (64 - b)) n k hT hR
      rw [hTR] at this
      rw [this]
      rfl

end Go.Proofs.Yteocibahclpegaa

/- Contracts: limb.Shift. -/
set_option linter.unusedVariables false
set_option linter.unusedSimpArgs false
set_option maxRecDepth 8000
namespace Go.Proofs.Yteocibahclpegaa
open Go.RowKit Plain

theorem and63 (n : Int) : bits .and .i64 n 63 = ((n % 64).toNat : Nat) := by
  have h63 : (BitVec.ofInt 64 63).toNat = 2 ^ 6 - 1 := by decide
  have key : (BitVec.ofInt 64 n &&& BitVec.ofInt 64 63).toNat = (n % ((2 ^ 64 : Nat) : Int)).toNat % 2 ^ 6 := by
    rw [BitVec.toNat_and, BitVec.toNat_ofInt, h63, Nat.and_two_pow_sub_one_eq_mod]
  show IntKind.i64.wrap ((BitVec.ofInt 64 n &&& BitVec.ofInt 64 63).toNat : Nat) = _
  rw [key, IntKind.wrap_i64]
  omega

/-- n times 2^k, or divided by 2^-k, without rest. -/
def sh (n : Nat) (k : Int) : Nat := if k < 0 then n / 2 ^ (-k).toNat else n * 2 ^ k.toNat

theorem LLpow (s : Nat) : (18446744073709551616 : Nat) ^ s = 2 ^ (64 * s) := by rw [Nat.pow_mul]

theorem sh_pos (n s b : Nat) : sh n (64 * (s : Int) + (b : Int)) = n * 2 ^ b * 18446744073709551616 ^ s := by
  unfold sh
  rw [if_neg (by omega), LLpow, show (64 * (s : Int) + (b : Int)).toNat = b + 64 * s by omega, Nat.pow_add, Nat.mul_assoc]
theorem sh_neg (n t b : Nat) (ht : 1 ≤ t) (hb : b < 64) : sh n (-64 * (t : Int) + (b : Int)) = n * 2 ^ b / 18446744073709551616 ^ t := by
  unfold sh
  rw [if_pos (by omega), LLpow, show (-(-64 * (t : Int) + (b : Int))).toNat = 64 * t - b by omega]
  have e : 2 ^ (64 * t) = 2 ^ (64 * t - b) * 2 ^ b := by rw [← Nat.pow_add]; congr 1; omega
  rw [e, Nat.mul_div_mul_right _ _ (Nat.two_pow_pos b)]

theorem sh_digit (n b : Nat) (k : Int) (hb : b = (k % 64).toNat) (j : Nat) : shd n b ((j : Int) - k / 64) = sh n k / 18446744073709551616 ^ j % 18446744073709551616 := by
  by_cases hk : k / 64 < 0
  · obtain ⟨t, ht⟩ : ∃ t : Nat, k / 64 = -(t : Int) := ⟨(-(k / 64)).toNat, by omega⟩
    have ek : k = -64 * (t : Int) + (b : Int) := by omega
    rw [ek, sh_neg n t b (by omega) (by omega), Nat.div_div_eq_div_mul, ← Nat.pow_add]
    have e2 : (-64 * (t : Int) + (b : Int)) / 64 = -(t : Int) := by omega
    rw [e2]
    unfold shd
    rw [if_neg (by omega), show ((j : Int) - -(t : Int)).toNat = t + j by omega]
  · obtain ⟨s, hs⟩ : ∃ s : Nat, k / 64 = (s : Int) := ⟨(k / 64).toNat, by omega⟩
    have ek : k = 64 * (s : Int) + (b : Int) := by omega
    rw [ek, sh_pos]
    have e2 : (64 * (s : Int) + (b : Int)) / 64 = (s : Int) := by omega
    rw [e2]
    unfold shd
    by_cases hj : j < s
    · rw [if_pos (by omega)]
      have e3 : n * 2 ^ b * 18446744073709551616 ^ s = 18446744073709551616 ^ j * (n * 2 ^ b * 18446744073709551616 ^ (s - j - 1) * 18446744073709551616) := by
        have : s = j + (s - j - 1 + 1) := by omega
        conv => lhs; rw [this]
        rw [Nat.pow_add, Nat.pow_succ]
        simp [Nat.mul_comm, Nat.mul_left_comm, Nat.mul_assoc]
      rw [e3, Nat.mul_div_cancel_left _ (Nat.pow_pos (by decide)), Nat.mul_mod_left]
    · rw [if_neg (by omega), show ((j : Int) - (s : Int)).toNat = j - s by omega]
      have e3 : (18446744073709551616 : Nat) ^ j = 18446744073709551616 ^ (j - s) * 18446744073709551616 ^ s := by rw [← Nat.pow_add]; congr 1; omega
      rw [e3, Nat.mul_div_mul_right _ _ (Nat.pow_pos (by decide))]

end Go.Proofs.Yteocibahclpegaa

/- Contracts: limb.Bit. -/
set_option linter.unusedVariables false
set_option linter.unusedSimpArgs false
set_option maxRecDepth 8000
namespace Go.Proofs.Yteocibahclpegaa
open Go.RowKit Plain

end Go.Proofs.Yteocibahclpegaa

/- Contracts: radicandref01.Small. -/
set_option linter.unusedVariables false
set_option linter.unusedSimpArgs false
set_option maxRecDepth 8000
namespace Go.Proofs.Yteocibahclpegaa
open Go.RowKit Plain

theorem small_any (x : Nat) (hx : x < 18446744073709551616) (w : World) :
    Calls Try.prog 18 #[.int .u64 (x : Nat)] w fun e w' => ∃ v, e = .returned v ∧ BigV w' v x 2 ∧ Below w.heap.size w w' := by
  have hr := Rd.lit (mk := mk64) w 24 [.int .u64 (x : Nat)] [x] rfl 1 (Nat.le_refl 1) (by decide)
  have hd := dig_one (β := LL) hx
  have HR := hide hr
  clear hr
  go_enter Try.func18, Try.ntmps18
  go_wp2_with (go_at_call 49; refine (of_any [x] x _ _ HR.out hd (by simp)).mono ?_; rintro e w' ⟨v, rfl, hbig, hbel⟩)
  go_ret
  exact ⟨_, rfl, hbig, Below.trans ((Below.refl _ _).alloc (Nat.le_refl _) _) (hbel.mono (by simp))⟩

end Go.Proofs.Yteocibahclpegaa

/- The calls of the law LimbAdds, said of naturals. -/
set_option linter.unusedVariables false
set_option linter.unusedSimpArgs false
set_option maxRecDepth 8000
namespace Go.Proofs.Yteocibahclpegaa
open Go.RowKit Plain

theorem below_alloc_then {a b : World} {o : Obj} (h : Below (a.alloc o).heap.size (a.alloc o) b) : Below a.heap.size a b :=
  Below.trans ((Below.refl _ _).alloc (Nat.le_refl _) o) (h.mono (by simp))

end Go.Proofs.Yteocibahclpegaa

/- Contracts: wide.each. -/
set_option linter.unusedVariables false
set_option linter.unusedSimpArgs false
set_option maxRecDepth 8000
namespace Go.Proofs.Yteocibahclpegaa
open Go.RowKit Plain

theorem below_set8 {B : Nat} {a w : World} (h : Below B a w) (b : Nat) (hb : B ≤ b) (x0 x1 x2 x3 x4 x5 x6 x7 : Value) :
    Below B a ((((((((w.setCell ⟨b, 0, none⟩ x0).setCell ⟨b, 1, none⟩ x1).setCell ⟨b, 2, none⟩ x2).setCell ⟨b, 3, none⟩ x3).setCell ⟨b, 4, none⟩ x4).setCell ⟨b, 5, none⟩ x5).setCell ⟨b, 6, none⟩ x6).setCell ⟨b, 7, none⟩ x7) :=
  (((((((h.setCell (p := ⟨b, 0, none⟩) hb _).setCell (p := ⟨b, 1, none⟩) hb _).setCell (p := ⟨b, 2, none⟩) hb _).setCell (p := ⟨b, 3, none⟩) hb _).setCell (p := ⟨b, 4, none⟩) hb _).setCell (p := ⟨b, 5, none⟩) hb _).setCell (p := ⟨b, 6, none⟩) hb _).setCell (p := ⟨b, 7, none⟩) hb _

/-- A world under a name, with what is known of it. -/
theorem wp_gen {P : Program} {c : Code} {Q : Exit → Act → World → Prop} {a : Act} {w : World} (F : World → Prop) (h : F w) (k : ∀ W, F W → Code.wp P c Q a W) : Code.wp P c Q a w := k w h

set_option maxHeartbeats 1000000 in
theorem each_any (fid : Nat) (caps : Array Value) (f : Nat → Nat) (I : Nat → World → Prop) (row : Option Nat) (w : World)
    (hent : ∀ args w, (callFunc fid args).run Try.prog w = .ok (.enter fid args) w) (hrow : ∀ c, row = some c → c < w.heap.size)
    (hcall : ∀ i wr, i < 8 → I i wr → w.heap.size ≤ wr.heap.size → Calls Try.prog fid (#[.int .i64 i] ++ caps) wr fun e w' => e = .returned (.int .u64 (f i : Nat)) ∧ I (i + 1) w' ∧ wr.grownBy w' row)
    (hst : ∀ i wr wr', I i wr → Below w.heap.size wr wr' → I i wr') (h0 : I 0 w) :
    Calls Try.prog 87 #[.func (.func fid) #[] caps] w fun e w' => e = .returned (.agg #[.int .u64 (f 0 : Nat), .int .u64 (f 1 : Nat), .int .u64 (f 2 : Nat), .int .u64 (f 3 : Nat), .int .u64 (f 4 : Nat), .int .u64 (f 5 : Nat), .int .u64 (f 6 : Nat), .int .u64 (f 7 : Nat)]) ∧ I 8 w' ∧ w.grownBy w' row := by
  have HC := hide hcall
  have HS := hide hst
  have H0 := hide h0
  have HR := hide hrow
  clear hcall hst h0 hrow
  go_enter Try.func87, Try.ntmps87
  go_wp2
  go_loopw [5] (fun i wr => ∃ (k : Nat) (o : List Nat), k ≤ 8 ∧ i = .int .i64 k ∧ Hid (o.length = 8 ∧ ∀ j, j < k → dg o j = f j) ∧
      wr.ownsRow w.heap.size 32 1 (.slice (some ⟨w.heap.size + 1, 0, none⟩) 8 8) 8 (o.map mk64) ∧ wr.ownsRow w.heap.size 32 1 (.slice (some ⟨w.heap.size, 0, none⟩) 8 8) 8 ((List.replicate 8 0).map mk64) ∧ I k wr ∧ w.grownBy wr row)
    (fun i _ => 8 - (intOf i).toNat)
  case atStart =>
    have hb : Below w.heap.size w ((w.alloc (.cells #[.int .u64 0, .int .u64 0, .int .u64 0, .int .u64 0, .int .u64 0, .int .u64 0, .int .u64 0, .int .u64 0] 32)).alloc (.cells #[.int .u64 0, .int .u64 0, .int .u64 0, .int .u64 0, .int .u64 0, .int .u64 0, .int .u64 0, .int .u64 0] 32)) :=
      Below.alloc (Below.alloc (Below.refl _ _) (Nat.le_refl _) _) (by simp) _
    refine ⟨0, List.replicate 8 0, by omega, rfl, ⟨rfl, fun j hj => by omega⟩, ?_, ?_, unhide HS _ _ _ H0.out hb, grownBy_of_below hb row⟩
    · have := World.ownsRow_lit (base := w.heap.size) (e := 32) (size := 1) (w.alloc (.cells #[.int .u64 0, .int .u64 0, .int .u64 0, .int .u64 0, .int .u64 0, .int .u64 0, .int .u64 0, .int .u64 0] 32)) #[.int .u64 0, .int .u64 0, .int .u64 0, .int .u64 0, .int .u64 0, .int .u64 0, .int .u64 0, .int .u64 0] 8 (by simp) (by simp [maxLen]) rfl
      rw [World.size_alloc] at this
      exact this
    · exact (World.ownsRow_lit (base := w.heap.size) (e := 32) (size := 1) w #[.int .u64 0, .int .u64 0, .int .u64 0, .int .u64 0, .int .u64 0, .int .u64 0, .int .u64 0, .int .u64 0] 8 (Nat.le_refl _) (by simp [maxLen]) rfl).alloc _
  case round =>
    clear H0
    obtain ⟨k, o, hk, rfl, ho, hV, hR, hI, hgr⟩ := hrel
    by_cases hlt : k < 8
    · have hsz := hgr.size
      obtain ⟨ho1, ho2⟩ := ho.out
      have HO1 := hide ho1
      have HO2 := hide ho2
      clear ho ho1 ho2
      go_wp2_with fail
      refine (unhide HC k wr hlt hI hsz).mono ?_
      rintro e w1 ⟨rfl, hI1, hg1⟩
      have hne : ∀ x, w.heap.size ≤ x → (some x : Option Nat) ≠ row := by
        intro x hx he
        have := unhide HR _ he.symm
        omega
      have hV1 := hV.kept hg1 (.inr (hne _ (by simp)))
      have hR1 := hR.kept hg1 (.inr (hne _ (by simp)))
      have hgr1 := grownBy_trans hgr hg1
      clear hV hR hI hgr hg1 hne
      have hco : w1.cell? ⟨w.heap.size + 1, k, none⟩ = some (.int .u64 (dg o k : Nat)) := owns_cell hV1 HO1.out k hlt
      have hfo : w1.frozen? ⟨w.heap.size + 1, k, none⟩ = false := hV1.frozenAt _
      obtain ⟨hV2, hb2⟩ := owns_store (mk := mk64) hV1 k (f k) (Below.refl w.heap.size w1) (by omega)
      have hR2 := hR1.kept (hV1.stored k (mk64 (f k))).2 (.inr (by simp [Value.ownBlock]))
      have HI2 := hide (unhide HS _ _ _ hI1 hb2)
      have HG2 := hide (grownBy_then hgr1 (Nat.le_refl _) hb2)
      have HV2 := hide hV2
      have HR2 := hide hR2
      have HL2 := hide (show (o.set k (f k)).length = 8 from by rw [List.length_set]; exact HO1.out)
      have HD2 := hide (show ∀ j, j < k + 1 → dg (o.set k (f k)) j = f j from by
        intro j hj
        rw [dg_set _ _ _ _ (by rw [HO1.out]; exact hlt)]
        split
        · rename_i h; rw [h]
        · exact HO2.out j (by omega))
      clear hV1 hR1 hgr1 hV2 hR2 hb2 hI1
      have hj1 : (k : Int) < 8 := by omega
      go_wp2
      go_roundw
      case rel => exact ⟨k + 1, _, by omega, by go_num, ⟨HL2.out, HD2.out⟩, HV2.out, HR2.out, HI2.out, HG2.out⟩
      case measure => simp [intOf]; omega
    · have hk8 : k = 8 := by omega
      subst hk8
      obtain ⟨ho1, ho2⟩ := ho.out
      have hv : ∀ i, i < 8 → wr.cell? ⟨w.heap.size + 1, i, none⟩ = some (.int .u64 (f i : Nat)) := fun i hi => by rw [owns_cell hV ho1 i hi, ho2 i hi]; rfl
      have hr : ∀ i, i < 8 → wr.cell? ⟨w.heap.size, i, none⟩ = some (.int .u64 (dg (List.replicate 8 0) i : Nat)) := fun i hi => owns_cell hR (by simp) i hi
      have hfr : ∀ i, wr.frozen? ⟨w.heap.size, i, none⟩ = false := fun i => hR.frozenAt i
      clear ho ho1 ho2 hV hR
      have HI := hide hI
      have HG := hide hgr
      clear hI hgr
      go_wp2
      have hb8 := below_set8 (Below.refl w.heap.size wr) w.heap.size (Nat.le_refl _) (.int .u64 (f 0 : Nat)) (.int .u64 (f 1 : Nat)) (.int .u64 (f 2 : Nat)) (.int .u64 (f 3 : Nat)) (.int .u64 (f 4 : Nat)) (.int .u64 (f 5 : Nat)) (.int .u64 (f 6 : Nat)) (.int .u64 (f 7 : Nat))
      exact bodyPost_ret (v := .agg #[.int .u64 (f 0 : Nat), .int .u64 (f 1 : Nat), .int .u64 (f 2 : Nat), .int .u64 (f 3 : Nat), .int .u64 (f 4 : Nat), .int .u64 (f 5 : Nat), .int .u64 (f 6 : Nat), .int .u64 (f 7 : Nat)]) (by simp [results, Try.results87, go_sem, hr]) rfl ⟨rfl, unhide HS _ _ _ HI.out hb8, grownBy_then HG.out (Nat.le_refl _) hb8⟩

end Go.Proofs.Yteocibahclpegaa

/- Contracts: wide.chain. -/
set_option linter.unusedVariables false
set_option linter.unusedSimpArgs false
set_option maxRecDepth 8000
namespace Go.Proofs.Yteocibahclpegaa
open Go.RowKit Plain

/-- The block b holds the limbs of a. -/
def Lies (w : World) (b a : Nat) : Prop := ∀ i, i < 8 → w.cell? ⟨b, i, none⟩ = some (.int .u64 (dgl a i : Nat))
theorem Lies.below {w w' : World} {b a B : Nat} (h : Lies w b a) (hb : Below B w w') (hlt : b < B) : Lies w' b a :=
  fun i hi => (hb.cell (p := ⟨b, i, none⟩) hlt).trans (h i hi)

theorem dgl_zero (i : Nat) : dgl 0 i = 0 := by simp [dgl]

theorem lies_alloc (w : World) (a : Nat) (e : TypeId) : Lies (w.alloc (.cells #[.int .u64 (dgl (a) 0 : Nat), .int .u64 (dgl (a) 1 : Nat), .int .u64 (dgl (a) 2 : Nat), .int .u64 (dgl (a) 3 : Nat), .int .u64 (dgl (a) 4 : Nat), .int .u64 (dgl (a) 5 : Nat), .int .u64 (dgl (a) 6 : Nat), .int .u64 (dgl (a) 7 : Nat)] e)) w.heap.size a := by
  intro i hi
  rw [cell_of_row _ w.heap.size i #[.int .u64 (dgl (a) 0 : Nat), .int .u64 (dgl (a) 1 : Nat), .int .u64 (dgl (a) 2 : Nat), .int .u64 (dgl (a) 3 : Nat), .int .u64 (dgl (a) 4 : Nat), .int .u64 (dgl (a) 5 : Nat), .int .u64 (dgl (a) 6 : Nat), .int .u64 (dgl (a) 7 : Nat)] e (0, 0) (heap_alloc_new w _)]
  match i, hi with
  | 0, _ => rfl
  | 1, _ => rfl
  | 2, _ => rfl
  | 3, _ => rfl
  | 4, _ => rfl
  | 5, _ => rfl
  | 6, _ => rfl
  | 7, _ => rfl
theorem lies_alloc0 (w : World) (e : TypeId) : Lies (w.alloc (.cells #[.int .u64 0, .int .u64 0, .int .u64 0, .int .u64 0, .int .u64 0, .int .u64 0, .int .u64 0, .int .u64 0] e)) w.heap.size 0 := by
  have h := lies_alloc w 0 e
  simp only [dgl_zero] at h
  exact h
theorem Lies.alloc {w : World} {b a : Nat} (h : Lies w b a) (hlt : b < w.heap.size) (o : Obj) : Lies (w.alloc o) b a :=
  h.below ((Below.refl _ _).alloc (Nat.le_refl _) o) hlt

/-- The box of a result, behind a call that left what was there. -/
theorem res_box {X w1 : World} {e : TypeId} (hb : Below (X.alloc (.cells #[.int .u64 0, .int .u64 0, .int .u64 0, .int .u64 0, .int .u64 0, .int .u64 0, .int .u64 0, .int .u64 0] e)).heap.size (X.alloc (.cells #[.int .u64 0, .int .u64 0, .int .u64 0, .int .u64 0, .int .u64 0, .int .u64 0, .int .u64 0, .int .u64 0] e)) w1) :
    (∀ i, i < 8 → w1.cell? ⟨X.heap.size, i, none⟩ = some (.int .u64 (dgl 0 i : Nat))) ∧ (∀ i, w1.frozen? ⟨X.heap.size, i, none⟩ = false) ∧ X.heap.size < w1.heap.size := by
  have h1 := hb.size
  simp only [World.size_alloc] at h1
  refine ⟨(lies_alloc0 X e).below hb (by simp), fun i => ?_, by omega⟩
  rw [hb.frozen (p := ⟨X.heap.size, i, none⟩) (by simp)]
  simp [go_sem]

end Go.Proofs.Yteocibahclpegaa

/- Contracts of radicandref01: Len, cut, Bits. -/
set_option linter.unusedVariables false
set_option linter.unusedSimpArgs false
set_option maxRecDepth 8000
namespace Go.Proofs.Yteocibahclpegaa
open Go.RowKit Plain

end Go.Proofs.Yteocibahclpegaa

/- Contracts of radicandref01: Shift, Limbs. -/
set_option linter.unusedVariables false
set_option linter.unusedSimpArgs false
set_option maxRecDepth 8000
namespace Go.Proofs.Yteocibahclpegaa
open Go.RowKit Plain

end Go.Proofs.Yteocibahclpegaa

/- Contracts of radicandref01: Limbs. -/
set_option linter.unusedVariables false
set_option linter.unusedSimpArgs false
set_option maxRecDepth 8000
namespace Go.Proofs.Yteocibahclpegaa
open Go.RowKit Plain

end Go.Proofs.Yteocibahclpegaa

/- Contracts: wide.Add, wide.Sub. -/
set_option linter.unusedVariables false
set_option linter.unusedSimpArgs false
set_option maxRecDepth 8000
namespace Go.Proofs.Yteocibahclpegaa
open Go.RowKit Plain

def QQ : Nat := 18446744073709551616 ^ 8

theorem w8_congr {x y : Nat → Nat} (h : ∀ i, i < 8 → x i = y i) : (#[.int .u64 (x 0 : Nat), .int .u64 (x 1 : Nat), .int .u64 (x 2 : Nat), .int .u64 (x 3 : Nat), .int .u64 (x 4 : Nat), .int .u64 (x 5 : Nat), .int .u64 (x 6 : Nat), .int .u64 (x 7 : Nat)] : Array Value) = #[.int .u64 (y 0 : Nat), .int .u64 (y 1 : Nat), .int .u64 (y 2 : Nat), .int .u64 (y 3 : Nat), .int .u64 (y 4 : Nat), .int .u64 (y 5 : Nat), .int .u64 (y 6 : Nat), .int .u64 (y 7 : Nat)] := by
  rw [h 0 (by decide), h 1 (by decide), h 2 (by decide), h 3 (by decide), h 4 (by decide), h 5 (by decide), h 6 (by decide), h 7 (by decide)]

end Go.Proofs.Yteocibahclpegaa

/- Contracts of radicandref01: Shl. -/
set_option linter.unusedVariables false
set_option linter.unusedSimpArgs false
set_option maxRecDepth 8000
namespace Go.Proofs.Yteocibahclpegaa
open Go.RowKit Plain

/-- What is carried into the digit k of n times T. -/
def shc (n T k : Nat) : Nat := n % BB ^ k * T / BB ^ k

theorem shc_zero (n T : Nat) : shc n T 0 = 0 := by unfold shc; simp [Nat.mod_one]
theorem shc_lt (n T k : Nat) (hT : 0 < T) : shc n T k < T := by
  unfold shc
  have hp : 0 < BB ^ k := Nat.pow_pos (by decide)
  rw [Nat.div_lt_iff_lt_mul hp, Nat.mul_comm T]
  exact Nat.mul_lt_mul_of_pos_right (Nat.mod_lt _ hp) hT
theorem shc_succ (n T k : Nat) : (shc n T k + dgt n k * T) / BB = shc n T (k + 1) := by
  unfold shc dgt
  have hp : 0 < BB ^ k := Nat.pow_pos (by decide)
  rw [Nat.pow_succ, Nat.mod_mul (x := n), Nat.add_mul, Nat.mul_assoc, ← Nat.div_div_eq_div_mul, Nat.add_mul_div_left _ _ hp]
theorem shc_digit (n T k : Nat) : (shc n T k + dgt n k * T) % BB = n * T / BB ^ k % BB := by
  unfold shc dgt
  have hp : 0 < BB ^ k := Nat.pow_pos (by decide)
  have e : n * T = n % BB ^ k * T + BB ^ k * (n / BB ^ k * T) := by
    rw [← Nat.mul_assoc, ← Nat.add_mul, Nat.mod_add_div]
  rw [e, Nat.add_mul_div_left _ _ hp]
  generalize n / BB ^ k = m
  generalize n % BB ^ k * T / BB ^ k = c
  have e2 : m * T = m % BB * T + BB * (m / BB * T) := by
    rw [← Nat.mul_assoc, ← Nat.add_mul, Nat.mod_add_div]
  rw [e2, ← Nat.add_assoc, Nat.add_mul_mod_self_left]

theorem dig_zeros' {β : Nat} (hβ : 0 < β) (k : Nat) {l : List Nat} {n : Nat} (h : Dig β l n) : Dig β (List.replicate k 0 ++ l) (n * β ^ k) := by
  have hv := dig_val hβ l n h
  have hd := val_dig (β := β) hβ (List.replicate k 0 ++ l) (fun i => by
    rcases Nat.lt_or_ge i k with h1 | h1
    · simp [dg, List.getElem?_append, h1]; exact hβ
    · have := h.lt hβ (i - k)
      simp only [dg, List.getD_eq_getElem?_getD] at this ⊢
      rw [List.getElem?_append_right (by simpa using h1)]
      simpa using this)
  rw [val_append, val_zeros, hv, List.length_replicate, Nat.zero_add, Nat.mul_comm] at hd
  exact hd

theorem shl_or (c d r : Nat) (hr : r < 32) (hc : c < 2 ^ r) (hd : d < 4294967296) :
    bits .or .u64 (c : Int) (IntKind.u64.wrap ((d : Int) * 2 ^ r)) = ((c + d * 2 ^ r : Nat) : Int) ∧ c + d * 2 ^ r < 18446744073709551616 := by
  have hp : 2 ^ r ≤ 2 ^ 31 := Nat.pow_le_pow_right (by decide) (by omega)
  have h31 : (2 : Nat) ^ 31 = 2147483648 := by decide
  have hm : d * 2 ^ r ≤ 4294967295 * 2147483648 := Nat.mul_le_mul (by omega) (by omega)
  have e1 : IntKind.u64.wrap ((d : Int) * 2 ^ r) = ((2 ^ r * d : Nat) : Int) := by
    have : (d : Int) * 2 ^ r = ((2 ^ r * d : Nat) : Int) := by rw [Int.natCast_mul, Int.natCast_pow, Int.mul_comm]; rfl
    rw [IntKind.wrap_u64, this, Nat.mul_comm]; omega
  rw [Nat.mul_comm] at hm
  rw [Nat.mul_comm d, e1, bits_or_u64_nat _ _ (by omega) (by omega), Nat.or_comm, Nat.add_comm, Nat.two_pow_add_eq_or_of_lt hc]
  exact ⟨rfl, by rw [← Nat.two_pow_add_eq_or_of_lt hc]; omega⟩

theorem bigpow (n s : Nat) : n * 2 ^ (s % 32) * BB ^ (s / 32) = n * 2 ^ s := by
  have e : BB = 2 ^ 32 := by decide
  rw [e, ← Nat.pow_mul, Nat.mul_assoc, ← Nat.pow_add]; congr 2; omega

set_option maxHeartbeats 2000000 in
theorem refShl_any (n K s : Nat) (va : Value) (w : World) (ha : BigV w va n K) (hK : K ≤ 1000000) (hs : s ≤ 100000) :
    Calls Try.prog 21 #[va, .int .i64 s] w fun e w' => ∃ v, e = .returned v ∧ BigV w' v (n * 2 ^ s) (s / 32 + K + 1) ∧ Below w.heap.size w w' := by
  have ha' := ha
  obtain ⟨la, ⟨ao, ca, rfl, hca, hma, -⟩, hda, -, hka⟩ := ha'
  unfold maxLen at hma
  have HA : Hid (n < BB ^ la.length) := hda.1
  clear hda
  generalize la.length = na at *
  obtain ⟨i0, hi, hz0, hz1, hz2⟩ := info_parts info32
  have hT0 : 0 < 2 ^ (s % 32) := Nat.two_pow_pos _
  have hT1 : 2 ^ (s % 32) ≤ 2147483648 := Nat.le_trans (Nat.pow_le_pow_right (by decide) (show s % 32 ≤ 31 by omega)) (by decide)
  have HOR := hide (fun k => shl_or (shc n (2 ^ (s % 32)) k) (dgt n k) (s % 32) (by omega) (shc_lt n _ k hT0) (dgt_lt n k))
  have HBP := hide (bigpow n s)
  obtain ⟨T, hT⟩ : ∃ T : Nat, T = 2 ^ (s % 32) := ⟨_, rfl⟩
  rw [← hT] at hT0 hT1 HOR HBP
  have HT := hide hT
  clear hT
  have hwi : IntKind.i64.wrap ((s : Int) / 32) = (s : Int) / 32 := by rw [IntKind.wrap_i64]; omega
  have hwm : (s : Int).tmod 32 = (s : Int) % 32 := Int.tmod_eq_emod_of_nonneg (by omega)
  have hwt : ((s : Int) % 32).toNat = s % 32 := by omega
  have hws : 0 ≤ (s : Int) % 32 := by omega
  go_enter Try.func21, Try.ntmps21
  go_wp2
  go_loopw [5, 6] (fun v i wr => ∃ k : Nat, k ≤ s / 32 ∧ i = .int .i64 k ∧
        wr.ownsRow w.heap.size 72 1 v k ((List.replicate k 0).map mk32) ∧ Below w.heap.size w wr)
      (fun _ i _ => s / 32 - (intOf i).toNat)
  case atStart => exact ⟨0, by omega, rfl, World.ownsRow_nil _ _ _ _, Below.refl _ _⟩
  case round =>
    obtain ⟨k, hk, rfl, hown, hbel⟩ := hrel
    have hsz := hbel.size
    by_cases hlt : k < s / 32
    · have hj : (k : Int) < (s : Int) / 32 := by omega
      go_wp2_with (at_builtin; go_must (refine wpList_app1 w wr rfl _ _ 36 rfl w.heap.size 72 i0 (.int .u32 0) 4 Try.underlying36 hi hz0 hz1 hz2 rfl mk32 _ _ _ (by rfl) hown hbel _ 0 rfl rfl (by rfl) (by omega) (by omega) (by omega) ?_); intro v' w1 hown1 hbel1; clear hown hbel hsz)
      go_roundw
      case rel => exact ⟨k + 1, by omega, by go_num, by rw [List.replicate_succ']; exact hown1, hbel1⟩
      case measure => simp [intOf]; omega
    · have hj : ¬ (k : Int) < (s : Int) / 32 := by omega
      have hk : k = s / 32 := by omega
      subst hk
      clear hj
      go_wp2
      go_loopw [5, 7, 8] (fun v c i wr => ∃ k : Nat, k ≤ na + 1 ∧ i = .int .i64 k ∧ c = .int .u64 (shc n T k : Nat) ∧
          wr.ownsRow w.heap.size 72 1 v (s / 32 + k) ((List.replicate (s / 32) 0 ++ dl BB (n * T) k).map mk32) ∧ Below w.heap.size w wr)
        (fun _ _ i _ => na + 1 - (intOf i).toNat)
      case atStart => exact ⟨0, by omega, rfl, by rw [shc_zero]; rfl, by simpa [dl] using hown, hbel⟩
      case round =>
        clear hown hbel hsz
        obtain ⟨k, hk, rfl, rfl, hown, hbel⟩ := hrel
        have ha1 := ha.below hbel
        have hsz := hbel.size
        by_cases hlt : k ≤ na
        · have hj : (k : Int) ≤ (na : Int) := by omega
          obtain ⟨hor, hX⟩ := HOR.out k
          have hd1 := shc_digit n T k
          have hc1 := shc_succ n T k
          generalize hXe : shc n T k + dgt n k * T = X at *
          clear hXe
          have HD1 := hide hd1
          have HC1 := hide hc1
          clear hd1 hc1
          generalize shc n T k = c at *
          go_wp2_with (first
            | (go_at_call 50; refine (digit_big _ _ k _ _ _ ha1 (by omega)).mono ?_; rintro e w' ⟨rfl, hw⟩; subst w')
            | (at_builtin; go_must (refine wpList_app1 w wr rfl _ _ 36 rfl w.heap.size 72 i0 (.int .u32 0) 4 Try.underlying36 hi hz0 hz1 hz2 rfl mk32 _ _ _ (by rfl) hown hbel _ (X % 4294967296) (congrArg (Value.int .u32) (show (X : Int) % 4294967296 = ((X % 4294967296 : Nat) : Int) by omega)) rfl (by rfl) (by omega) (by omega) (by omega) ?_); intro v' w1 hown1 hbel1; clear hown hbel ha1 hsz))
          go_roundw
          case rel =>
            refine ⟨_, _, _, _, _, _, _, _, _, _, _, _, _, _, _, _, _, _, _, _, _, _, _, _, ⟨k + 1, by omega, ?_, ?_, ?_, hbel1⟩, rfl⟩
            · go_num
            · exact congrArg (Value.int .u64) (by rw [← HC1.out]; unfold BB; omega)
            · rw [dl_succ, ← HD1.out, ← List.append_assoc]; exact hown1
          case measure => simp [intOf]; omega
        · have hj : ¬ (k : Int) ≤ (na : Int) := by omega
          have hk : k = na + 1 := by omega
          have hr := Rd.of_owns (l := List.replicate (s / 32) 0 ++ dl BB (n * T) k) (by rw [List.length_append, List.length_replicate, dl_length]; exact hown)
          have hnT : n * T < BB ^ k := by
            rw [hk, Nat.pow_succ]
            exact Nat.lt_of_lt_of_le (Nat.mul_lt_mul_of_pos_right HA.out hT0) (Nat.mul_le_mul_left _ (Nat.le_trans hT1 (by decide)))
          have hd := dig_zeros' (β := BB) (by decide) (s / 32) (dl_dig BB (n * T) k hnT (by decide))
          rw [HBP.out] at hd
          have hl : (List.replicate (s / 32) 0 ++ dl BB (n * T) k).length ≤ s / 32 + K + 1 := by rw [List.length_append, List.length_replicate, dl_length]; omega
          have HK := hide hk
          clear hown ha1 hk
          go_wp2_with (go_at_call 48; refine (trim_any _ _ (s / 32 + K + 1) _ _ hr hd hl).mono ?_; rintro e w' ⟨v', rfl, hbig, hw⟩; subst w')
          go_ret
          exact ⟨_, rfl, hbig, hbel⟩

end Go.Proofs.Yteocibahclpegaa

/- Contracts of radicandref01: Shr, Sub, Odd. -/
set_option linter.unusedVariables false
set_option linter.unusedSimpArgs false
set_option maxRecDepth 8000
namespace Go.Proofs.Yteocibahclpegaa
open Go.RowKit Plain

end Go.Proofs.Yteocibahclpegaa

/- Contracts of radicandref01: Sub, Odd. -/
set_option linter.unusedVariables false
set_option linter.unusedSimpArgs false
set_option maxRecDepth 8000
namespace Go.Proofs.Yteocibahclpegaa
open Go.RowKit Plain

end Go.Proofs.Yteocibahclpegaa

