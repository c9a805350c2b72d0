/- Contracts and laws: UnpM, UnpO. -/
import Derived.Test.YtidfegilddlglaaDoorXUnL
import Derived.Test.YtidfegilddlglaaDoorXUnK
import Derived.Test.YtidfegilddlglaaDoorXUnN
/- Contracts: unpack.Exact at a number that a word stands for. -/
set_option linter.unusedVariables false
set_option linter.unusedSimpArgs false
set_option maxRecDepth 8000
namespace Go.Proofs.YtidfegilddlglaaDoor
open Go.RowKit Plain

def emU (f : Int) : Int := tU f 15 127 1023 16383 0
theorem kU_2 (f : Int) (h : 1 ≤ f ∧ f ≤ 4) : kU f 2 = emU f := by
  rcases f_cases f with rfl | rfl | rfl | rfl | h0
  · rfl
  · rfl
  · rfl
  · rfl
  · omega
theorem loU_eq (f : Int) (h : 1 ≤ f ∧ f ≤ 4) : loU f = 2 - emU f - (prU f : Int) := by
  rcases f_cases f with rfl | rfl | rfl | rfl | h0
  · rfl
  · rfl
  · rfl
  · rfl
  · omega
theorem fin_fldN {B P F a : Nat} (h : 4 ≤ clsN B P F a) : fldN B P F a + 2 ≤ 2 ^ F := by
  unfold clsN at h
  by_cases hb : a < 2 ^ B
  · rw [if_pos hb] at h
    rw [show fldN B P F a = a / 2 ^ (P - 1) % 2 ^ F from if_pos hb]
    have hl := Nat.mod_lt (a / 2 ^ (P - 1)) (Nat.two_pow_pos F)
    generalize a / 2 ^ (P - 1) % 2 ^ F = fd at *
    unfold clsP at h
    by_cases he : fd = 2 ^ F - 1
    · rw [if_pos he] at h
      repeat' split at h
      all_goals omega
    · omega
  · rw [if_neg hb] at h
    omega
theorem fin_fld {f : Int} {a : Nat} (h : 4 ≤ clsU f a) : (fldU f a : Int) ≤ 2 * emU f := by
  rcases f_cases f with rfl | rfl | rfl | rfl | h0
  · have := fin_fldN (B := 16) (P := 11) (F := 5) h
    show ((fldN 16 11 5 a : Nat) : Int) ≤ 2 * 15
    omega
  · have := fin_fldN (B := 32) (P := 24) (F := 8) h
    show ((fldN 32 24 8 a : Nat) : Int) ≤ 2 * 127
    omega
  · have := fin_fldN (B := 64) (P := 53) (F := 11) h
    show ((fldN 64 53 11 a : Nat) : Int) ≤ 2 * 1023
    omega
  · have := fin_fldN (B := 128) (P := 113) (F := 15) h
    show ((fldN 128 113 15 a : Nat) : Int) ≤ 2 * 16383
    omega
  · rw [show clsU f a = 0 from tU_none f h0 _ _ _ _ _] at h
    omega
/-- The word of 0, with a sign. -/
def ngtU (f : Int) (neg : Bool) : Nat := tU f (bif neg then 32768 else 0) (bif neg then 2147483648 else 0) (bif neg then 9223372036854775808 else 0) (bif neg then 170141183460469231731687303715884105728 else 0) 0
theorem nought_u (f : Int) (h : 1 ≤ f ∧ f ≤ 4) (neg : Bool) (w : World) (hg : FmtG w) : Calls Tryd.prog 72 #[.int .i64 f, .bool neg] w fun e w' => e = .returned (.agg #[.int .u64 (dgl (ngtU f neg) 1 : Nat), .int .u64 (dgl (ngtU f neg) 0 : Nat)]) ∧ Below w.heap.size w w' := by
  rcases f_cases f with rfl | rfl | rfl | rfl | h0
  · exact nought_1 neg w hg
  · exact nought_2 neg w hg
  · exact nought_3 neg w hg
  · exact nought_4 neg w hg
  · omega
theorem ngtN_own {B P F a : Nat} (hB : B = P + F) (hP : 0 < P) (h : a < 2 ^ B) (h1 : fldN B P F a = 0) (h2 : frcN B P a = 0) : a = bif negN B a then 2 ^ (B - 1) else 0 := by
  unfold fldN at h1
  unfold frcN at h2
  rw [if_pos h] at h1 h2
  unfold negN
  rw [decide_eq_true h, Bool.true_and]
  have e1 := Nat.div_add_mod a (2 ^ (P - 1))
  have e2 := Nat.div_add_mod (a / 2 ^ (P - 1)) (2 ^ F)
  rw [h2, Nat.add_zero] at e1
  rw [h1, Nat.add_zero, Nat.div_div_eq_div_mul, ← Nat.pow_add, show P - 1 + F = B - 1 by omega] at e2
  have e3 : a = 2 ^ (B - 1) * (a / 2 ^ (B - 1)) := by
    rw [← e2, ← Nat.mul_assoc, ← Nat.pow_add, show P - 1 + F = B - 1 by omega] at e1
    exact e1.symm
  have h5 := pow_half B (by omega)
  have h6 : a / 2 ^ (B - 1) < 2 := by
    rw [Nat.div_lt_iff_lt_mul (Nat.two_pow_pos _)]
    omega
  generalize a / 2 ^ (B - 1) = q at *
  have hq : q = 0 ∨ q = 1 := by omega
  rcases hq with rfl | rfl
  · simpa using e3
  · simpa using e3
theorem ngt_own {f : Int} {a : Nat} (h4 : 4 ≤ clsU f a) (h0 : sigU f a = 0) : ngtU f (negU f a) = a := by
  have hf : 1 ≤ f ∧ f ≤ 4 := cls_form (a := a) (by omega)
  have h1 : fldU f a = 0 := Classical.byContradiction fun hn => by
    unfold sigU at h0
    rw [if_neg hn] at h0
    have := Nat.two_pow_pos (prU f - 1)
    omega
  have h2 : frcU f a = 0 := by unfold sigU at h0; rw [if_pos h1] at h0; exact h0
  rcases f_cases f with rfl | rfl | rfl | rfl | h
  · exact (ngtN_own (B := 16) (P := 11) (F := 5) rfl (by decide) (cls_fit (B := 16) (P := 11) (F := 5) (show clsN 16 11 5 a ≠ 0 from fun e => by rw [show clsU 1 a = clsN 16 11 5 a from rfl] at h4; omega)) h1 h2).symm
  · exact (ngtN_own (B := 32) (P := 24) (F := 8) rfl (by decide) (cls_fit (B := 32) (P := 24) (F := 8) (show clsN 32 24 8 a ≠ 0 from fun e => by rw [show clsU 2 a = clsN 32 24 8 a from rfl] at h4; omega)) h1 h2).symm
  · exact (ngtN_own (B := 64) (P := 53) (F := 11) rfl (by decide) (cls_fit (B := 64) (P := 53) (F := 11) (show clsN 64 53 11 a ≠ 0 from fun e => by rw [show clsU 3 a = clsN 64 53 11 a from rfl] at h4; omega)) h1 h2).symm
  · exact (ngtN_own (B := 128) (P := 113) (F := 15) rfl (by decide) (cls_fit (B := 128) (P := 113) (F := 15) (show clsN 128 113 15 a ≠ 0 from fun e => by rw [show clsU 4 a = clsN 128 113 15 a from rfl] at h4; omega)) h1 h2).symm
  · omega

/-- A Sig that is normal has all its digits, one that isn't has less. -/
theorem sig_len (f : Int) (a : Nat) (hf : 1 ≤ f ∧ f ≤ 4) : (fldU f a ≠ 0 → Go.bitLen (sigU f a) = prU f) ∧ (fldU f a = 0 → Go.bitLen (sigU f a) ≤ prU f - 1) := by
  have hp := prU_bd f hf
  have h1 := frcU_lt f a hf
  have h2 := sigU_lt f a hf
  constructor
  · intro h0
    have e : sigU f a = frcU f a + 2 ^ (prU f - 1) := if_neg h0
    have h3 := (len_le (sigU f a) (prU f)).2 h2
    have h4 : ¬ Go.bitLen (sigU f a) ≤ prU f - 1 := fun h => by
      have := (len_le (sigU f a) (prU f - 1)).1 h
      omega
    omega
  · intro h0
    have e : sigU f a = frcU f a := if_pos h0
    rw [e]
    exact (len_le _ _).2 h1
theorem same_top {a b : Nat} {ea eb m : Int} (ha : a ≠ 0) (hb : b ≠ 0) (h1 : m ≤ ea) (h2 : m ≤ eb) (h : vl a ea m = vl b eb m) : ea + (Go.bitLen a : Int) = eb + (Go.bitLen b : Int) := by
  have h3 := (sizeZ_spec a b ea eb m h1 h2).2.2 h
  unfold sizeZ at h3
  rw [if_neg ha, if_neg hb] at h3
  refine Classical.byContradiction fun ht => ?_
  rw [if_pos ht] at h3
  omega
theorem vl_cancel {a b : Nat} {ea eb m : Int} (h1 : m ≤ ea) (h2 : ea ≤ eb) (h : vl a ea m = vl b eb m) : a = b * 2 ^ (eb - ea).toNat := by
  unfold vl at h
  rw [show (eb - m).toNat = (eb - ea).toNat + (ea - m).toNat by omega, Nat.pow_add, ← Nat.mul_assoc] at h
  exact Nat.eq_of_mul_eq_mul_right (Nat.two_pow_pos _) h
theorem shr_num (s n : Nat) (h : n ≤ 512) (hs : s < QQ) (w : World) : Calls Tryd.prog 93 #[.agg #[.int .u64 (dgl (s) 0 : Nat), .int .u64 (dgl (s) 1 : Nat), .int .u64 (dgl (s) 2 : Nat), .int .u64 (dgl (s) 3 : Nat), .int .u64 (dgl (s) 4 : Nat), .int .u64 (dgl (s) 5 : Nat), .int .u64 (dgl (s) 6 : Nat), .int .u64 (dgl (s) 7 : Nat)], .int .i64 (n : Nat)] w fun e w' => e = .returned (.tuple #[.agg #[.int .u64 (dgl (s / 2 ^ n) 0 : Nat), .int .u64 (dgl (s / 2 ^ n) 1 : Nat), .int .u64 (dgl (s / 2 ^ n) 2 : Nat), .int .u64 (dgl (s / 2 ^ n) 3 : Nat), .int .u64 (dgl (s / 2 ^ n) 4 : Nat), .int .u64 (dgl (s / 2 ^ n) 5 : Nat), .int .u64 (dgl (s / 2 ^ n) 6 : Nat), .int .u64 (dgl (s / 2 ^ n) 7 : Nat)], .bool (!decide (s / 2 ^ n * 2 ^ n = s))]) ∧ Below w.heap.size w w' :=
  wideShr_any s n (n : Int) (by unfold roomI; omega) hs w
/-- unpack.at, where no digit is lost. -/
theorem at_word (neg : Bool) (z x m : Int) (s u : Nat) (hs : s < QQ) (hu : u < QQ) (hu0 : u ≠ 0) (hz : -1048576 ≤ z ∧ z ≤ 1048576) (hx : -3000000 ≤ x ∧ x ≤ 3000000) (h1 : m ≤ z) (h2 : m ≤ x) (h : vl s z m = vl u x m) (w : World) :
    Calls Tryd.prog 84 #[.agg #[.bool (neg), .int .i64 (z), .int .u64 (dgl (s) 0 : Nat), .int .u64 (dgl (s) 1 : Nat), .int .u64 (dgl (s) 2 : Nat), .int .u64 (dgl (s) 3 : Nat), .int .u64 (dgl (s) 4 : Nat), .int .u64 (dgl (s) 5 : Nat), .int .u64 (dgl (s) 6 : Nat), .int .u64 (dgl (s) 7 : Nat)], .int .i64 x] w fun e w' => e = .returned (.tuple #[.agg #[.int .u64 (dgl (u) 0 : Nat), .int .u64 (dgl (u) 1 : Nat), .int .u64 (dgl (u) 2 : Nat), .int .u64 (dgl (u) 3 : Nat), .int .u64 (dgl (u) 4 : Nat), .int .u64 (dgl (u) 5 : Nat), .int .u64 (dgl (u) 6 : Nat), .int .u64 (dgl (u) 7 : Nat)], .bool true]) ∧ Below w.heap.size w w' := by
  by_cases hzx : x ≤ z
  · have e := vl_cancel (a := u) (b := s) h2 hzx h.symm
    have hs0 : s ≠ 0 := fun h0 => hu0 (by rw [e, h0, Nat.zero_mul])
    have ht := same_top hs0 hu0 h1 h2 h
    have l1 := len_pos hs0
    have l2 := len_qq hu
    refine at_U neg false z x s u hz hx hzx (fun w => ?_) w
    have h3 := shl_num s (z - x).toNat (by omega) hs w
    rw [← e, show (((z - x).toNat : Nat) : Int) = z - x by omega] at h3
    exact h3
  · have e := vl_cancel (a := s) (b := u) h1 (show z ≤ x by omega) h
    have hs0 : s ≠ 0 := fun h0 => by
      rw [h0] at e
      have := Nat.mul_pos (Nat.pos_of_ne_zero hu0) (Nat.two_pow_pos (x - z).toNat)
      omega
    have ht := same_top hs0 hu0 h1 h2 h
    have l1 := len_pos hu0
    have l2 := len_qq hs
    have e2 : s / 2 ^ (x - z).toNat = u := by rw [e, Nat.mul_div_cancel _ (Nat.two_pow_pos _)]
    refine at_D neg false z x s u hz hx hzx (fun w => ?_) w
    have h3 := shr_num s (x - z).toNat (by omega) hs w
    rw [e2, ← e, decide_eq_true rfl, show (((x - z).toNat : Nat) : Int) = x - z by omega] at h3
    exact h3

theorem exact_word (f : Int) (a : Nat) (h4 : 4 ≤ clsU f a) (z m : Int) (s : Nat) (hs : s < QQ) (hr : rgt z = true) (h1 : m ≤ z) (h2 : m ≤ expU f a) (hv : vl s z m = vl (sigU f a) (expU f a) m) (w : World) (hg : FmtG w) :
    Calls Tryd.prog 38 #[.int .i64 f, .agg #[.bool (negU f a), .int .i64 (z), .int .u64 (dgl (s) 0 : Nat), .int .u64 (dgl (s) 1 : Nat), .int .u64 (dgl (s) 2 : Nat), .int .u64 (dgl (s) 3 : Nat), .int .u64 (dgl (s) 4 : Nat), .int .u64 (dgl (s) 5 : Nat), .int .u64 (dgl (s) 6 : Nat), .int .u64 (dgl (s) 7 : Nat)]] w fun e w' => e = .returned (.tuple #[.agg #[.int .u64 (dgl (a) 1 : Nat), .int .u64 (dgl (a) 0 : Nat)], .bool true]) ∧ Below w.heap.size w w' := by
  have hf : 1 ≤ f ∧ f ≤ 4 := cls_form (a := a) (by omega)
  have HO := fun w hg => of_u f hf w hg
  have HR := fun w => uRight_any (negU f a) z s w
  rw [hr] at HR
  have hz := rgtB hr
  by_cases h0 : s = 0
  · have hs0 : sigU f a = 0 := Classical.byContradiction fun hn => by
      have := vl_pos (expU f a) m hn
      rw [h0, vl_zero] at hv
      omega
    subst h0
    have HN := fun w hg => nought_u f hf (negU f a) w hg
    rw [ngt_own h4 hs0] at HN
    exact exact_Z f z 0 0 0 (negU f a) false false false (kU f) 0 0 0 0 0 a HO HR (fun w => top_Z (negU f a) z 0 hr hz w) HN w hg
  · have hs0 : sigU f a ≠ 0 := fun hn => by
      have := vl_pos z m h0
      rw [hn, vl_zero] at hv
      omega
    have ht := same_top h0 hs0 h1 h2 hv
    have hp := prU_bd f hf
    have hl := sig_len f a hf
    have hlo := loU_bd f
    have hfl := fin_fld h4
    have hle := loU_eq f hf
    have k1 := kU_1 f hf
    have k2 := kU_2 f hf
    have hfd := fldU_le f a
    have hrq := Nat.lt_trans (frcU_lt f a hf) (pow_qq (prU f - 1) (by omega))
    have lp := len_pos hs0
    have hq := sigU_qq f a hf
    have HT := fun w => top_Y (negU f a) z s hr hz hs h0 w
    have HLO := fun w => low_u f hf w
    by_cases hn : fldU f a = 0
    · have e1 : sigU f a = frcU f a := if_pos hn
      have e2 : expU f a = loU f := if_pos hn
      have l2 := hl.2 hn
      have HAT := fun w => at_word (negU f a) z (expU f a) m s (sigU f a) hs hq hs0 hz (by omega) h1 h2 hv w
      have HMK := fun w hg => makeOwn_u f a (by omega) w hg
      rw [hn, ← e1] at HMK
      exact exact_S f z _ (loU f) (expU f a) (negU f a) false true false (kU f) s (sigU f a) 0 (Go.bitLen (sigU f a)) 0 a HO HR HT (by omega) (by omega) hlo (by unfold Hid; omega) (by omega) HLO HAT (by unfold Hid; omega)
        (fun w => wideLen_any _ hq w) (by unfold Hid; rw [decide_eq_true_iff]; omega) HMK w hg
    · have e1 : sigU f a = frcU f a + 2 ^ (prU f - 1) := if_neg hn
      have e2 : expU f a = loU f + ((fldU f a : Int) - 1) := if_neg hn
      have l2 := hl.1 hn
      have HAT := fun w => at_word (negU f a) z (expU f a) m s (sigU f a) hs hq hs0 hz (by omega) h1 h2 hv w
      have HMK := fun w hg => makeOwn_u f a (by omega) w hg
      rw [show ((fldU f a : Nat) : Int) = expU f a - loU f + 1 by omega] at HMK
      have HPW := fun w => pow_num (prU f - 1) (kU f 1 - 1) (by omega) (by rw [k1]; omega) w
      have HSB := fun w => wideSub_any (sigU f a) (2 ^ (prU f - 1)) hq (pow_qq _ (by omega)) w
      rw [subQ_le hq (by omega), show sigU f a - 2 ^ (prU f - 1) = frcU f a by omega] at HSB
      exact exact_N f z _ (loU f) (expU f a) (negU f a) false true _ (kU f) s (sigU f a) (frcU f a) (Go.bitLen (sigU f a)) (2 ^ (prU f - 1)) a HO HR HT (by omega) (by omega) hlo (by unfold Hid; omega) (by omega) HLO HAT (by unfold Hid; omega)
        (fun w => wideLen_any _ hq w) (by unfold Hid; rw [decide_eq_false_iff_not]; omega) HPW HSB HMK w hg

end Go.Proofs.YtidfegilddlglaaDoor

/- Contracts: the document's Value, at any format. -/
set_option linter.unusedVariables false
set_option linter.unusedSimpArgs false
set_option maxRecDepth 8000
namespace Go.Proofs.YtidfegilddlglaaDoor
open Go.RowKit Plain

def enU (f : Int) : Int := tU f (-14) (-126) (-1022) (-16382) 0
theorem emin_u (f : Int) (h : 1 ≤ f ∧ f ≤ 4) (w : World) : Calls Tryd.prog 82 #[.int .i64 f] w fun e w' => e = .returned (.int .i64 (enU f)) ∧ w' = w := by
  rcases f_cases f with rfl | rfl | rfl | rfl | h0
  · exact emin_1 w
  · exact emin_2 w
  · exact emin_3 w
  · exact emin_4 w
  · omega
theorem prec_u (f : Int) (h : 1 ≤ f ∧ f ≤ 4) (w : World) : Calls Tryd.prog 31 #[.int .i64 f] w fun e w' => e = .returned (.int .i64 (prU f : Nat)) ∧ w' = w := by
  rcases f_cases f with rfl | rfl | rfl | rfl | h0
  · exact prec_1 w
  · exact prec_2 w
  · exact prec_3 w
  · exact prec_4 w
  · omega
theorem enU_eq (f : Int) (h : 1 ≤ f ∧ f ≤ 4) : enU f - (prU f : Int) + 1 = loU f ∧ -20000 ≤ enU f ∧ enU f ≤ 0 := by
  rcases f_cases f with rfl | rfl | rfl | rfl | h0
  · decide
  · decide
  · decide
  · decide
  · omega
theorem pow_int (e : Nat) : ((2 : Int) ^ e) = ((2 ^ e : Nat) : Int) := by rw [Int.natCast_pow]; rfl
theorem shl_wrap7 {e : Nat} (h : e < 64) : IntKind.u64.wrap ((2 : Int) ^ e) = (2 : Int) ^ e := by
  have hp1 : 2 ^ e ≤ 2 ^ 63 := Nat.pow_le_pow_right (by decide) (by omega)
  rw [pow_int, IntKind.wrap_u64]
  generalize 2 ^ e = y at hp1 ⊢
  omega
theorem add_low {n r : Nat} (hn : n < 64) (hr : r < 2 ^ n) : IntKind.u64.wrap (((dgl r 0 : Nat) : Int) + (2 : Int) ^ n) = ((dgl (r + 2 ^ n) 0 : Nat) : Int) := by
  have h1 := frac_low0 n r hn hr
  have h2 := dgl_lt (r + 2 ^ n) 0
  rw [h1] at h2
  rw [h1, pow_int, IntKind.wrap_u64]
  generalize (2 : Nat) ^ n = y at h2 ⊢
  omega
theorem add_high {n r : Nat} (hn : ¬ n < 64) (hn2 : n < 128) (hr : r < 2 ^ n) : IntKind.u64.wrap (((dgl r 1 : Nat) : Int) + (2 : Int) ^ (n - 64)) = ((dgl (r + 2 ^ n) 1 : Nat) : Int) := by
  have h1 := frac_high1 n r hn hn2 hr
  have h2 := dgl_lt (r + 2 ^ n) 1
  rw [h1] at h2
  rw [h1, pow_int, IntKind.wrap_u64]
  generalize (2 : Nat) ^ (n - 64) = y at h2 ⊢
  omega
/-- The document's Value of a word. -/
theorem rval_any (f : Int) (a : Nat) (ha : a < 2 ^ 128) (h : clsU f a ≠ 0) (w : World) : Calls Tryd.prog 37 #[.int .i64 f, .agg #[.int .u64 (dgl (a) 1 : Nat), .int .u64 (dgl (a) 0 : Nat)]] w fun e w' => e = .returned (.agg #[.bool (negU f a), .int .i64 (expU f a), .int .u64 (dgl (sigU f a) 0 : Nat), .int .u64 (dgl (sigU f a) 1 : Nat), .int .u64 (dgl (sigU f a) 2 : Nat), .int .u64 (dgl (sigU f a) 3 : Nat), .int .u64 (dgl (sigU f a) 4 : Nat), .int .u64 (dgl (sigU f a) 5 : Nat), .int .u64 (dgl (sigU f a) 6 : Nat), .int .u64 (dgl (sigU f a) 7 : Nat)]) ∧ Below w.heap.size w w' := by
  have hf : 1 ≤ f ∧ f ≤ 4 := cls_form h
  have HFD := fun w => refFld_u f a ha h w
  have HNG := fun w => refNeg_u f a ha w
  have HFR := fun w => refFrac_u f a ha h w
  have HEM := fun w => emin_u f hf w
  have HPR := fun w => prec_u f hf w
  have he := enU_eq f hf
  have hp := prU_bd f hf
  have hr := frcU_lt f a hf
  have hfd := fldU_le f a
  by_cases h0 : fldU f a = 0
  · rw [h0] at HFD
    rw [show sigU f a = frcU f a from if_pos h0, show expU f a = loU f from if_pos h0]
    exact rval_Z f (enU f) (loU f) a (frcU f a) 0 0 (prU f) 0 (negU f a) HFD HNG HFR HEM HPR he.2 (by omega) he.1 w
  · rw [show sigU f a = frcU f a + 2 ^ (prU f - 1) from if_neg h0, show expU f a = loU f + (fldU f a : Int) - 1 by rw [show expU f a = loU f + ((fldU f a : Int) - 1) from if_neg h0]; omega]
    by_cases h64 : prU f - 1 < 64
    · exact rval_L f (enU f) (loU f) a (frcU f a) _ (fldU f a) (prU f) (prU f - 1) (negU f a) HFD HNG HFR HEM HPR he.2 (by omega) he.1 (by omega)
        (by unfold Hid; rw [Int.tdiv_eq_ediv_of_nonneg (by omega)]; omega) (by unfold Hid; rw [Int.tmod_eq_emod_of_nonneg (by omega)]; omega) (shl_wrap7 h64) (by unfold Hid; omega) (add_low h64 hr) (fun j hj => frac_low _ _ j h64 hr hj) w
    · exact rval_H f (enU f) (loU f) a (frcU f a) _ (fldU f a) (prU f) (prU f - 1 - 64) (negU f a) HFD HNG HFR HEM HPR he.2 (by omega) he.1 (by omega)
        (by unfold Hid; rw [Int.tdiv_eq_ediv_of_nonneg (by omega)]; omega) (by unfold Hid; rw [Int.tmod_eq_emod_of_nonneg (by omega)]; omega) (shl_wrap7 (by omega)) (by unfold Hid; omega) (add_high h64 (by omega) hr) (fun j hj => frac_high _ _ j h64 (by omega) hr hj) w
theorem cls6N {B P F a : Nat} (hF : 2 ≤ F) (h : 4 ≤ clsN B P F a) : clsN B P F a = 6 ↔ (fldN B P F a = 0 ∧ frcN B P a = 0) := by
  have h2 : 2 ^ 2 ≤ 2 ^ F := Nat.pow_le_pow_right (by decide) hF
  unfold clsN at h ⊢
  by_cases hb : a < 2 ^ B
  · rw [if_pos hb] at h ⊢
    rw [show fldN B P F a = a / 2 ^ (P - 1) % 2 ^ F from if_pos hb, show frcN B P a = a % 2 ^ (P - 1) from if_pos hb]
    generalize a / 2 ^ (P - 1) % 2 ^ F = fd at *
    generalize a % 2 ^ (P - 1) = r at *
    unfold clsP at h ⊢
    by_cases he : fd = 2 ^ F - 1
    · rw [if_pos he] at h
      repeat' split at h
      all_goals omega
    · rw [if_neg he]
      repeat' split
      all_goals omega
  · rw [if_neg hb] at h
    omega
theorem cls6 {f : Int} {a : Nat} (h : 4 ≤ clsU f a) : clsU f a = 6 ↔ sigU f a = 0 := by
  have hf : 1 ≤ f ∧ f ≤ 4 := cls_form (a := a) (by omega)
  have hk : clsU f a = 6 ↔ (fldU f a = 0 ∧ frcU f a = 0) := by
    rcases f_cases f with rfl | rfl | rfl | rfl | h0
    · exact cls6N (B := 16) (P := 11) (F := 5) (by decide) h
    · exact cls6N (B := 32) (P := 24) (F := 8) (by decide) h
    · exact cls6N (B := 64) (P := 53) (F := 11) (by decide) h
    · exact cls6N (B := 128) (P := 113) (F := 15) (by decide) h
    · omega
  rw [hk]
  have := Nat.two_pow_pos (prU f - 1)
  unfold sigU
  split <;> omega
theorem len_shift {x : Nat} (k : Nat) (h : x ≠ 0) : Go.bitLen (x * 2 ^ k) = Go.bitLen x + k := by
  have h1 := len_lt x
  have h2 := len_ge h
  have h3 := len_pos h
  have a1 : Go.bitLen (x * 2 ^ k) ≤ Go.bitLen x + k := (len_le _ _).2 (by rw [Nat.pow_add]; exact Nat.mul_lt_mul_of_pos_right h1 (Nat.two_pow_pos _))
  have a2 : ¬ Go.bitLen (x * 2 ^ k) ≤ Go.bitLen x + k - 1 := fun h4 => by
    have h5 := (len_le _ _).1 h4
    rw [show Go.bitLen x + k - 1 = Go.bitLen x - 1 + k by omega, Nat.pow_add] at h5
    have h6 := Nat.lt_of_mul_lt_mul_right h5
    omega
  omega
theorem expU_rgt (f : Int) (a u : Nat) (hu : u ≤ 200) : rgt (expU f a - (u : Int)) = true := by
  have h3 := fldU_le f a
  have h4 := loU_bd f
  unfold rgt
  rw [Bool.and_eq_true, decide_eq_true_iff, decide_eq_true_iff]
  unfold expU
  split <;> omega

end Go.Proofs.YtidfegilddlglaaDoor

