/- Contracts and laws: UnpM, UnpN, UnpO, UnpP, UnpJa, UnpQ. -/
import Derived.Test.YtpcjdllijkjdkaaDoorPartAW
/- Contracts: unpack.Exact at a number that a word stands for. -/
set_option linter.unusedVariables false
set_option linter.unusedSimpArgs false
set_option maxRecDepth 8000
namespace Go.Proofs.YtpcjdllijkjdkaaDoor
open Go.RowKit Plain

def emU (f : Int) : Int := tU f 15 127 1023 16383 0
theorem kU_2 (f : Int) (h : 1 ≤ f ∧ f ≤ 4) : kU f 2 = emU f := by
  rcases f_cases f with rfl | rfl | rfl | rfl | h0
  · rfl
  · rfl
  · rfl
  · rfl
  · omega
theorem loU_eq (f : Int) (h : 1 ≤ f ∧ f ≤ 4) : loU f = 2 - emU f - (prU f : Int) := by
  rcases f_cases f with rfl | rfl | rfl | rfl | h0
  · rfl
  · rfl
  · rfl
  · rfl
  · omega
theorem fin_fldN {B P F a : Nat} (h : 4 ≤ clsN B P F a) : fldN B P F a + 2 ≤ 2 ^ F := by
  unfold clsN at h
  by_cases hb : a < 2 ^ B
  · rw [if_pos hb] at h
    rw [show fldN B P F a = a / 2 ^ (P - 1) % 2 ^ F from if_pos hb]
    have hl := Nat.mod_lt (a / 2 ^ (P - 1)) (Nat.two_pow_pos F)
    generalize a / 2 ^ (P - 1) % 2 ^ F = fd at *
    unfold clsP at h
    by_cases he : fd = 2 ^ F - 1
    · rw [if_pos he] at h
      repeat' split at h
      all_goals omega
    · omega
  · rw [if_neg hb] at h
    omega
theorem fin_fld {f : Int} {a : Nat} (h : 4 ≤ clsU f a) : (fldU f a : Int) ≤ 2 * emU f := by
  rcases f_cases f with rfl | rfl | rfl | rfl | h0
  · have := fin_fldN (B := 16) (P := 11) (F := 5) h
    show ((fldN 16 11 5 a : Nat) : Int) ≤ 2 * 15
    omega
  · have := fin_fldN (B := 32) (P := 24) (F := 8) h
    show ((fldN 32 24 8 a : Nat) : Int) ≤ 2 * 127
    omega
  · have := fin_fldN (B := 64) (P := 53) (F := 11) h
    show ((fldN 64 53 11 a : Nat) : Int) ≤ 2 * 1023
    omega
  · have := fin_fldN (B := 128) (P := 113) (F := 15) h
    show ((fldN 128 113 15 a : Nat) : Int) ≤ 2 * 16383
    omega
  · rw [show clsU f a = 0 from tU_none f h0 _ _ _ _ _] at h
    omega
/-- The word of 0, with a sign. -/
def ngtU (f : Int) (neg : Bool) : Nat := tU f (bif neg then 32768 else 0) (bif neg then 2147483648 else 0) (bif neg then 9223372036854775808 else 0) (bif neg then 170141183460469231731687303715884105728 else 0) 0
theorem nought_u (f : Int) (h : 1 ≤ f ∧ f ≤ 4) (neg : Bool) (w : World) (hg : FmtG w) : Calls Tryd.prog 49 #[.int .i64 f, .bool neg] w fun e w' => e = .returned (.agg #[.int .u64 (dgl (ngtU f neg) 1 : Nat), .int .u64 (dgl (ngtU f neg) 0 : Nat)]) ∧ Below w.heap.size w w' := by
  rcases f_cases f with rfl | rfl | rfl | rfl | h0
  · exact nought_1 neg w hg
  · exact nought_2 neg w hg
  · exact nought_3 neg w hg
  · exact nought_4 neg w hg
  · omega
theorem ngtN_own {B P F a : Nat} (hB : B = P + F) (hP : 0 < P) (h : a < 2 ^ B) (h1 : fldN B P F a = 0) (h2 : frcN B P a = 0) : a = bif negN B a then 2 ^ (B - 1) else 0 := by
  unfold fldN at h1
  unfold frcN at h2
  rw [if_pos h] at h1 h2
  unfold negN
  rw [decide_eq_true h, Bool.true_and]
  have e1 := Nat.div_add_mod a (2 ^ (P - 1))
  have e2 := Nat.div_add_mod (a / 2 ^ (P - 1)) (2 ^ F)
  rw [h2, Nat.add_zero] at e1
  rw [h1, Nat.add_zero, Nat.div_div_eq_div_mul, ← Nat.pow_add, show P - 1 + F = B - 1 by omega] at e2
  have e3 : a = 2 ^ (B - 1) * (a / 2 ^ (B - 1)) := by
    rw [← e2, ← Nat.mul_assoc, ← Nat.pow_add, show P - 1 + F = B - 1 by omega] at e1
    exact e1.symm
  have h5 := pow_half B (by omega)
  have h6 : a / 2 ^ (B - 1) < 2 := by
    rw [Nat.div_lt_iff_lt_mul (Nat.two_pow_pos _)]
    omega
  generalize a / 2 ^ (B - 1) = q at *
  have hq : q = 0 ∨ q = 1 := by omega
  rcases hq with rfl | rfl
  · simpa using e3
  · simpa using e3
theorem ngt_own {f : Int} {a : Nat} (h4 : 4 ≤ clsU f a) (h0 : sigU f a = 0) : ngtU f (negU f a) = a := by
  have hf : 1 ≤ f ∧ f ≤ 4 := cls_form (a := a) (by omega)
  have h1 : fldU f a = 0 := Classical.byContradiction fun hn => by
    unfold sigU at h0
    rw [if_neg hn] at h0
    have := Nat.two_pow_pos (prU f - 1)
    omega
  have h2 : frcU f a = 0 := by unfold sigU at h0; rw [if_pos h1] at h0; exact h0
  rcases f_cases f with rfl | rfl | rfl | rfl | h
  · exact (ngtN_own (B := 16) (P := 11) (F := 5) rfl (by decide) (cls_fit (B := 16) (P := 11) (F := 5) (show clsN 16 11 5 a ≠ 0 from fun e => by rw [show clsU 1 a = clsN 16 11 5 a from rfl] at h4; omega)) h1 h2).symm
  · exact (ngtN_own (B := 32) (P := 24) (F := 8) rfl (by decide) (cls_fit (B := 32) (P := 24) (F := 8) (show clsN 32 24 8 a ≠ 0 from fun e => by rw [show clsU 2 a = clsN 32 24 8 a from rfl] at h4; omega)) h1 h2).symm
  · exact (ngtN_own (B := 64) (P := 53) (F := 11) rfl (by decide) (cls_fit (B := 64) (P := 53) (F := 11) (show clsN 64 53 11 a ≠ 0 from fun e => by rw [show clsU 3 a = clsN 64 53 11 a from rfl] at h4; omega)) h1 h2).symm
  · exact (ngtN_own (B := 128) (P := 113) (F := 15) rfl (by decide) (cls_fit (B := 128) (P := 113) (F := 15) (show clsN 128 113 15 a ≠ 0 from fun e => by rw [show clsU 4 a = clsN 128 113 15 a from rfl] at h4; omega)) h1 h2).symm
  · omega

/-- A Sig that is normal has all its digits, one that isn't has less. -/
theorem sig_len (f : Int) (a : Nat) (hf : 1 ≤ f ∧ f ≤ 4) : (fldU f a ≠ 0 → Go.bitLen (sigU f a) = prU f) ∧ (fldU f a = 0 → Go.bitLen (sigU f a) ≤ prU f - 1) := by
  have hp := prU_bd f hf
  have h1 := frcU_lt f a hf
  have h2 := sigU_lt f a hf
  constructor
  · intro h0
    have e : sigU f a = frcU f a + 2 ^ (prU f - 1) := if_neg h0
    have h3 := (len_le (sigU f a) (prU f)).2 h2
    have h4 : ¬ Go.bitLen (sigU f a) ≤ prU f - 1 := fun h => by
      have := (len_le (sigU f a) (prU f - 1)).1 h
      omega
    omega
  · intro h0
    have e : sigU f a = frcU f a := if_pos h0
    rw [e]
    exact (len_le _ _).2 h1
theorem same_top {a b : Nat} {ea eb m : Int} (ha : a ≠ 0) (hb : b ≠ 0) (h1 : m ≤ ea) (h2 : m ≤ eb) (h : vl a ea m = vl b eb m) : ea + (Go.bitLen a : Int) = eb + (Go.bitLen b : Int) := by
  have h3 := (sizeZ_spec a b ea eb m h1 h2).2.2 h
  unfold sizeZ at h3
  rw [if_neg ha, if_neg hb] at h3
  refine Classical.byContradiction fun ht => ?_
  rw [if_pos ht] at h3
  omega
theorem vl_cancel {a b : Nat} {ea eb m : Int} (h1 : m ≤ ea) (h2 : ea ≤ eb) (h : vl a ea m = vl b eb m) : a = b * 2 ^ (eb - ea).toNat := by
  unfold vl at h
  rw [show (eb - m).toNat = (eb - ea).toNat + (ea - m).toNat by omega, Nat.pow_add, ← Nat.mul_assoc] at h
  exact Nat.eq_of_mul_eq_mul_right (Nat.two_pow_pos _) h
theorem shr_num (s n : Nat) (h : n ≤ 512) (hs : s < QQ) (w : World) : Calls Tryd.prog 108 #[.agg #[.int .u64 (dgl (s) 0 : Nat), .int .u64 (dgl (s) 1 : Nat), .int .u64 (dgl (s) 2 : Nat), .int .u64 (dgl (s) 3 : Nat), .int .u64 (dgl (s) 4 : Nat), .int .u64 (dgl (s) 5 : Nat), .int .u64 (dgl (s) 6 : Nat), .int .u64 (dgl (s) 7 : Nat)], .int .i64 (n : Nat)] w fun e w' => e = .returned (.tuple #[.agg #[.int .u64 (dgl (s / 2 ^ n) 0 : Nat), .int .u64 (dgl (s / 2 ^ n) 1 : Nat), .int .u64 (dgl (s / 2 ^ n) 2 : Nat), .int .u64 (dgl (s / 2 ^ n) 3 : Nat), .int .u64 (dgl (s / 2 ^ n) 4 : Nat), .int .u64 (dgl (s / 2 ^ n) 5 : Nat), .int .u64 (dgl (s / 2 ^ n) 6 : Nat), .int .u64 (dgl (s / 2 ^ n) 7 : Nat)], .bool (!decide (s / 2 ^ n * 2 ^ n = s))]) ∧ Below w.heap.size w w' :=
  wideShr_any s n (n : Int) (by unfold roomI; omega) hs w
/-- unpack.at, where no digit is lost. -/
theorem at_word (neg : Bool) (z x m : Int) (s u : Nat) (hs : s < QQ) (hu : u < QQ) (hu0 : u ≠ 0) (hz : -1048576 ≤ z ∧ z ≤ 1048576) (hx : -3000000 ≤ x ∧ x ≤ 3000000) (h1 : m ≤ z) (h2 : m ≤ x) (h : vl s z m = vl u x m) (w : World) :
    Calls Tryd.prog 51 #[.agg #[.bool (neg), .int .i64 (z), .int .u64 (dgl (s) 0 : Nat), .int .u64 (dgl (s) 1 : Nat), .int .u64 (dgl (s) 2 : Nat), .int .u64 (dgl (s) 3 : Nat), .int .u64 (dgl (s) 4 : Nat), .int .u64 (dgl (s) 5 : Nat), .int .u64 (dgl (s) 6 : Nat), .int .u64 (dgl (s) 7 : Nat)], .int .i64 x] w fun e w' => e = .returned (.tuple #[.agg #[.int .u64 (dgl (u) 0 : Nat), .int .u64 (dgl (u) 1 : Nat), .int .u64 (dgl (u) 2 : Nat), .int .u64 (dgl (u) 3 : Nat), .int .u64 (dgl (u) 4 : Nat), .int .u64 (dgl (u) 5 : Nat), .int .u64 (dgl (u) 6 : Nat), .int .u64 (dgl (u) 7 : Nat)], .bool true]) ∧ Below w.heap.size w w' := by
  by_cases hzx : x ≤ z
  · have e := vl_cancel (a := u) (b := s) h2 hzx h.symm
    have hs0 : s ≠ 0 := fun h0 => hu0 (by rw [e, h0, Nat.zero_mul])
    have ht := same_top hs0 hu0 h1 h2 h
    have l1 := len_pos hs0
    have l2 := len_qq hu
    refine at_U neg false z x s u hz hx hzx (fun w => ?_) w
    have h3 := shl_num s (z - x).toNat (by omega) hs w
    rw [← e, show (((z - x).toNat : Nat) : Int) = z - x by omega] at h3
    exact h3
  · have e := vl_cancel (a := s) (b := u) h1 (show z ≤ x by omega) h
    have hs0 : s ≠ 0 := fun h0 => by
      rw [h0] at e
      have := Nat.mul_pos (Nat.pos_of_ne_zero hu0) (Nat.two_pow_pos (x - z).toNat)
      omega
    have ht := same_top hs0 hu0 h1 h2 h
    have l1 := len_pos hu0
    have l2 := len_qq hs
    have e2 : s / 2 ^ (x - z).toNat = u := by rw [e, Nat.mul_div_cancel _ (Nat.two_pow_pos _)]
    refine at_D neg false z x s u hz hx hzx (fun w => ?_) w
    have h3 := shr_num s (x - z).toNat (by omega) hs w
    rw [e2, ← e, decide_eq_true rfl, show (((x - z).toNat : Nat) : Int) = x - z by omega] at h3
    exact h3

theorem exact_word (f : Int) (a : Nat) (h4 : 4 ≤ clsU f a) (z m : Int) (s : Nat) (hs : s < QQ) (hr : rgt z = true) (h1 : m ≤ z) (h2 : m ≤ expU f a) (hv : vl s z m = vl (sigU f a) (expU f a) m) (w : World) (hg : FmtG w) :
    Calls Tryd.prog 11 #[.int .i64 f, .agg #[.bool (negU f a), .int .i64 (z), .int .u64 (dgl (s) 0 : Nat), .int .u64 (dgl (s) 1 : Nat), .int .u64 (dgl (s) 2 : Nat), .int .u64 (dgl (s) 3 : Nat), .int .u64 (dgl (s) 4 : Nat), .int .u64 (dgl (s) 5 : Nat), .int .u64 (dgl (s) 6 : Nat), .int .u64 (dgl (s) 7 : Nat)]] w fun e w' => e = .returned (.tuple #[.agg #[.int .u64 (dgl (a) 1 : Nat), .int .u64 (dgl (a) 0 : Nat)], .bool true]) ∧ Below w.heap.size w w' := by
  have hf : 1 ≤ f ∧ f ≤ 4 := cls_form (a := a) (by omega)
  have HO := fun w hg => of_u f hf w hg
  have HR := fun w => uRight_any (negU f a) z s w
  rw [hr] at HR
  have hz := rgtB hr
  by_cases h0 : s = 0
  · have hs0 : sigU f a = 0 := Classical.byContradiction fun hn => by
      have := vl_pos (expU f a) m hn
      rw [h0, vl_zero] at hv
      omega
    subst h0
    have HN := fun w hg => nought_u f hf (negU f a) w hg
    rw [ngt_own h4 hs0] at HN
    exact exact_Z f z 0 0 0 (negU f a) false false false (kU f) 0 0 0 0 0 a HO HR (fun w => top_Z (negU f a) z 0 hr hz w) HN w hg
  · have hs0 : sigU f a ≠ 0 := fun hn => by
      have := vl_pos z m h0
      rw [hn, vl_zero] at hv
      omega
    have ht := same_top h0 hs0 h1 h2 hv
    have hp := prU_bd f hf
    have hl := sig_len f a hf
    have hlo := loU_bd f
    have hfl := fin_fld h4
    have hle := loU_eq f hf
    have k1 := kU_1 f hf
    have k2 := kU_2 f hf
    have hfd := fldU_le f a
    have hrq := Nat.lt_trans (frcU_lt f a hf) (pow_qq (prU f - 1) (by omega))
    have lp := len_pos hs0
    have hq := sigU_qq f a hf
    have HT := fun w => top_Y (negU f a) z s hr hz hs h0 w
    have HLO := fun w => low_u f hf w
    by_cases hn : fldU f a = 0
    · have e1 : sigU f a = frcU f a := if_pos hn
      have e2 : expU f a = loU f := if_pos hn
      have l2 := hl.2 hn
      have HAT := fun w => at_word (negU f a) z (expU f a) m s (sigU f a) hs hq hs0 hz (by omega) h1 h2 hv w
      have HMK := fun w hg => makeOwn_u f a (by omega) w hg
      rw [hn, ← e1] at HMK
      exact exact_S f z _ (loU f) (expU f a) (negU f a) false true false (kU f) s (sigU f a) 0 (Go.bitLen (sigU f a)) 0 a HO HR HT (by omega) (by omega) hlo (by unfold Hid; omega) (by omega) HLO HAT (by unfold Hid; omega)
        (fun w => wideLen_any _ hq w) (by unfold Hid; rw [decide_eq_true_iff]; omega) HMK w hg
    · have e1 : sigU f a = frcU f a + 2 ^ (prU f - 1) := if_neg hn
      have e2 : expU f a = loU f + ((fldU f a : Int) - 1) := if_neg hn
      have l2 := hl.1 hn
      have HAT := fun w => at_word (negU f a) z (expU f a) m s (sigU f a) hs hq hs0 hz (by omega) h1 h2 hv w
      have HMK := fun w hg => makeOwn_u f a (by omega) w hg
      rw [show ((fldU f a : Nat) : Int) = expU f a - loU f + 1 by omega] at HMK
      have HPW := fun w => pow_num (prU f - 1) (kU f 1 - 1) (by omega) (by rw [k1]; omega) w
      have HSB := fun w => wideSub_any (sigU f a) (2 ^ (prU f - 1)) hq (pow_qq _ (by omega)) w
      rw [subQ_le hq (by omega), show sigU f a - 2 ^ (prU f - 1) = frcU f a by omega] at HSB
      exact exact_N f z _ (loU f) (expU f a) (negU f a) false true _ (kU f) s (sigU f a) (frcU f a) (Go.bitLen (sigU f a)) (2 ^ (prU f - 1)) a HO HR HT (by omega) (by omega) hlo (by unfold Hid; omega) (by omega) HLO HAT (by unfold Hid; omega)
        (fun w => wideLen_any _ hq w) (by unfold Hid; rw [decide_eq_false_iff_not]; omega) HPW HSB HMK w hg

end Go.Proofs.YtpcjdllijkjdkaaDoor

/- Contracts: the document's Value. -/
set_option linter.unusedVariables false
set_option linter.unusedSimpArgs false
set_option maxRecDepth 8000
namespace Go.Proofs.YtpcjdllijkjdkaaDoor
open Go.RowKit Plain

def SlotIs.nbox (B : Nat) (neg : Bool) (z : Int) (s : Nat) : SlotIs :=
  ⟨fun v w => ∃ b, v = .pointer (some ⟨b, 0, none⟩) ∧ B ≤ b ∧ NB w b neg z s ∧ ∀ i, w.frozen? ⟨b, i, none⟩ = false,
   fun v w w' hb ⟨b, h1, h2, h3, h4⟩ => ⟨b, h1, h2, h3.below hb, fun i => (hb.frozen (p := ⟨b, i, none⟩) h3.lt).trans (h4 i)⟩⟩
structure RvSt (a : Nat) (w W : World) : Prop where
  wa : WB W w.heap.size (dgl a 1) (dgl a 0)
  r : NB W (w.heap.size + 1) false 0 0
  fr : ∀ i, W.frozen? ⟨w.heap.size + 1, i, none⟩ = false
  bel : Below w.heap.size w W
theorem RvSt.under {a : Nat} {w W W' : World} (h : RvSt a w W) {C : Nat} (hb : Below C W W') (hc : w.heap.size + 1 < C) : RvSt a w W' := by
  have h0 : w.heap.size < C := by omega
  exact ⟨⟨(hb.cell (p := ⟨w.heap.size, 0, none⟩) h0).trans h.wa.h, (hb.cell (p := ⟨w.heap.size, 1, none⟩) h0).trans h.wa.l, Nat.lt_of_lt_of_le h.wa.lt hb.size⟩, h.r.under hb hc, fun i => (hb.frozen (p := ⟨w.heap.size + 1, i, none⟩) hc).trans (h.fr i), h.bel.trans (hb.mono (by omega))⟩
theorem RvSt.below {a : Nat} {w W W' : World} (h : RvSt a w W) (hb : Below W.heap.size W W') : RvSt a w W' := h.under hb h.r.lt
theorem rvSt_start (a : Nat) (w : World) : RvSt a w ((w.alloc (.cells #[.int .u64 (dgl (a) 1 : Nat), .int .u64 (dgl (a) 0 : Nat)] 28)).alloc (.cells #[.bool false, .int .i64 0, .int .u64 0, .int .u64 0, .int .u64 0, .int .u64 0, .int .u64 0, .int .u64 0, .int .u64 0, .int .u64 0] 26)) := by
  have h1 := nb_zero (w.alloc (.cells #[.int .u64 (dgl (a) 1 : Nat), .int .u64 (dgl (a) 0 : Nat)] 28)) 26
  rw [World.size_alloc] at h1
  exact ⟨⟨by simp [go_sem], by simp [go_sem], by simp; omega⟩, h1, fun i => by simp [go_sem], below_trans (below_allocs _ _) (below_allocs _ _)⟩
theorem nb_setx0 {W : World} {p : Nat} {n : Bool} {z : Int} {r s : Nat} (h : NB W p n z r) (ho : ∀ j, j ≠ 0 → dgl s j = dgl r j) : NB (W.setCell ⟨p, 2, none⟩ (.int .u64 (dgl s 0 : Nat))) p n z s := by
  have ln := h.n
  have le := h.e
  have l0 := h.x0
  have l1 := h.x1
  have l2 := h.x2
  have l3 := h.x3
  have l4 := h.x4
  have l5 := h.x5
  have l6 := h.x6
  have l7 := h.x7
  have hl := h.lt
  have o1 := ho 1 (by decide)
  have o2 := ho 2 (by decide)
  have o3 := ho 3 (by decide)
  have o4 := ho 4 (by decide)
  have o5 := ho 5 (by decide)
  have o6 := ho 6 (by decide)
  have o7 := ho 7 (by decide)
  exact ⟨by simp [go_sem, ln], by simp [go_sem, le], by simp [go_sem, l0], by simp [go_sem, l1, o1], by simp [go_sem, l2, o2], by simp [go_sem, l3, o3], by simp [go_sem, l4, o4], by simp [go_sem, l5, o5], by simp [go_sem, l6, o6], by simp [go_sem, l7, o7], by simpa [go_sem] using hl⟩
theorem nb_setx1 {W : World} {p : Nat} {n : Bool} {z : Int} {r s : Nat} (h : NB W p n z r) (ho : ∀ j, j ≠ 1 → dgl s j = dgl r j) : NB (W.setCell ⟨p, 3, none⟩ (.int .u64 (dgl s 1 : Nat))) p n z s := by
  have ln := h.n
  have le := h.e
  have l0 := h.x0
  have l1 := h.x1
  have l2 := h.x2
  have l3 := h.x3
  have l4 := h.x4
  have l5 := h.x5
  have l6 := h.x6
  have l7 := h.x7
  have hl := h.lt
  have o0 := ho 0 (by decide)
  have o2 := ho 2 (by decide)
  have o3 := ho 3 (by decide)
  have o4 := ho 4 (by decide)
  have o5 := ho 5 (by decide)
  have o6 := ho 6 (by decide)
  have o7 := ho 7 (by decide)
  exact ⟨by simp [go_sem, ln], by simp [go_sem, le], by simp [go_sem, l0, o0], by simp [go_sem, l1], by simp [go_sem, l2, o2], by simp [go_sem, l3, o3], by simp [go_sem, l4, o4], by simp [go_sem, l5, o5], by simp [go_sem, l6, o6], by simp [go_sem, l7, o7], by simpa [go_sem] using hl⟩
theorem nb_sete {W : World} {p : Nat} {n : Bool} {z : Int} {s : Nat} (h : NB W p n z s) (y : Int) : NB (W.setCell ⟨p, 1, none⟩ (.int .i64 y)) p n y s := by
  have ln := h.n
  have le := h.e
  have l0 := h.x0
  have l1 := h.x1
  have l2 := h.x2
  have l3 := h.x3
  have l4 := h.x4
  have l5 := h.x5
  have l6 := h.x6
  have l7 := h.x7
  have hl := h.lt
  exact ⟨by simp [go_sem, ln], by simp [go_sem, le], by simp [go_sem, l0], by simp [go_sem, l1], by simp [go_sem, l2], by simp [go_sem, l3], by simp [go_sem, l4], by simp [go_sem, l5], by simp [go_sem, l6], by simp [go_sem, l7], by simpa [go_sem] using hl⟩

set_option maxHeartbeats 4000000 in
theorem rval_Z (f em lo : Int) (a r s fd P e : Nat) (ng : Bool)
    (HFD : Hid (∀ w, Calls Tryd.prog 75 #[.int .i64 f, .agg #[.int .u64 (dgl (a) 1 : Nat), .int .u64 (dgl (a) 0 : Nat)]] w fun e w' => e = .returned (.int .i64 0) ∧ Below w.heap.size w w'))
    (HNG : Hid (∀ w, Calls Tryd.prog 46 #[.int .i64 f, .agg #[.int .u64 (dgl (a) 1 : Nat), .int .u64 (dgl (a) 0 : Nat)]] w fun e w' => e = .returned (.bool ng) ∧ Below w.heap.size w w'))
    (HFR : Hid (∀ w, Calls Tryd.prog 76 #[.int .i64 f, .agg #[.int .u64 (dgl (a) 1 : Nat), .int .u64 (dgl (a) 0 : Nat)]] w fun e w' => e = .returned (.agg #[.int .u64 (dgl (r) 0 : Nat), .int .u64 (dgl (r) 1 : Nat), .int .u64 (dgl (r) 2 : Nat), .int .u64 (dgl (r) 3 : Nat), .int .u64 (dgl (r) 4 : Nat), .int .u64 (dgl (r) 5 : Nat), .int .u64 (dgl (r) 6 : Nat), .int .u64 (dgl (r) 7 : Nat)]) ∧ Below w.heap.size w w'))
    (HEM : Hid (∀ w, Calls Tryd.prog 116 #[.int .i64 f] w fun e w' => e = .returned (.int .i64 em) ∧ w' = w))
    (HPR : Hid (∀ w, Calls Tryd.prog 34 #[.int .i64 f] w fun e w' => e = .returned (.int .i64 (P : Nat)) ∧ w' = w))
    (hem : -20000 ≤ em ∧ em ≤ 0) (hP : 2 ≤ P ∧ P ≤ 128) (HLO : Hid (em - (P : Int) + 1 = lo)) (w : World) :
    Calls Tryd.prog 58 #[.int .i64 f, .agg #[.int .u64 (dgl (a) 1 : Nat), .int .u64 (dgl (a) 0 : Nat)]] w fun e w' => e = .returned (.agg #[.bool (ng), .int .i64 (lo), .int .u64 (dgl (r) 0 : Nat), .int .u64 (dgl (r) 1 : Nat), .int .u64 (dgl (r) 2 : Nat), .int .u64 (dgl (r) 3 : Nat), .int .u64 (dgl (r) 4 : Nat), .int .u64 (dgl (r) 5 : Nat), .int .u64 (dgl (r) 6 : Nat), .int .u64 (dgl (r) 7 : Nat)]) ∧ Below w.heap.size w w' := by
  have HS := hide (rvSt_start a w)
  go_enter Tryd.func58, Tryd.ntmps58
  go_upto_region 1 with fail
  refine wp_gen (fun W => RvSt a w W) HS.out ?_
  clear HS
  rintro W1 g1
  have HS := hide g1
  have l0 := g1.wa.h
  have l1 := g1.wa.l
  clear g1
  go_wp2_with fail
  refine (HFD.out _).mono ?_
  rintro e_ w1 ⟨rfl, hb1⟩
  replace HS := hide (HS.out.below hb1)
  clear hb1 l0 l1
  go_upto_region 2 with fail
  refine wp_gen (fun W => RvSt a w W) HS.out ?_
  clear HS
  rintro W2 h2
  refine wp_region_storeK 15 [14] [11, 12, 13, 14, 15, 16, 17, 18, 19, 20, 21, 22, 23, 6] (fun bs => [(11, .val (.int .i64 f)), (12, .val (.agg #[.int .u64 (dgl (a) 1 : Nat), .int .u64 (dgl (a) 0 : Nat)])), (13, .val (.bool ng)), (14, .val (.int .i64 f)), (15, .val (.agg #[.int .u64 (dgl (a) 1 : Nat), .int .u64 (dgl (a) 0 : Nat)])), (16, .val (.agg #[.int .u64 (dgl (r) 0 : Nat), .int .u64 (dgl (r) 1 : Nat), .int .u64 (dgl (r) 2 : Nat), .int .u64 (dgl (r) 3 : Nat), .int .u64 (dgl (r) 4 : Nat), .int .u64 (dgl (r) 5 : Nat), .int .u64 (dgl (r) 6 : Nat), .int .u64 (dgl (r) 7 : Nat)])), (17, .val (.int .i64 f)), (18, .val (.int .i64 em)), (19, .val (.int .i64 f)), (20, .val (.int .i64 (P : Nat))), (21, .val (.int .i64 (em - (P : Int)))), (22, .val (.int .i64 lo)), (23, .val (.agg #[.bool (ng), .int .i64 (lo), .int .u64 (dgl (r) 0 : Nat), .int .u64 (dgl (r) 1 : Nat), .int .u64 (dgl (r) 2 : Nat), .int .u64 (dgl (r) 3 : Nat), .int .u64 (dgl (r) 4 : Nat), .int .u64 (dgl (r) 5 : Nat), .int .u64 (dgl (r) 6 : Nat), .int .u64 (dgl (r) 7 : Nat)])), (6, bif bs.headD false then SlotIs.nbox (w.heap.size + 1 + 1) ng lo r else SlotIs.nbox (w.heap.size + 1 + 1) false 0 0)])
    (fun _ W => RvSt a w W) (fun bs => rfl) mixedOk (by kernel_rfl) (by kernel_rfl) (by kernel_rfl) (h2.below (Below.refl _ _).drew) (fun bs W W' h hb => h.below hb) ?_ ?_
  · refine kSt rfl (fun φ hφ => gStep_run rfl (gRun_move 0 11 (.inl rfl) rfl (by decide +kernel) (fun v w h => h))) ?_
    refine kSt rfl (fun φ hφ => gStep_run rfl ?_) ?_
    · intro ρ W hC hc hf hL
      have e3 : ρ (.tmp 3) = .pointer (some ⟨w.heap.size, 0, none⟩) := hL 3 (by decide +kernel)
      have l0 := hC.wa.h
      have l1 := hC.wa.l
      simp [go_sem, hc, hf, e3, l0, l1]
      exact ⟨Below.refl _ _, rfl⟩
    refine kSt rfl (fun φ hφ => gStep_run rfl ?_) ?_
    · intro ρ W hC hc hf hL
      have e11 : ρ (.tmp 11) = .int .i64 f := hL 11 (by decide +kernel)
      have e12 : ρ (.tmp 12) = .agg #[.int .u64 (dgl (a) 1 : Nat), .int .u64 (dgl (a) 0 : Nat)] := hL 12 (by decide +kernel)
      simp [go_sem, hc, hf, e11, e12]
      refine (HNG.out W).mono ?_
      rintro e w' ⟨rfl, hb⟩
      exact ⟨_, rfl, by first | exact hb | (subst hb; exact Below.refl _ _), rfl⟩
    refine kSt rfl (fun φ hφ => gStep_run rfl (gRun_move 0 14 (.inl rfl) rfl (by decide +kernel) (fun v w h => h))) ?_
    refine kSt rfl (fun φ hφ => gStep_run rfl ?_) ?_
    · intro ρ W hC hc hf hL
      have e3 : ρ (.tmp 3) = .pointer (some ⟨w.heap.size, 0, none⟩) := hL 3 (by decide +kernel)
      have l0 := hC.wa.h
      have l1 := hC.wa.l
      simp [go_sem, hc, hf, e3, l0, l1]
      exact ⟨Below.refl _ _, rfl⟩
    refine kSt rfl (fun φ hφ => gStep_run rfl ?_) ?_
    · intro ρ W hC hc hf hL
      have e14 : ρ (.tmp 14) = .int .i64 f := hL 14 (by decide +kernel)
      have e15 : ρ (.tmp 15) = .agg #[.int .u64 (dgl (a) 1 : Nat), .int .u64 (dgl (a) 0 : Nat)] := hL 15 (by decide +kernel)
      simp [go_sem, hc, hf, e14, e15]
      refine (HFR.out W).mono ?_
      rintro e w' ⟨rfl, hb⟩
      exact ⟨_, rfl, by first | exact hb | (subst hb; exact Below.refl _ _), rfl⟩
    refine kSt rfl (fun φ hφ => gStep_run rfl (gRun_move 0 17 (.inl rfl) rfl (by decide +kernel) (fun v w h => h))) ?_
    refine kSt rfl (fun φ hφ => gStep_run rfl ?_) ?_
    · intro ρ W hC hc hf hL
      have e17 : ρ (.tmp 17) = .int .i64 f := hL 17 (by decide +kernel)
      simp [go_sem, hc, hf, e17]
      refine (HEM.out W).mono ?_
      rintro e w' ⟨rfl, hb⟩
      exact ⟨_, rfl, by first | exact hb | (subst hb; exact Below.refl _ _), rfl⟩
    refine kSt rfl (fun φ hφ => gStep_run rfl (gRun_move 0 19 (.inl rfl) rfl (by decide +kernel) (fun v w h => h))) ?_
    refine kSt rfl (fun φ hφ => gStep_run rfl ?_) ?_
    · intro ρ W hC hc hf hL
      have e19 : ρ (.tmp 19) = .int .i64 f := hL 19 (by decide +kernel)
      simp [go_sem, hc, hf, e19]
      refine (HPR.out W).mono ?_
      rintro e w' ⟨rfl, hb⟩
      exact ⟨_, rfl, by first | exact hb | (subst hb; exact Below.refl _ _), rfl⟩
    refine kSt rfl (fun φ hφ => gStep_run rfl ?_) ?_
    · intro ρ W hC hc hf hL
      have e18 : ρ (.tmp 18) = .int .i64 em := hL 18 (by decide +kernel)
      have e20 : ρ (.tmp 20) = .int .i64 (P : Nat) := hL 20 (by decide +kernel)
      have l0 : IntKind.i64.wrap (em - (P : Int)) = em - (P : Int) := by rw [IntKind.wrap_i64]; omega
      simp [go_sem, hc, hf, e18, e20, l0]
      exact ⟨Below.refl _ _, rfl⟩
    refine kSt rfl (fun φ hφ => gStep_run rfl ?_) ?_
    · intro ρ W hC hc hf hL
      have e21 : ρ (.tmp 21) = .int .i64 (em - (P : Int)) := hL 21 (by decide +kernel)
      have l1 : IntKind.i64.wrap (em - (P : Int) + 1) = em - (P : Int) + 1 := by rw [IntKind.wrap_i64]; omega
      have l0 := HLO.out
      rw [l0] at l1
      simp [go_sem, hc, hf, e21, l0, l1]
      exact ⟨Below.refl _ _, rfl⟩
    refine kSt rfl (fun φ hφ => gStep_run rfl ?_) ?_
    · intro ρ W hC hc hf hL
      have e13 : ρ (.tmp 13) = .bool ng := hL 13 (by decide +kernel)
      have e16 : ρ (.tmp 16) = .agg #[.int .u64 (dgl (r) 0 : Nat), .int .u64 (dgl (r) 1 : Nat), .int .u64 (dgl (r) 2 : Nat), .int .u64 (dgl (r) 3 : Nat), .int .u64 (dgl (r) 4 : Nat), .int .u64 (dgl (r) 5 : Nat), .int .u64 (dgl (r) 6 : Nat), .int .u64 (dgl (r) 7 : Nat)] := hL 16 (by decide +kernel)
      have e22 : ρ (.tmp 22) = .int .i64 lo := hL 22 (by decide +kernel)
      simp [go_sem, hc, hf, e13, e16, e22]
      exact ⟨Below.refl _ _, rfl⟩
    refine kSt rfl (fun φ hφ => gStep_run rfl ?_) ?_
    · intro ρ W hC hc hf hL
      have hφ0 : φ 14 = false := hφ 14 (by simp) (by kernel_rfl)
      simp [go_sem, hc, hf]
      refine ⟨below_allocs _ _, ?_⟩
      show (bif φ 14 then SlotIs.nbox (w.heap.size + 1 + 1) ng lo r else SlotIs.nbox (w.heap.size + 1 + 1) false 0 0).R _ _
      rw [hφ0]
      exact ⟨_, rfl, hC.r.lt, nb_zero _ _, fun i => by simp [go_sem]⟩
    refine kStS rfl ⟨rfl, rfl, ?_⟩ ?_
    · intro φ ρ W hφ hC hc hL
      have b6 := hL 6 (by decide +kernel)
      have e23 : ρ (.tmp 23) = .agg #[.bool (ng), .int .i64 (lo), .int .u64 (dgl (r) 0 : Nat), .int .u64 (dgl (r) 1 : Nat), .int .u64 (dgl (r) 2 : Nat), .int .u64 (dgl (r) 3 : Nat), .int .u64 (dgl (r) 4 : Nat), .int .u64 (dgl (r) 5 : Nat), .int .u64 (dgl (r) 6 : Nat), .int .u64 (dgl (r) 7 : Nat)] := hL 23 (by decide +kernel)
      have b6 : (bif φ 14 then SlotIs.nbox (w.heap.size + 1 + 1) ng lo r else SlotIs.nbox (w.heap.size + 1 + 1) false 0 0).R (ρ (.tmp 6)) W := hL 6 (by decide +kernel)
      rw [hφ] at b6
      obtain ⟨p6, e6, q6, l6, z6⟩ := b6
      have yn := l6.n
      have ye := l6.e
      have y0 := l6.x0
      have y1 := l6.x1
      have y2 := l6.x2
      have y3 := l6.x3
      have y4 := l6.x4
      have y5 := l6.x5
      have y6 := l6.x6
      have y7 := l6.x7
      have hzl := l6.lt
      refine gUpon_of ((((((((((W.setCell ⟨p6, 0, none⟩ (.bool (ng))).setCell ⟨p6, 1, none⟩ (.int .i64 (lo))).setCell ⟨p6, 2, none⟩ (.int .u64 (dgl (r) 0 : Nat))).setCell ⟨p6, 3, none⟩ (.int .u64 (dgl (r) 1 : Nat))).setCell ⟨p6, 4, none⟩ (.int .u64 (dgl (r) 2 : Nat))).setCell ⟨p6, 5, none⟩ (.int .u64 (dgl (r) 3 : Nat))).setCell ⟨p6, 6, none⟩ (.int .u64 (dgl (r) 4 : Nat))).setCell ⟨p6, 7, none⟩ (.int .u64 (dgl (r) 5 : Nat))).setCell ⟨p6, 8, none⟩ (.int .u64 (dgl (r) 6 : Nat))).setCell ⟨p6, 9, none⟩ (.int .u64 (dgl (r) 7 : Nat))) ?_ (fun _ => ?_)
      · simp [go_sem, hc, e23, e6, hzl, z6, yn, ye, y0, y1, y2, y3, y4, y5, y6, y7, gUpon]
      have hs10 := below_set10 (Below.refl (w.heap.size + 1 + 1) W) p6 q6 ng lo r
      refine ⟨hC.under hs10 (by omega), fun t => ?_⟩
      refine (tbl_imp rfl (fun _ => val_imp) (tbl_imp rfl (fun _ => val_imp) (tbl_imp rfl (fun _ => val_imp) (tbl_imp rfl (fun _ => val_imp) (tbl_imp rfl (fun _ => val_imp) (tbl_imp rfl (fun _ => val_imp) (tbl_imp rfl (fun _ => val_imp) (tbl_imp rfl (fun _ => val_imp) (tbl_imp rfl (fun _ => val_imp) (tbl_imp rfl (fun _ => val_imp) (tbl_imp rfl (fun _ => val_imp) (tbl_imp rfl (fun _ => val_imp) (tbl_imp rfl (fun _ => val_imp) (tbl_imp rfl (fun ht h => ?_) tbl_nil_imp))))))))))))))
      subst ht
      show (bif (φ 14 || true) then SlotIs.nbox (w.heap.size + 1 + 1) ng lo r else SlotIs.nbox (w.heap.size + 1 + 1) false 0 0).R _ _
      rw [Bool.or_true]
      exact ⟨p6, e6, q6, nb_set l6 ng lo r, fun i => by simpa [go_sem] using z6 i⟩
    exact kSt0
  · intro W hC
    refine gFi 11 rfl ?_
    rintro _ rfl
    refine gFi 12 rfl ?_
    rintro _ rfl
    refine gFi 13 rfl ?_
    rintro _ rfl
    refine gFi 14 rfl ?_
    rintro _ rfl
    refine gFi 15 rfl ?_
    rintro _ rfl
    refine gFi 16 rfl ?_
    rintro _ rfl
    refine gFi 17 rfl ?_
    rintro _ rfl
    refine gFi 18 rfl ?_
    rintro _ rfl
    refine gFi 19 rfl ?_
    rintro _ rfl
    refine gFi 20 rfl ?_
    rintro _ rfl
    refine gFi 21 rfl ?_
    rintro _ rfl
    refine gFi 22 rfl ?_
    rintro _ rfl
    refine gFi 23 rfl ?_
    rintro _ rfl
    refine gFi 6 rfl ?_
    rintro u6 b6
    refine gFiN rfl ?_
    refine gFi0 ?_
    simp only [List.drop_succ_cons, List.drop_zero, Act.put, List.setIfInBounds_toArray, List.set_cons_succ, List.set_cons_zero]
    obtain ⟨p6, rfl, q6, l6, z6⟩ := b6
    have HS := hide hC
    have HN := hide l6
    have HP6 := hide q6
    have HZ := hide z6
    clear hC l6 q6 z6 h2
    have hrf := HS.out.fr
    have rn := HS.out.r.n
    have re := HS.out.r.e
    have r0 := HS.out.r.x0
    have r1 := HS.out.r.x1
    have r2 := HS.out.r.x2
    have r3 := HS.out.r.x3
    have r4 := HS.out.r.x4
    have r5 := HS.out.r.x5
    have r6 := HS.out.r.x6
    have r7 := HS.out.r.x7
    have hrl := HS.out.r.lt
    have ln := HN.out.n
    have le := HN.out.e
    have l0 := HN.out.x0
    have l1 := HN.out.x1
    have l2 := HN.out.x2
    have l3 := HN.out.x3
    have l4 := HN.out.x4
    have l5 := HN.out.x5
    have l6 := HN.out.x6
    have l7 := HN.out.x7
    have HB := hide HS.out.bel
    clear HS HN
    go_wp2
    exact bodyPost_ret (v := .agg #[.bool (ng), .int .i64 (lo), .int .u64 (dgl (r) 0 : Nat), .int .u64 (dgl (r) 1 : Nat), .int .u64 (dgl (r) 2 : Nat), .int .u64 (dgl (r) 3 : Nat), .int .u64 (dgl (r) 4 : Nat), .int .u64 (dgl (r) 5 : Nat), .int .u64 (dgl (r) 6 : Nat), .int .u64 (dgl (r) 7 : Nat)]) (by simp [results, Tryd.results58, go_sem, hrl, rn, re, r0, r1, r2, r3, r4, r5, r6, r7]) rfl ⟨rfl, ((((((((((HB.out.setCell (p := ⟨w.heap.size + 1, 0, none⟩) (Nat.le_succ _) _).setCell (p := ⟨w.heap.size + 1, 1, none⟩) (Nat.le_succ _) _).setCell (p := ⟨w.heap.size + 1, 2, none⟩) (Nat.le_succ _) _).setCell (p := ⟨w.heap.size + 1, 3, none⟩) (Nat.le_succ _) _).setCell (p := ⟨w.heap.size + 1, 4, none⟩) (Nat.le_succ _) _).setCell (p := ⟨w.heap.size + 1, 5, none⟩) (Nat.le_succ _) _).setCell (p := ⟨w.heap.size + 1, 6, none⟩) (Nat.le_succ _) _).setCell (p := ⟨w.heap.size + 1, 7, none⟩) (Nat.le_succ _) _).setCell (p := ⟨w.heap.size + 1, 8, none⟩) (Nat.le_succ _) _).setCell (p := ⟨w.heap.size + 1, 9, none⟩) (Nat.le_succ _) _)⟩
    

set_option maxHeartbeats 4000000 in
theorem rval_L (f em lo : Int) (a r s fd P e : Nat) (ng : Bool)
    (HFD : Hid (∀ w, Calls Tryd.prog 75 #[.int .i64 f, .agg #[.int .u64 (dgl (a) 1 : Nat), .int .u64 (dgl (a) 0 : Nat)]] w fun e w' => e = .returned (.int .i64 (fd : Nat)) ∧ Below w.heap.size w w'))
    (HNG : Hid (∀ w, Calls Tryd.prog 46 #[.int .i64 f, .agg #[.int .u64 (dgl (a) 1 : Nat), .int .u64 (dgl (a) 0 : Nat)]] w fun e w' => e = .returned (.bool ng) ∧ Below w.heap.size w w'))
    (HFR : Hid (∀ w, Calls Tryd.prog 76 #[.int .i64 f, .agg #[.int .u64 (dgl (a) 1 : Nat), .int .u64 (dgl (a) 0 : Nat)]] w fun e w' => e = .returned (.agg #[.int .u64 (dgl (r) 0 : Nat), .int .u64 (dgl (r) 1 : Nat), .int .u64 (dgl (r) 2 : Nat), .int .u64 (dgl (r) 3 : Nat), .int .u64 (dgl (r) 4 : Nat), .int .u64 (dgl (r) 5 : Nat), .int .u64 (dgl (r) 6 : Nat), .int .u64 (dgl (r) 7 : Nat)]) ∧ Below w.heap.size w w'))
    (HEM : Hid (∀ w, Calls Tryd.prog 116 #[.int .i64 f] w fun e w' => e = .returned (.int .i64 em) ∧ w' = w))
    (HPR : Hid (∀ w, Calls Tryd.prog 34 #[.int .i64 f] w fun e w' => e = .returned (.int .i64 (P : Nat)) ∧ w' = w))
    (hem : -20000 ≤ em ∧ em ≤ 0) (hP : 2 ≤ P ∧ P ≤ 128) (HLO : Hid (em - (P : Int) + 1 = lo))
    (hfd : 1 ≤ fd ∧ fd ≤ 40000) (HQ : Hid (((P : Int) - 1).tdiv 64 = 0)) (HM : Hid (((P : Int) - 1).tmod 64 = ((e : Nat) : Int))) (HSH : Hid (IntKind.u64.wrap ((2 : Int) ^ e) = (2 : Int) ^ e)) (HE6 : Hid ((e : Int) < 64)) (HAD : Hid (IntKind.u64.wrap (((dgl r 0 : Nat) : Int) + (2 : Int) ^ e) = ((dgl s 0 : Nat) : Int))) (HOT : Hid (∀ j, j ≠ 0 → dgl s j = dgl r j)) (w : World) :
    Calls Tryd.prog 58 #[.int .i64 f, .agg #[.int .u64 (dgl (a) 1 : Nat), .int .u64 (dgl (a) 0 : Nat)]] w fun e w' => e = .returned (.agg #[.bool (ng), .int .i64 (lo + (fd : Int) - 1), .int .u64 (dgl (s) 0 : Nat), .int .u64 (dgl (s) 1 : Nat), .int .u64 (dgl (s) 2 : Nat), .int .u64 (dgl (s) 3 : Nat), .int .u64 (dgl (s) 4 : Nat), .int .u64 (dgl (s) 5 : Nat), .int .u64 (dgl (s) 6 : Nat), .int .u64 (dgl (s) 7 : Nat)]) ∧ Below w.heap.size w w' := by
  have HS := hide (rvSt_start a w)
  go_enter Tryd.func58, Tryd.ntmps58
  go_upto_region 1 with fail
  refine wp_gen (fun W => RvSt a w W) HS.out ?_
  clear HS
  rintro W1 g1
  have HS := hide g1
  have l0 := g1.wa.h
  have l1 := g1.wa.l
  clear g1
  go_wp2_with fail
  refine (HFD.out _).mono ?_
  rintro e_ w1 ⟨rfl, hb1⟩
  replace HS := hide (HS.out.below hb1)
  clear hb1 l0 l1
  go_upto_region 2 with fail
  refine wp_gen (fun W => RvSt a w W) HS.out ?_
  clear HS
  rintro W2 h2
  refine wp_region_storeK 15 [14] [11, 12, 13, 14, 15, 16, 17, 18, 19, 20, 21, 22, 23, 6] (fun bs => [(11, .val (.int .i64 f)), (12, .val (.agg #[.int .u64 (dgl (a) 1 : Nat), .int .u64 (dgl (a) 0 : Nat)])), (13, .val (.bool ng)), (14, .val (.int .i64 f)), (15, .val (.agg #[.int .u64 (dgl (a) 1 : Nat), .int .u64 (dgl (a) 0 : Nat)])), (16, .val (.agg #[.int .u64 (dgl (r) 0 : Nat), .int .u64 (dgl (r) 1 : Nat), .int .u64 (dgl (r) 2 : Nat), .int .u64 (dgl (r) 3 : Nat), .int .u64 (dgl (r) 4 : Nat), .int .u64 (dgl (r) 5 : Nat), .int .u64 (dgl (r) 6 : Nat), .int .u64 (dgl (r) 7 : Nat)])), (17, .val (.int .i64 f)), (18, .val (.int .i64 em)), (19, .val (.int .i64 f)), (20, .val (.int .i64 (P : Nat))), (21, .val (.int .i64 (em - (P : Int)))), (22, .val (.int .i64 lo)), (23, .val (.agg #[.bool (ng), .int .i64 (lo), .int .u64 (dgl (r) 0 : Nat), .int .u64 (dgl (r) 1 : Nat), .int .u64 (dgl (r) 2 : Nat), .int .u64 (dgl (r) 3 : Nat), .int .u64 (dgl (r) 4 : Nat), .int .u64 (dgl (r) 5 : Nat), .int .u64 (dgl (r) 6 : Nat), .int .u64 (dgl (r) 7 : Nat)])), (6, bif bs.headD false then SlotIs.nbox (w.heap.size + 1 + 1) ng lo r else SlotIs.nbox (w.heap.size + 1 + 1) false 0 0)])
    (fun _ W => RvSt a w W) (fun bs => rfl) mixedOk (by kernel_rfl) (by kernel_rfl) (by kernel_rfl) (h2.below (Below.refl _ _).drew) (fun bs W W' h hb => h.below hb) ?_ ?_
  · refine kSt rfl (fun φ hφ => gStep_run rfl (gRun_move 0 11 (.inl rfl) rfl (by decide +kernel) (fun v w h => h))) ?_
    refine kSt rfl (fun φ hφ => gStep_run rfl ?_) ?_
    · intro ρ W hC hc hf hL
      have e3 : ρ (.tmp 3) = .pointer (some ⟨w.heap.size, 0, none⟩) := hL 3 (by decide +kernel)
      have l0 := hC.wa.h
      have l1 := hC.wa.l
      simp [go_sem, hc, hf, e3, l0, l1]
      exact ⟨Below.refl _ _, rfl⟩
    refine kSt rfl (fun φ hφ => gStep_run rfl ?_) ?_
    · intro ρ W hC hc hf hL
      have e11 : ρ (.tmp 11) = .int .i64 f := hL 11 (by decide +kernel)
      have e12 : ρ (.tmp 12) = .agg #[.int .u64 (dgl (a) 1 : Nat), .int .u64 (dgl (a) 0 : Nat)] := hL 12 (by decide +kernel)
      simp [go_sem, hc, hf, e11, e12]
      refine (HNG.out W).mono ?_
      rintro e w' ⟨rfl, hb⟩
      exact ⟨_, rfl, by first | exact hb | (subst hb; exact Below.refl _ _), rfl⟩
    refine kSt rfl (fun φ hφ => gStep_run rfl (gRun_move 0 14 (.inl rfl) rfl (by decide +kernel) (fun v w h => h))) ?_
    refine kSt rfl (fun φ hφ => gStep_run rfl ?_) ?_
    · intro ρ W hC hc hf hL
      have e3 : ρ (.tmp 3) = .pointer (some ⟨w.heap.size, 0, none⟩) := hL 3 (by decide +kernel)
      have l0 := hC.wa.h
      have l1 := hC.wa.l
      simp [go_sem, hc, hf, e3, l0, l1]
      exact ⟨Below.refl _ _, rfl⟩
    refine kSt rfl (fun φ hφ => gStep_run rfl ?_) ?_
    · intro ρ W hC hc hf hL
      have e14 : ρ (.tmp 14) = .int .i64 f := hL 14 (by decide +kernel)
      have e15 : ρ (.tmp 15) = .agg #[.int .u64 (dgl (a) 1 : Nat), .int .u64 (dgl (a) 0 : Nat)] := hL 15 (by decide +kernel)
      simp [go_sem, hc, hf, e14, e15]
      refine (HFR.out W).mono ?_
      rintro e w' ⟨rfl, hb⟩
      exact ⟨_, rfl, by first | exact hb | (subst hb; exact Below.refl _ _), rfl⟩
    refine kSt rfl (fun φ hφ => gStep_run rfl (gRun_move 0 17 (.inl rfl) rfl (by decide +kernel) (fun v w h => h))) ?_
    refine kSt rfl (fun φ hφ => gStep_run rfl ?_) ?_
    · intro ρ W hC hc hf hL
      have e17 : ρ (.tmp 17) = .int .i64 f := hL 17 (by decide +kernel)
      simp [go_sem, hc, hf, e17]
      refine (HEM.out W).mono ?_
      rintro e w' ⟨rfl, hb⟩
      exact ⟨_, rfl, by first | exact hb | (subst hb; exact Below.refl _ _), rfl⟩
    refine kSt rfl (fun φ hφ => gStep_run rfl (gRun_move 0 19 (.inl rfl) rfl (by decide +kernel) (fun v w h => h))) ?_
    refine kSt rfl (fun φ hφ => gStep_run rfl ?_) ?_
    · intro ρ W hC hc hf hL
      have e19 : ρ (.tmp 19) = .int .i64 f := hL 19 (by decide +kernel)
      simp [go_sem, hc, hf, e19]
      refine (HPR.out W).mono ?_
      rintro e w' ⟨rfl, hb⟩
      exact ⟨_, rfl, by first | exact hb | (subst hb; exact Below.refl _ _), rfl⟩
    refine kSt rfl (fun φ hφ => gStep_run rfl ?_) ?_
    · intro ρ W hC hc hf hL
      have e18 : ρ (.tmp 18) = .int .i64 em := hL 18 (by decide +kernel)
      have e20 : ρ (.tmp 20) = .int .i64 (P : Nat) := hL 20 (by decide +kernel)
      have l0 : IntKind.i64.wrap (em - (P : Int)) = em - (P : Int) := by rw [IntKind.wrap_i64]; omega
      simp [go_sem, hc, hf, e18, e20, l0]
      exact ⟨Below.refl _ _, rfl⟩
    refine kSt rfl (fun φ hφ => gStep_run rfl ?_) ?_
    · intro ρ W hC hc hf hL
      have e21 : ρ (.tmp 21) = .int .i64 (em - (P : Int)) := hL 21 (by decide +kernel)
      have l1 : IntKind.i64.wrap (em - (P : Int) + 1) = em - (P : Int) + 1 := by rw [IntKind.wrap_i64]; omega
      have l0 := HLO.out
      rw [l0] at l1
      simp [go_sem, hc, hf, e21, l0, l1]
      exact ⟨Below.refl _ _, rfl⟩
    refine kSt rfl (fun φ hφ => gStep_run rfl ?_) ?_
    · intro ρ W hC hc hf hL
      have e13 : ρ (.tmp 13) = .bool ng := hL 13 (by decide +kernel)
      have e16 : ρ (.tmp 16) = .agg #[.int .u64 (dgl (r) 0 : Nat), .int .u64 (dgl (r) 1 : Nat), .int .u64 (dgl (r) 2 : Nat), .int .u64 (dgl (r) 3 : Nat), .int .u64 (dgl (r) 4 : Nat), .int .u64 (dgl (r) 5 : Nat), .int .u64 (dgl (r) 6 : Nat), .int .u64 (dgl (r) 7 : Nat)] := hL 16 (by decide +kernel)
      have e22 : ρ (.tmp 22) = .int .i64 lo := hL 22 (by decide +kernel)
      simp [go_sem, hc, hf, e13, e16, e22]
      exact ⟨Below.refl _ _, rfl⟩
    refine kSt rfl (fun φ hφ => gStep_run rfl ?_) ?_
    · intro ρ W hC hc hf hL
      have hφ0 : φ 14 = false := hφ 14 (by simp) (by kernel_rfl)
      simp [go_sem, hc, hf]
      refine ⟨below_allocs _ _, ?_⟩
      show (bif φ 14 then SlotIs.nbox (w.heap.size + 1 + 1) ng lo r else SlotIs.nbox (w.heap.size + 1 + 1) false 0 0).R _ _
      rw [hφ0]
      exact ⟨_, rfl, hC.r.lt, nb_zero _ _, fun i => by simp [go_sem]⟩
    refine kStS rfl ⟨rfl, rfl, ?_⟩ ?_
    · intro φ ρ W hφ hC hc hL
      have b6 := hL 6 (by decide +kernel)
      have e23 : ρ (.tmp 23) = .agg #[.bool (ng), .int .i64 (lo), .int .u64 (dgl (r) 0 : Nat), .int .u64 (dgl (r) 1 : Nat), .int .u64 (dgl (r) 2 : Nat), .int .u64 (dgl (r) 3 : Nat), .int .u64 (dgl (r) 4 : Nat), .int .u64 (dgl (r) 5 : Nat), .int .u64 (dgl (r) 6 : Nat), .int .u64 (dgl (r) 7 : Nat)] := hL 23 (by decide +kernel)
      have b6 : (bif φ 14 then SlotIs.nbox (w.heap.size + 1 + 1) ng lo r else SlotIs.nbox (w.heap.size + 1 + 1) false 0 0).R (ρ (.tmp 6)) W := hL 6 (by decide +kernel)
      rw [hφ] at b6
      obtain ⟨p6, e6, q6, l6, z6⟩ := b6
      have yn := l6.n
      have ye := l6.e
      have y0 := l6.x0
      have y1 := l6.x1
      have y2 := l6.x2
      have y3 := l6.x3
      have y4 := l6.x4
      have y5 := l6.x5
      have y6 := l6.x6
      have y7 := l6.x7
      have hzl := l6.lt
      refine gUpon_of ((((((((((W.setCell ⟨p6, 0, none⟩ (.bool (ng))).setCell ⟨p6, 1, none⟩ (.int .i64 (lo))).setCell ⟨p6, 2, none⟩ (.int .u64 (dgl (r) 0 : Nat))).setCell ⟨p6, 3, none⟩ (.int .u64 (dgl (r) 1 : Nat))).setCell ⟨p6, 4, none⟩ (.int .u64 (dgl (r) 2 : Nat))).setCell ⟨p6, 5, none⟩ (.int .u64 (dgl (r) 3 : Nat))).setCell ⟨p6, 6, none⟩ (.int .u64 (dgl (r) 4 : Nat))).setCell ⟨p6, 7, none⟩ (.int .u64 (dgl (r) 5 : Nat))).setCell ⟨p6, 8, none⟩ (.int .u64 (dgl (r) 6 : Nat))).setCell ⟨p6, 9, none⟩ (.int .u64 (dgl (r) 7 : Nat))) ?_ (fun _ => ?_)
      · simp [go_sem, hc, e23, e6, hzl, z6, yn, ye, y0, y1, y2, y3, y4, y5, y6, y7, gUpon]
      have hs10 := below_set10 (Below.refl (w.heap.size + 1 + 1) W) p6 q6 ng lo r
      refine ⟨hC.under hs10 (by omega), fun t => ?_⟩
      refine (tbl_imp rfl (fun _ => val_imp) (tbl_imp rfl (fun _ => val_imp) (tbl_imp rfl (fun _ => val_imp) (tbl_imp rfl (fun _ => val_imp) (tbl_imp rfl (fun _ => val_imp) (tbl_imp rfl (fun _ => val_imp) (tbl_imp rfl (fun _ => val_imp) (tbl_imp rfl (fun _ => val_imp) (tbl_imp rfl (fun _ => val_imp) (tbl_imp rfl (fun _ => val_imp) (tbl_imp rfl (fun _ => val_imp) (tbl_imp rfl (fun _ => val_imp) (tbl_imp rfl (fun _ => val_imp) (tbl_imp rfl (fun ht h => ?_) tbl_nil_imp))))))))))))))
      subst ht
      show (bif (φ 14 || true) then SlotIs.nbox (w.heap.size + 1 + 1) ng lo r else SlotIs.nbox (w.heap.size + 1 + 1) false 0 0).R _ _
      rw [Bool.or_true]
      exact ⟨p6, e6, q6, nb_set l6 ng lo r, fun i => by simpa [go_sem] using z6 i⟩
    exact kSt0
  · intro W hC
    refine gFi 11 rfl ?_
    rintro _ rfl
    refine gFi 12 rfl ?_
    rintro _ rfl
    refine gFi 13 rfl ?_
    rintro _ rfl
    refine gFi 14 rfl ?_
    rintro _ rfl
    refine gFi 15 rfl ?_
    rintro _ rfl
    refine gFi 16 rfl ?_
    rintro _ rfl
    refine gFi 17 rfl ?_
    rintro _ rfl
    refine gFi 18 rfl ?_
    rintro _ rfl
    refine gFi 19 rfl ?_
    rintro _ rfl
    refine gFi 20 rfl ?_
    rintro _ rfl
    refine gFi 21 rfl ?_
    rintro _ rfl
    refine gFi 22 rfl ?_
    rintro _ rfl
    refine gFi 23 rfl ?_
    rintro _ rfl
    refine gFi 6 rfl ?_
    rintro u6 b6
    refine gFiN rfl ?_
    refine gFi0 ?_
    simp only [List.drop_succ_cons, List.drop_zero, Act.put, List.setIfInBounds_toArray, List.set_cons_succ, List.set_cons_zero]
    obtain ⟨p6, rfl, q6, l6, z6⟩ := b6
    have HS := hide hC
    have HN := hide l6
    have HP6 := hide q6
    have HZ := hide z6
    clear hC l6 q6 z6 h2
    have hgt : (0 : Int) < (fd : Int) := by omega
    go_wp2_with fail
    refine (HPR.out _).mono ?_
    rintro e_ wl ⟨rfl, hw⟩
    subst wl
    have hwp : IntKind.i64.wrap ((P : Int) - 1) = (P : Int) - 1 := by rw [IntKind.wrap_i64]; omega
    go_upto_region 5 with fail
    refine wp_gen (fun W => RvSt a w W ∧ NB W p6 ng lo r ∧ ∀ i, W.frozen? ⟨p6, i, none⟩ = false) ⟨HS.out, HN.out, HZ.out⟩ ?_
    clear HS HN HZ hgt hwp
    rintro W5 h5
    refine wp_region_grow 13 [(29, .val (.int .i64 ((P : Int) - 1))), (30, .val (.int .i64 0)), (31, .val (.int .i64 ((P : Int) - 1))), (32, .val (.int .i64 0)), (33, .val (.pointer (some ⟨p6, 2, none⟩))), (34, .val (.pointer (some ⟨p6, 2, none⟩))), (35, .val (.int .u64 (dgl r 0 : Nat))), (36, .val (.int .i64 ((P : Int) - 1))), (37, .val (.int .i64 ((e : Nat) : Int))), (38, .val (.int .u64 ((2 : Int) ^ e))), (39, .val (.int .u64 (dgl s 0 : Nat))), (40, .val (.pointer (some ⟨p6, 2, none⟩))), (41, .val (.pointer (some ⟨p6, 2, none⟩)))]
      (fun W => RvSt a w W ∧ NB W p6 ng lo r ∧ ∀ i, W.frozen? ⟨p6, i, none⟩ = false) mixedOk (by kernel_rfl) (by kernel_rfl) (⟨h5.1.below (Below.refl _ _).drew, h5.2.1.below (Below.refl _ _).drew, fun i => ((Below.refl _ _).drew.frozen (p := ⟨p6, i, none⟩) h5.2.1.lt).trans (h5.2.2 i)⟩) (fun W W' h hb => ⟨h.1.below hb, h.2.1.below hb, fun i => (hb.frozen (p := ⟨p6, i, none⟩) h.2.1.lt).trans (h.2.2 i)⟩) ?_ ?_
    · refine gSt (gStep_run rfl (gRun_move 7 29 (.inl rfl) rfl (by decide +kernel) (fun v w h => h))) ?_
      refine gSt (gStep_run rfl ?_) ?_
      · intro ρ W hC hc hf hL
        have e29 : ρ (.tmp 29) = .int .i64 ((P : Int) - 1) := hL 29 (by decide +kernel)
        have l0 := HQ.out
        simp [go_sem, hc, hf, e29, l0]
        exact ⟨Below.refl _ _, rfl⟩
      refine gSt (gStep_run rfl (gRun_move 7 31 (.inl rfl) rfl (by decide +kernel) (fun v w h => h))) ?_
      refine gSt (gStep_run rfl ?_) ?_
      · intro ρ W hC hc hf hL
        have e31 : ρ (.tmp 31) = .int .i64 ((P : Int) - 1) := hL 31 (by decide +kernel)
        have l0 := HQ.out
        simp [go_sem, hc, hf, e31, l0]
        exact ⟨Below.refl _ _, rfl⟩
      refine gSt (gStep_run rfl ?_) ?_
      · intro ρ W hC hc hf hL
        have e6 : ρ (.tmp 6) = .pointer (some ⟨p6, 0, none⟩) := hL 6 (by decide +kernel)
        simp [go_sem, hc, hf, e6]
        exact ⟨Below.refl _ _, rfl⟩
      refine gSt (gStep_run rfl ?_) ?_
      · intro ρ W hC hc hf hL
        have e32 : ρ (.tmp 32) = .int .i64 0 := hL 32 (by decide +kernel)
        have e33 : ρ (.tmp 33) = .pointer (some ⟨p6, 2, none⟩) := hL 33 (by decide +kernel)
        simp [go_sem, hc, hf, e32, e33]
        exact ⟨Below.refl _ _, rfl⟩
      refine gSt (gStep_run rfl ?_) ?_
      · intro ρ W hC hc hf hL
        have e34 : ρ (.tmp 34) = .pointer (some ⟨p6, 2, none⟩) := hL 34 (by decide +kernel)
        have l0 := hC.2.1.x0
        simp [go_sem, hc, hf, e34, l0]
        exact ⟨Below.refl _ _, rfl⟩
      refine gSt (gStep_run rfl (gRun_move 7 36 (.inl rfl) rfl (by decide +kernel) (fun v w h => h))) ?_
      refine gSt (gStep_run rfl ?_) ?_
      · intro ρ W hC hc hf hL
        have e36 : ρ (.tmp 36) = .int .i64 ((P : Int) - 1) := hL 36 (by decide +kernel)
        have l0 := HM.out
        simp [go_sem, hc, hf, e36, l0]
        exact ⟨Below.refl _ _, rfl⟩
      refine gSt (gStep_run rfl ?_) ?_
      · intro ρ W hC hc hf hL
        have e37 : ρ (.tmp 37) = .int .i64 ((e : Nat) : Int) := hL 37 (by decide +kernel)
        have l0 := HSH.out
        have h0 : (0 : Int) ≤ (e : Int) := by omega
        have h6 := HE6.out
        simp [go_sem, hc, hf, e37, l0, h0, h6]
        exact ⟨Below.refl _ _, rfl⟩
      refine gSt (gStep_run rfl ?_) ?_
      · intro ρ W hC hc hf hL
        have e35 : ρ (.tmp 35) = .int .u64 (dgl r 0 : Nat) := hL 35 (by decide +kernel)
        have e38 : ρ (.tmp 38) = .int .u64 ((2 : Int) ^ e) := hL 38 (by decide +kernel)
        have l0 := HAD.out
        simp [go_sem, hc, hf, e35, e38, l0]
        exact ⟨Below.refl _ _, rfl⟩
      refine gSt (gStep_run rfl ?_) ?_
      · intro ρ W hC hc hf hL
        have e6 : ρ (.tmp 6) = .pointer (some ⟨p6, 0, none⟩) := hL 6 (by decide +kernel)
        simp [go_sem, hc, hf, e6]
        exact ⟨Below.refl _ _, rfl⟩
      refine gSt (gStep_run rfl ?_) ?_
      · intro ρ W hC hc hf hL
        have e30 : ρ (.tmp 30) = .int .i64 0 := hL 30 (by decide +kernel)
        have e40 : ρ (.tmp 40) = .pointer (some ⟨p6, 2, none⟩) := hL 40 (by decide +kernel)
        simp [go_sem, hc, hf, e30, e40]
        exact ⟨Below.refl _ _, rfl⟩
      exact gSt0
    · intro W hC
      refine gFi 29 rfl ?_
      rintro _ rfl
      refine gFi 30 rfl ?_
      rintro _ rfl
      refine gFi 31 rfl ?_
      rintro _ rfl
      refine gFi 32 rfl ?_
      rintro _ rfl
      refine gFi 33 rfl ?_
      rintro _ rfl
      refine gFi 34 rfl ?_
      rintro _ rfl
      refine gFi 35 rfl ?_
      rintro _ rfl
      refine gFi 36 rfl ?_
      rintro _ rfl
      refine gFi 37 rfl ?_
      rintro _ rfl
      refine gFi 38 rfl ?_
      rintro _ rfl
      refine gFi 39 rfl ?_
      rintro _ rfl
      refine gFi 40 rfl ?_
      rintro _ rfl
      refine gFi 41 rfl ?_
      rintro _ rfl
      refine gFi0 ?_
      simp only [List.drop_succ_cons, List.drop_zero, Act.put, List.setIfInBounds_toArray, List.set_cons_succ, List.set_cons_zero]
      have l0 := hC.2.1.x0
      have hf6 := hC.2.2
      have hl6 := hC.2.1.lt
      have HN0 := hide hC.2.1
      have HR0 := hide hC.1
      have HS2 := hide (show RvSt a w (W.setCell ⟨p6, 2, none⟩ (.int .u64 (dgl s 0 : Nat))) ∧ NB (W.setCell ⟨p6, 2, none⟩ (.int .u64 (dgl s 0 : Nat))) p6 ng lo s ∧ ∀ i, (W.setCell ⟨p6, 2, none⟩ (.int .u64 (dgl s 0 : Nat))).frozen? ⟨p6, i, none⟩ = false from
        ⟨hC.1.under ((Below.refl (w.heap.size + 1 + 1) W).setCell (p := ⟨p6, 2, none⟩) HP6.out _) (by omega), nb_setx0 hC.2.1 HOT.out, fun i => by simpa [go_sem] using hC.2.2 i⟩)
      clear hC h5
      go_upto_region 6 with fail
      refine wp_gen (fun W => RvSt a w W ∧ NB W p6 ng lo s ∧ ∀ i, W.frozen? ⟨p6, i, none⟩ = false) HS2.out ?_
      clear HS2 HN0 HR0 l0 hf6 hl6
      rintro W6 h6
      have le := h6.2.1.e
      have hf6 := h6.2.2
      have hl6 := h6.2.1.lt
      have hw : IntKind.i64.wrap (lo + (fd : Int)) = lo + (fd : Int) := by rw [IntKind.wrap_i64]; have := HLO.out; omega
      have hw2 : IntKind.i64.wrap (lo + (fd : Int) - 1) = lo + (fd : Int) - 1 := by rw [IntKind.wrap_i64]; have := HLO.out; omega
      have HS3 := hide (show RvSt a w (W6.setCell ⟨p6, 1, none⟩ (.int .i64 (lo + (fd : Int) - 1))) ∧ NB (W6.setCell ⟨p6, 1, none⟩ (.int .i64 (lo + (fd : Int) - 1))) p6 ng (lo + (fd : Int) - 1) s from
        ⟨h6.1.under ((Below.refl (w.heap.size + 1 + 1) W6).setCell (p := ⟨p6, 1, none⟩) HP6.out _) (by omega), nb_sete h6.2.1 _⟩)
      clear h6
      go_upto_region 7 with fail
      refine wp_gen (fun W => RvSt a w W ∧ NB W p6 ng (lo + (fd : Int) - 1) s) HS3.out ?_
      clear HS3 le hf6 hl6 hw hw2
      rintro W7 ⟨g1, g2⟩
      have HS := hide g1
      have HN := hide g2
      clear g1 g2
      have hrf := HS.out.fr
      have rn := HS.out.r.n
      have re := HS.out.r.e
      have r0 := HS.out.r.x0
      have r1 := HS.out.r.x1
      have r2 := HS.out.r.x2
      have r3 := HS.out.r.x3
      have r4 := HS.out.r.x4
      have r5 := HS.out.r.x5
      have r6 := HS.out.r.x6
      have r7 := HS.out.r.x7
      have hrl := HS.out.r.lt
      have ln := HN.out.n
      have le := HN.out.e
      have l0 := HN.out.x0
      have l1 := HN.out.x1
      have l2 := HN.out.x2
      have l3 := HN.out.x3
      have l4 := HN.out.x4
      have l5 := HN.out.x5
      have l6 := HN.out.x6
      have l7 := HN.out.x7
      have HB := hide HS.out.bel
      clear HS HN
      go_wp2
      exact bodyPost_ret (v := .agg #[.bool (ng), .int .i64 (lo + (fd : Int) - 1), .int .u64 (dgl (s) 0 : Nat), .int .u64 (dgl (s) 1 : Nat), .int .u64 (dgl (s) 2 : Nat), .int .u64 (dgl (s) 3 : Nat), .int .u64 (dgl (s) 4 : Nat), .int .u64 (dgl (s) 5 : Nat), .int .u64 (dgl (s) 6 : Nat), .int .u64 (dgl (s) 7 : Nat)]) (by simp [results, Tryd.results58, go_sem, hrl, rn, re, r0, r1, r2, r3, r4, r5, r6, r7]) rfl ⟨rfl, ((((((((((HB.out.setCell (p := ⟨w.heap.size + 1, 0, none⟩) (Nat.le_succ _) _).setCell (p := ⟨w.heap.size + 1, 1, none⟩) (Nat.le_succ _) _).setCell (p := ⟨w.heap.size + 1, 2, none⟩) (Nat.le_succ _) _).setCell (p := ⟨w.heap.size + 1, 3, none⟩) (Nat.le_succ _) _).setCell (p := ⟨w.heap.size + 1, 4, none⟩) (Nat.le_succ _) _).setCell (p := ⟨w.heap.size + 1, 5, none⟩) (Nat.le_succ _) _).setCell (p := ⟨w.heap.size + 1, 6, none⟩) (Nat.le_succ _) _).setCell (p := ⟨w.heap.size + 1, 7, none⟩) (Nat.le_succ _) _).setCell (p := ⟨w.heap.size + 1, 8, none⟩) (Nat.le_succ _) _).setCell (p := ⟨w.heap.size + 1, 9, none⟩) (Nat.le_succ _) _)⟩
      

set_option maxHeartbeats 4000000 in
theorem rval_H (f em lo : Int) (a r s fd P e : Nat) (ng : Bool)
    (HFD : Hid (∀ w, Calls Tryd.prog 75 #[.int .i64 f, .agg #[.int .u64 (dgl (a) 1 : Nat), .int .u64 (dgl (a) 0 : Nat)]] w fun e w' => e = .returned (.int .i64 (fd : Nat)) ∧ Below w.heap.size w w'))
    (HNG : Hid (∀ w, Calls Tryd.prog 46 #[.int .i64 f, .agg #[.int .u64 (dgl (a) 1 : Nat), .int .u64 (dgl (a) 0 : Nat)]] w fun e w' => e = .returned (.bool ng) ∧ Below w.heap.size w w'))
    (HFR : Hid (∀ w, Calls Tryd.prog 76 #[.int .i64 f, .agg #[.int .u64 (dgl (a) 1 : Nat), .int .u64 (dgl (a) 0 : Nat)]] w fun e w' => e = .returned (.agg #[.int .u64 (dgl (r) 0 : Nat), .int .u64 (dgl (r) 1 : Nat), .int .u64 (dgl (r) 2 : Nat), .int .u64 (dgl (r) 3 : Nat), .int .u64 (dgl (r) 4 : Nat), .int .u64 (dgl (r) 5 : Nat), .int .u64 (dgl (r) 6 : Nat), .int .u64 (dgl (r) 7 : Nat)]) ∧ Below w.heap.size w w'))
    (HEM : Hid (∀ w, Calls Tryd.prog 116 #[.int .i64 f] w fun e w' => e = .returned (.int .i64 em) ∧ w' = w))
    (HPR : Hid (∀ w, Calls Tryd.prog 34 #[.int .i64 f] w fun e w' => e = .returned (.int .i64 (P : Nat)) ∧ w' = w))
    (hem : -20000 ≤ em ∧ em ≤ 0) (hP : 2 ≤ P ∧ P ≤ 128) (HLO : Hid (em - (P : Int) + 1 = lo))
    (hfd : 1 ≤ fd ∧ fd ≤ 40000) (HQ : Hid (((P : Int) - 1).tdiv 64 = 1)) (HM : Hid (((P : Int) - 1).tmod 64 = ((e : Nat) : Int))) (HSH : Hid (IntKind.u64.wrap ((2 : Int) ^ e) = (2 : Int) ^ e)) (HE6 : Hid ((e : Int) < 64)) (HAD : Hid (IntKind.u64.wrap (((dgl r 1 : Nat) : Int) + (2 : Int) ^ e) = ((dgl s 1 : Nat) : Int))) (HOT : Hid (∀ j, j ≠ 1 → dgl s j = dgl r j)) (w : World) :
    Calls Tryd.prog 58 #[.int .i64 f, .agg #[.int .u64 (dgl (a) 1 : Nat), .int .u64 (dgl (a) 0 : Nat)]] w fun e w' => e = .returned (.agg #[.bool (ng), .int .i64 (lo + (fd : Int) - 1), .int .u64 (dgl (s) 0 : Nat), .int .u64 (dgl (s) 1 : Nat), .int .u64 (dgl (s) 2 : Nat), .int .u64 (dgl (s) 3 : Nat), .int .u64 (dgl (s) 4 : Nat), .int .u64 (dgl (s) 5 : Nat), .int .u64 (dgl (s) 6 : Nat), .int .u64 (dgl (s) 7 : Nat)]) ∧ Below w.heap.size w w' := by
  have HS := hide (rvSt_start a w)
  go_enter Tryd.func58, Tryd.ntmps58
  go_upto_region 1 with fail
  refine wp_gen (fun W => RvSt a w W) HS.out ?_
  clear HS
  rintro W1 g1
  have HS := hide g1
  have l0 := g1.wa.h
  have l1 := g1.wa.l
  clear g1
  go_wp2_with fail
  refine (HFD.out _).mono ?_
  rintro e_ w1 ⟨rfl, hb1⟩
  replace HS := hide (HS.out.below hb1)
  clear hb1 l0 l1
  go_upto_region 2 with fail
  refine wp_gen (fun W => RvSt a w W) HS.out ?_
  clear HS
  rintro W2 h2
  refine wp_region_storeK 15 [14] [11, 12, 13, 14, 15, 16, 17, 18, 19, 20, 21, 22, 23, 6] (fun bs => [(11, .val (.int .i64 f)), (12, .val (.agg #[.int .u64 (dgl (a) 1 : Nat), .int .u64 (dgl (a) 0 : Nat)])), (13, .val (.bool ng)), (14, .val (.int .i64 f)), (15, .val (.agg #[.int .u64 (dgl (a) 1 : Nat), .int .u64 (dgl (a) 0 : Nat)])), (16, .val (.agg #[.int .u64 (dgl (r) 0 : Nat), .int .u64 (dgl (r) 1 : Nat), .int .u64 (dgl (r) 2 : Nat), .int .u64 (dgl (r) 3 : Nat), .int .u64 (dgl (r) 4 : Nat), .int .u64 (dgl (r) 5 : Nat), .int .u64 (dgl (r) 6 : Nat), .int .u64 (dgl (r) 7 : Nat)])), (17, .val (.int .i64 f)), (18, .val (.int .i64 em)), (19, .val (.int .i64 f)), (20, .val (.int .i64 (P : Nat))), (21, .val (.int .i64 (em - (P : Int)))), (22, .val (.int .i64 lo)), (23, .val (.agg #[.bool (ng), .int .i64 (lo), .int .u64 (dgl (r) 0 : Nat), .int .u64 (dgl (r) 1 : Nat), .int .u64 (dgl (r) 2 : Nat), .int .u64 (dgl (r) 3 : Nat), .int .u64 (dgl (r) 4 : Nat), .int .u64 (dgl (r) 5 : Nat), .int .u64 (dgl (r) 6 : Nat), .int .u64 (dgl (r) 7 : Nat)])), (6, bif bs.headD false then SlotIs.nbox (w.heap.size + 1 + 1) ng lo r else SlotIs.nbox (w.heap.size + 1 + 1) false 0 0)])
    (fun _ W => RvSt a w W) (fun bs => rfl) mixedOk (by kernel_rfl) (by kernel_rfl) (by kernel_rfl) (h2.below (Below.refl _ _).drew) (fun bs W W' h hb => h.below hb) ?_ ?_
  · refine kSt rfl (fun φ hφ => gStep_run rfl (gRun_move 0 11 (.inl rfl) rfl (by decide +kernel) (fun v w h => h))) ?_
    refine kSt rfl (fun φ hφ => gStep_run rfl ?_) ?_
    · intro ρ W hC hc hf hL
      have e3 : ρ (.tmp 3) = .pointer (some ⟨w.heap.size, 0, none⟩) := hL 3 (by decide +kernel)
      have l0 := hC.wa.h
      have l1 := hC.wa.l
      simp [go_sem, hc, hf, e3, l0, l1]
      exact ⟨Below.refl _ _, rfl⟩
    refine kSt rfl (fun φ hφ => gStep_run rfl ?_) ?_
    · intro ρ W hC hc hf hL
      have e11 : ρ (.tmp 11) = .int .i64 f := hL 11 (by decide +kernel)
      have e12 : ρ (.tmp 12) = .agg #[.int .u64 (dgl (a) 1 : Nat), .int .u64 (dgl (a) 0 : Nat)] := hL 12 (by decide +kernel)
      simp [go_sem, hc, hf, e11, e12]
      refine (HNG.out W).mono ?_
      rintro e w' ⟨rfl, hb⟩
      exact ⟨_, rfl, by first | exact hb | (subst hb; exact Below.refl _ _), rfl⟩
    refine kSt rfl (fun φ hφ => gStep_run rfl (gRun_move 0 14 (.inl rfl) rfl (by decide +kernel) (fun v w h => h))) ?_
    refine kSt rfl (fun φ hφ => gStep_run rfl ?_) ?_
    · intro ρ W hC hc hf hL
      have e3 : ρ (.tmp 3) = .pointer (some ⟨w.heap.size, 0, none⟩) := hL 3 (by decide +kernel)
      have l0 := hC.wa.h
      have l1 := hC.wa.l
      simp [go_sem, hc, hf, e3, l0, l1]
      exact ⟨Below.refl _ _, rfl⟩
    refine kSt rfl (fun φ hφ => gStep_run rfl ?_) ?_
    · intro ρ W hC hc hf hL
      have e14 : ρ (.tmp 14) = .int .i64 f := hL 14 (by decide +kernel)
      have e15 : ρ (.tmp 15) = .agg #[.int .u64 (dgl (a) 1 : Nat), .int .u64 (dgl (a) 0 : Nat)] := hL 15 (by decide +kernel)
      simp [go_sem, hc, hf, e14, e15]
      refine (HFR.out W).mono ?_
      rintro e w' ⟨rfl, hb⟩
      exact ⟨_, rfl, by first | exact hb | (subst hb; exact Below.refl _ _), rfl⟩
    refine kSt rfl (fun φ hφ => gStep_run rfl (gRun_move 0 17 (.inl rfl) rfl (by decide +kernel) (fun v w h => h))) ?_
    refine kSt rfl (fun φ hφ => gStep_run rfl ?_) ?_
    · intro ρ W hC hc hf hL
      have e17 : ρ (.tmp 17) = .int .i64 f := hL 17 (by decide +kernel)
      simp [go_sem, hc, hf, e17]
      refine (HEM.out W).mono ?_
      rintro e w' ⟨rfl, hb⟩
      exact ⟨_, rfl, by first | exact hb | (subst hb; exact Below.refl _ _), rfl⟩
    refine kSt rfl (fun φ hφ => gStep_run rfl (gRun_move 0 19 (.inl rfl) rfl (by decide +kernel) (fun v w h => h))) ?_
    refine kSt rfl (fun φ hφ => gStep_run rfl ?_) ?_
    · intro ρ W hC hc hf hL
      have e19 : ρ (.tmp 19) = .int .i64 f := hL 19 (by decide +kernel)
      simp [go_sem, hc, hf, e19]
      refine (HPR.out W).mono ?_
      rintro e w' ⟨rfl, hb⟩
      exact ⟨_, rfl, by first | exact hb | (subst hb; exact Below.refl _ _), rfl⟩
    refine kSt rfl (fun φ hφ => gStep_run rfl ?_) ?_
    · intro ρ W hC hc hf hL
      have e18 : ρ (.tmp 18) = .int .i64 em := hL 18 (by decide +kernel)
      have e20 : ρ (.tmp 20) = .int .i64 (P : Nat) := hL 20 (by decide +kernel)
      have l0 : IntKind.i64.wrap (em - (P : Int)) = em - (P : Int) := by rw [IntKind.wrap_i64]; omega
      simp [go_sem, hc, hf, e18, e20, l0]
      exact ⟨Below.refl _ _, rfl⟩
    refine kSt rfl (fun φ hφ => gStep_run rfl ?_) ?_
    · intro ρ W hC hc hf hL
      have e21 : ρ (.tmp 21) = .int .i64 (em - (P : Int)) := hL 21 (by decide +kernel)
      have l1 : IntKind.i64.wrap (em - (P : Int) + 1) = em - (P : Int) + 1 := by rw [IntKind.wrap_i64]; omega
      have l0 := HLO.out
      rw [l0] at l1
      simp [go_sem, hc, hf, e21, l0, l1]
      exact ⟨Below.refl _ _, rfl⟩
    refine kSt rfl (fun φ hφ => gStep_run rfl ?_) ?_
    · intro ρ W hC hc hf hL
      have e13 : ρ (.tmp 13) = .bool ng := hL 13 (by decide +kernel)
      have e16 : ρ (.tmp 16) = .agg #[.int .u64 (dgl (r) 0 : Nat), .int .u64 (dgl (r) 1 : Nat), .int .u64 (dgl (r) 2 : Nat), .int .u64 (dgl (r) 3 : Nat), .int .u64 (dgl (r) 4 : Nat), .int .u64 (dgl (r) 5 : Nat), .int .u64 (dgl (r) 6 : Nat), .int .u64 (dgl (r) 7 : Nat)] := hL 16 (by decide +kernel)
      have e22 : ρ (.tmp 22) = .int .i64 lo := hL 22 (by decide +kernel)
      simp [go_sem, hc, hf, e13, e16, e22]
      exact ⟨Below.refl _ _, rfl⟩
    refine kSt rfl (fun φ hφ => gStep_run rfl ?_) ?_
    · intro ρ W hC hc hf hL
      have hφ0 : φ 14 = false := hφ 14 (by simp) (by kernel_rfl)
      simp [go_sem, hc, hf]
      refine ⟨below_allocs _ _, ?_⟩
      show (bif φ 14 then SlotIs.nbox (w.heap.size + 1 + 1) ng lo r else SlotIs.nbox (w.heap.size + 1 + 1) false 0 0).R _ _
      rw [hφ0]
      exact ⟨_, rfl, hC.r.lt, nb_zero _ _, fun i => by simp [go_sem]⟩
    refine kStS rfl ⟨rfl, rfl, ?_⟩ ?_
    · intro φ ρ W hφ hC hc hL
      have b6 := hL 6 (by decide +kernel)
      have e23 : ρ (.tmp 23) = .agg #[.bool (ng), .int .i64 (lo), .int .u64 (dgl (r) 0 : Nat), .int .u64 (dgl (r) 1 : Nat), .int .u64 (dgl (r) 2 : Nat), .int .u64 (dgl (r) 3 : Nat), .int .u64 (dgl (r) 4 : Nat), .int .u64 (dgl (r) 5 : Nat), .int .u64 (dgl (r) 6 : Nat), .int .u64 (dgl (r) 7 : Nat)] := hL 23 (by decide +kernel)
      have b6 : (bif φ 14 then SlotIs.nbox (w.heap.size + 1 + 1) ng lo r else SlotIs.nbox (w.heap.size + 1 + 1) false 0 0).R (ρ (.tmp 6)) W := hL 6 (by decide +kernel)
      rw [hφ] at b6
      obtain ⟨p6, e6, q6, l6, z6⟩ := b6
      have yn := l6.n
      have ye := l6.e
      have y0 := l6.x0
      have y1 := l6.x1
      have y2 := l6.x2
      have y3 := l6.x3
      have y4 := l6.x4
      have y5 := l6.x5
      have y6 := l6.x6
      have y7 := l6.x7
      have hzl := l6.lt
      refine gUpon_of ((((((((((W.setCell ⟨p6, 0, none⟩ (.bool (ng))).setCell ⟨p6, 1, none⟩ (.int .i64 (lo))).setCell ⟨p6, 2, none⟩ (.int .u64 (dgl (r) 0 : Nat))).setCell ⟨p6, 3, none⟩ (.int .u64 (dgl (r) 1 : Nat))).setCell ⟨p6, 4, none⟩ (.int .u64 (dgl (r) 2 : Nat))).setCell ⟨p6, 5, none⟩ (.int .u64 (dgl (r) 3 : Nat))).setCell ⟨p6, 6, none⟩ (.int .u64 (dgl (r) 4 : Nat))).setCell ⟨p6, 7, none⟩ (.int .u64 (dgl (r) 5 : Nat))).setCell ⟨p6, 8, none⟩ (.int .u64 (dgl (r) 6 : Nat))).setCell ⟨p6, 9, none⟩ (.int .u64 (dgl (r) 7 : Nat))) ?_ (fun _ => ?_)
      · simp [go_sem, hc, e23, e6, hzl, z6, yn, ye, y0, y1, y2, y3, y4, y5, y6, y7, gUpon]
      have hs10 := below_set10 (Below.refl (w.heap.size + 1 + 1) W) p6 q6 ng lo r
      refine ⟨hC.under hs10 (by omega), fun t => ?_⟩
      refine (tbl_imp rfl (fun _ => val_imp) (tbl_imp rfl (fun _ => val_imp) (tbl_imp rfl (fun _ => val_imp) (tbl_imp rfl (fun _ => val_imp) (tbl_imp rfl (fun _ => val_imp) (tbl_imp rfl (fun _ => val_imp) (tbl_imp rfl (fun _ => val_imp) (tbl_imp rfl (fun _ => val_imp) (tbl_imp rfl (fun _ => val_imp) (tbl_imp rfl (fun _ => val_imp) (tbl_imp rfl (fun _ => val_imp) (tbl_imp rfl (fun _ => val_imp) (tbl_imp rfl (fun _ => val_imp) (tbl_imp rfl (fun ht h => ?_) tbl_nil_imp))))))))))))))
      subst ht
      show (bif (φ 14 || true) then SlotIs.nbox (w.heap.size + 1 + 1) ng lo r else SlotIs.nbox (w.heap.size + 1 + 1) false 0 0).R _ _
      rw [Bool.or_true]
      exact ⟨p6, e6, q6, nb_set l6 ng lo r, fun i => by simpa [go_sem] using z6 i⟩
    exact kSt0
  · intro W hC
    refine gFi 11 rfl ?_
    rintro _ rfl
    refine gFi 12 rfl ?_
    rintro _ rfl
    refine gFi 13 rfl ?_
    rintro _ rfl
    refine gFi 14 rfl ?_
    rintro _ rfl
    refine gFi 15 rfl ?_
    rintro _ rfl
    refine gFi 16 rfl ?_
    rintro _ rfl
    refine gFi 17 rfl ?_
    rintro _ rfl
    refine gFi 18 rfl ?_
    rintro _ rfl
    refine gFi 19 rfl ?_
    rintro _ rfl
    refine gFi 20 rfl ?_
    rintro _ rfl
    refine gFi 21 rfl ?_
    rintro _ rfl
    refine gFi 22 rfl ?_
    rintro _ rfl
    refine gFi 23 rfl ?_
    rintro _ rfl
    refine gFi 6 rfl ?_
    rintro u6 b6
    refine gFiN rfl ?_
    refine gFi0 ?_
    simp only [List.drop_succ_cons, List.drop_zero, Act.put, List.setIfInBounds_toArray, List.set_cons_succ, List.set_cons_zero]
    obtain ⟨p6, rfl, q6, l6, z6⟩ := b6
    have HS := hide hC
    have HN := hide l6
    have HP6 := hide q6
    have HZ := hide z6
    clear hC l6 q6 z6 h2
    have hgt : (0 : Int) < (fd : Int) := by omega
    go_wp2_with fail
    refine (HPR.out _).mono ?_
    rintro e_ wl ⟨rfl, hw⟩
    subst wl
    have hwp : IntKind.i64.wrap ((P : Int) - 1) = (P : Int) - 1 := by rw [IntKind.wrap_i64]; omega
    go_upto_region 5 with fail
    refine wp_gen (fun W => RvSt a w W ∧ NB W p6 ng lo r ∧ ∀ i, W.frozen? ⟨p6, i, none⟩ = false) ⟨HS.out, HN.out, HZ.out⟩ ?_
    clear HS HN HZ hgt hwp
    rintro W5 h5
    refine wp_region_grow 13 [(29, .val (.int .i64 ((P : Int) - 1))), (30, .val (.int .i64 1)), (31, .val (.int .i64 ((P : Int) - 1))), (32, .val (.int .i64 1)), (33, .val (.pointer (some ⟨p6, 2, none⟩))), (34, .val (.pointer (some ⟨p6, 3, none⟩))), (35, .val (.int .u64 (dgl r 1 : Nat))), (36, .val (.int .i64 ((P : Int) - 1))), (37, .val (.int .i64 ((e : Nat) : Int))), (38, .val (.int .u64 ((2 : Int) ^ e))), (39, .val (.int .u64 (dgl s 1 : Nat))), (40, .val (.pointer (some ⟨p6, 2, none⟩))), (41, .val (.pointer (some ⟨p6, 3, none⟩)))]
      (fun W => RvSt a w W ∧ NB W p6 ng lo r ∧ ∀ i, W.frozen? ⟨p6, i, none⟩ = false) mixedOk (by kernel_rfl) (by kernel_rfl) (⟨h5.1.below (Below.refl _ _).drew, h5.2.1.below (Below.refl _ _).drew, fun i => ((Below.refl _ _).drew.frozen (p := ⟨p6, i, none⟩) h5.2.1.lt).trans (h5.2.2 i)⟩) (fun W W' h hb => ⟨h.1.below hb, h.2.1.below hb, fun i => (hb.frozen (p := ⟨p6, i, none⟩) h.2.1.lt).trans (h.2.2 i)⟩) ?_ ?_
    · refine gSt (gStep_run rfl (gRun_move 7 29 (.inl rfl) rfl (by decide +kernel) (fun v w h => h))) ?_
      refine gSt (gStep_run rfl ?_) ?_
      · intro ρ W hC hc hf hL
        have e29 : ρ (.tmp 29) = .int .i64 ((P : Int) - 1) := hL 29 (by decide +kernel)
        have l0 := HQ.out
        simp [go_sem, hc, hf, e29, l0]
        exact ⟨Below.refl _ _, rfl⟩
      refine gSt (gStep_run rfl (gRun_move 7 31 (.inl rfl) rfl (by decide +kernel) (fun v w h => h))) ?_
      refine gSt (gStep_run rfl ?_) ?_
      · intro ρ W hC hc hf hL
        have e31 : ρ (.tmp 31) = .int .i64 ((P : Int) - 1) := hL 31 (by decide +kernel)
        have l0 := HQ.out
        simp [go_sem, hc, hf, e31, l0]
        exact ⟨Below.refl _ _, rfl⟩
      refine gSt (gStep_run rfl ?_) ?_
      · intro ρ W hC hc hf hL
        have e6 : ρ (.tmp 6) = .pointer (some ⟨p6, 0, none⟩) := hL 6 (by decide +kernel)
        simp [go_sem, hc, hf, e6]
        exact ⟨Below.refl _ _, rfl⟩
      refine gSt (gStep_run rfl ?_) ?_
      · intro ρ W hC hc hf hL
        have e32 : ρ (.tmp 32) = .int .i64 1 := hL 32 (by decide +kernel)
        have e33 : ρ (.tmp 33) = .pointer (some ⟨p6, 2, none⟩) := hL 33 (by decide +kernel)
        simp [go_sem, hc, hf, e32, e33]
        exact ⟨Below.refl _ _, rfl⟩
      refine gSt (gStep_run rfl ?_) ?_
      · intro ρ W hC hc hf hL
        have e34 : ρ (.tmp 34) = .pointer (some ⟨p6, 3, none⟩) := hL 34 (by decide +kernel)
        have l0 := hC.2.1.x1
        simp [go_sem, hc, hf, e34, l0]
        exact ⟨Below.refl _ _, rfl⟩
      refine gSt (gStep_run rfl (gRun_move 7 36 (.inl rfl) rfl (by decide +kernel) (fun v w h => h))) ?_
      refine gSt (gStep_run rfl ?_) ?_
      · intro ρ W hC hc hf hL
        have e36 : ρ (.tmp 36) = .int .i64 ((P : Int) - 1) := hL 36 (by decide +kernel)
        have l0 := HM.out
        simp [go_sem, hc, hf, e36, l0]
        exact ⟨Below.refl _ _, rfl⟩
      refine gSt (gStep_run rfl ?_) ?_
      · intro ρ W hC hc hf hL
        have e37 : ρ (.tmp 37) = .int .i64 ((e : Nat) : Int) := hL 37 (by decide +kernel)
        have l0 := HSH.out
        have h0 : (0 : Int) ≤ (e : Int) := by omega
        have h6 := HE6.out
        simp [go_sem, hc, hf, e37, l0, h0, h6]
        exact ⟨Below.refl _ _, rfl⟩
      refine gSt (gStep_run rfl ?_) ?_
      · intro ρ W hC hc hf hL
        have e35 : ρ (.tmp 35) = .int .u64 (dgl r 1 : Nat) := hL 35 (by decide +kernel)
        have e38 : ρ (.tmp 38) = .int .u64 ((2 : Int) ^ e) := hL 38 (by decide +kernel)
        have l0 := HAD.out
        simp [go_sem, hc, hf, e35, e38, l0]
        exact ⟨Below.refl _ _, rfl⟩
      refine gSt (gStep_run rfl ?_) ?_
      · intro ρ W hC hc hf hL
        have e6 : ρ (.tmp 6) = .pointer (some ⟨p6, 0, none⟩) := hL 6 (by decide +kernel)
        simp [go_sem, hc, hf, e6]
        exact ⟨Below.refl _ _, rfl⟩
      refine gSt (gStep_run rfl ?_) ?_
      · intro ρ W hC hc hf hL
        have e30 : ρ (.tmp 30) = .int .i64 1 := hL 30 (by decide +kernel)
        have e40 : ρ (.tmp 40) = .pointer (some ⟨p6, 2, none⟩) := hL 40 (by decide +kernel)
        simp [go_sem, hc, hf, e30, e40]
        exact ⟨Below.refl _ _, rfl⟩
      exact gSt0
    · intro W hC
      refine gFi 29 rfl ?_
      rintro _ rfl
      refine gFi 30 rfl ?_
      rintro _ rfl
      refine gFi 31 rfl ?_
      rintro _ rfl
      refine gFi 32 rfl ?_
      rintro _ rfl
      refine gFi 33 rfl ?_
      rintro _ rfl
      refine gFi 34 rfl ?_
      rintro _ rfl
      refine gFi 35 rfl ?_
      rintro _ rfl
      refine gFi 36 rfl ?_
      rintro _ rfl
      refine gFi 37 rfl ?_
      rintro _ rfl
      refine gFi 38 rfl ?_
      rintro _ rfl
      refine gFi 39 rfl ?_
      rintro _ rfl
      refine gFi 40 rfl ?_
      rintro _ rfl
      refine gFi 41 rfl ?_
      rintro _ rfl
      refine gFi0 ?_
      simp only [List.drop_succ_cons, List.drop_zero, Act.put, List.setIfInBounds_toArray, List.set_cons_succ, List.set_cons_zero]
      have l0 := hC.2.1.x1
      have hf6 := hC.2.2
      have hl6 := hC.2.1.lt
      have HN0 := hide hC.2.1
      have HR0 := hide hC.1
      have HS2 := hide (show RvSt a w (W.setCell ⟨p6, 3, none⟩ (.int .u64 (dgl s 1 : Nat))) ∧ NB (W.setCell ⟨p6, 3, none⟩ (.int .u64 (dgl s 1 : Nat))) p6 ng lo s ∧ ∀ i, (W.setCell ⟨p6, 3, none⟩ (.int .u64 (dgl s 1 : Nat))).frozen? ⟨p6, i, none⟩ = false from
        ⟨hC.1.under ((Below.refl (w.heap.size + 1 + 1) W).setCell (p := ⟨p6, 3, none⟩) HP6.out _) (by omega), nb_setx1 hC.2.1 HOT.out, fun i => by simpa [go_sem] using hC.2.2 i⟩)
      clear hC h5
      go_upto_region 6 with fail
      refine wp_gen (fun W => RvSt a w W ∧ NB W p6 ng lo s ∧ ∀ i, W.frozen? ⟨p6, i, none⟩ = false) HS2.out ?_
      clear HS2 HN0 HR0 l0 hf6 hl6
      rintro W6 h6
      have le := h6.2.1.e
      have hf6 := h6.2.2
      have hl6 := h6.2.1.lt
      have hw : IntKind.i64.wrap (lo + (fd : Int)) = lo + (fd : Int) := by rw [IntKind.wrap_i64]; have := HLO.out; omega
      have hw2 : IntKind.i64.wrap (lo + (fd : Int) - 1) = lo + (fd : Int) - 1 := by rw [IntKind.wrap_i64]; have := HLO.out; omega
      have HS3 := hide (show RvSt a w (W6.setCell ⟨p6, 1, none⟩ (.int .i64 (lo + (fd : Int) - 1))) ∧ NB (W6.setCell ⟨p6, 1, none⟩ (.int .i64 (lo + (fd : Int) - 1))) p6 ng (lo + (fd : Int) - 1) s from
        ⟨h6.1.under ((Below.refl (w.heap.size + 1 + 1) W6).setCell (p := ⟨p6, 1, none⟩) HP6.out _) (by omega), nb_sete h6.2.1 _⟩)
      clear h6
      go_upto_region 7 with fail
      refine wp_gen (fun W => RvSt a w W ∧ NB W p6 ng (lo + (fd : Int) - 1) s) HS3.out ?_
      clear HS3 le hf6 hl6 hw hw2
      rintro W7 ⟨g1, g2⟩
      have HS := hide g1
      have HN := hide g2
      clear g1 g2
      have hrf := HS.out.fr
      have rn := HS.out.r.n
      have re := HS.out.r.e
      have r0 := HS.out.r.x0
      have r1 := HS.out.r.x1
      have r2 := HS.out.r.x2
      have r3 := HS.out.r.x3
      have r4 := HS.out.r.x4
      have r5 := HS.out.r.x5
      have r6 := HS.out.r.x6
      have r7 := HS.out.r.x7
      have hrl := HS.out.r.lt
      have ln := HN.out.n
      have le := HN.out.e
      have l0 := HN.out.x0
      have l1 := HN.out.x1
      have l2 := HN.out.x2
      have l3 := HN.out.x3
      have l4 := HN.out.x4
      have l5 := HN.out.x5
      have l6 := HN.out.x6
      have l7 := HN.out.x7
      have HB := hide HS.out.bel
      clear HS HN
      go_wp2
      exact bodyPost_ret (v := .agg #[.bool (ng), .int .i64 (lo + (fd : Int) - 1), .int .u64 (dgl (s) 0 : Nat), .int .u64 (dgl (s) 1 : Nat), .int .u64 (dgl (s) 2 : Nat), .int .u64 (dgl (s) 3 : Nat), .int .u64 (dgl (s) 4 : Nat), .int .u64 (dgl (s) 5 : Nat), .int .u64 (dgl (s) 6 : Nat), .int .u64 (dgl (s) 7 : Nat)]) (by simp [results, Tryd.results58, go_sem, hrl, rn, re, r0, r1, r2, r3, r4, r5, r6, r7]) rfl ⟨rfl, ((((((((((HB.out.setCell (p := ⟨w.heap.size + 1, 0, none⟩) (Nat.le_succ _) _).setCell (p := ⟨w.heap.size + 1, 1, none⟩) (Nat.le_succ _) _).setCell (p := ⟨w.heap.size + 1, 2, none⟩) (Nat.le_succ _) _).setCell (p := ⟨w.heap.size + 1, 3, none⟩) (Nat.le_succ _) _).setCell (p := ⟨w.heap.size + 1, 4, none⟩) (Nat.le_succ _) _).setCell (p := ⟨w.heap.size + 1, 5, none⟩) (Nat.le_succ _) _).setCell (p := ⟨w.heap.size + 1, 6, none⟩) (Nat.le_succ _) _).setCell (p := ⟨w.heap.size + 1, 7, none⟩) (Nat.le_succ _) _).setCell (p := ⟨w.heap.size + 1, 8, none⟩) (Nat.le_succ _) _).setCell (p := ⟨w.heap.size + 1, 9, none⟩) (Nat.le_succ _) _)⟩
      

end Go.Proofs.YtpcjdllijkjdkaaDoor

/- Contracts: the document's Value, at any format. -/
set_option linter.unusedVariables false
set_option linter.unusedSimpArgs false
set_option maxRecDepth 8000
namespace Go.Proofs.YtpcjdllijkjdkaaDoor
open Go.RowKit Plain

def enU (f : Int) : Int := tU f (-14) (-126) (-1022) (-16382) 0
theorem emin_u (f : Int) (h : 1 ≤ f ∧ f ≤ 4) (w : World) : Calls Tryd.prog 116 #[.int .i64 f] w fun e w' => e = .returned (.int .i64 (enU f)) ∧ w' = w := by
  rcases f_cases f with rfl | rfl | rfl | rfl | h0
  · exact emin_1 w
  · exact emin_2 w
  · exact emin_3 w
  · exact emin_4 w
  · omega
theorem prec_u (f : Int) (h : 1 ≤ f ∧ f ≤ 4) (w : World) : Calls Tryd.prog 34 #[.int .i64 f] w fun e w' => e = .returned (.int .i64 (prU f : Nat)) ∧ w' = w := by
  rcases f_cases f with rfl | rfl | rfl | rfl | h0
  · exact prec_1 w
  · exact prec_2 w
  · exact prec_3 w
  · exact prec_4 w
  · omega
theorem enU_eq (f : Int) (h : 1 ≤ f ∧ f ≤ 4) : enU f - (prU f : Int) + 1 = loU f ∧ -20000 ≤ enU f ∧ enU f ≤ 0 := by
  rcases f_cases f with rfl | rfl | rfl | rfl | h0
  · decide
  · decide
  · decide
  · decide
  · omega
theorem pow_int (e : Nat) : ((2 : Int) ^ e) = ((2 ^ e : Nat) : Int) := by rw [Int.natCast_pow]; rfl
theorem shl_wrap7 {e : Nat} (h : e < 64) : IntKind.u64.wrap ((2 : Int) ^ e) = (2 : Int) ^ e := by
  have hp1 : 2 ^ e ≤ 2 ^ 63 := Nat.pow_le_pow_right (by decide) (by omega)
  rw [pow_int, IntKind.wrap_u64]
  generalize 2 ^ e = y at hp1 ⊢
  omega
theorem add_low {n r : Nat} (hn : n < 64) (hr : r < 2 ^ n) : IntKind.u64.wrap (((dgl r 0 : Nat) : Int) + (2 : Int) ^ n) = ((dgl (r + 2 ^ n) 0 : Nat) : Int) := by
  have h1 := frac_low0 n r hn hr
  have h2 := dgl_lt (r + 2 ^ n) 0
  rw [h1] at h2
  rw [h1, pow_int, IntKind.wrap_u64]
  generalize (2 : Nat) ^ n = y at h2 ⊢
  omega
theorem add_high {n r : Nat} (hn : ¬ n < 64) (hn2 : n < 128) (hr : r < 2 ^ n) : IntKind.u64.wrap (((dgl r 1 : Nat) : Int) + (2 : Int) ^ (n - 64)) = ((dgl (r + 2 ^ n) 1 : Nat) : Int) := by
  have h1 := frac_high1 n r hn hn2 hr
  have h2 := dgl_lt (r + 2 ^ n) 1
  rw [h1] at h2
  rw [h1, pow_int, IntKind.wrap_u64]
  generalize (2 : Nat) ^ (n - 64) = y at h2 ⊢
  omega
/-- The document's Value of a word. -/
theorem rval_any (f : Int) (a : Nat) (ha : a < 2 ^ 128) (h : clsU f a ≠ 0) (w : World) : Calls Tryd.prog 58 #[.int .i64 f, .agg #[.int .u64 (dgl (a) 1 : Nat), .int .u64 (dgl (a) 0 : Nat)]] w fun e w' => e = .returned (.agg #[.bool (negU f a), .int .i64 (expU f a), .int .u64 (dgl (sigU f a) 0 : Nat), .int .u64 (dgl (sigU f a) 1 : Nat), .int .u64 (dgl (sigU f a) 2 : Nat), .int .u64 (dgl (sigU f a) 3 : Nat), .int .u64 (dgl (sigU f a) 4 : Nat), .int .u64 (dgl (sigU f a) 5 : Nat), .int .u64 (dgl (sigU f a) 6 : Nat), .int .u64 (dgl (sigU f a) 7 : Nat)]) ∧ Below w.heap.size w w' := by
  have hf : 1 ≤ f ∧ f ≤ 4 := cls_form h
  have HFD := fun w => refFld_u f a ha h w
  have HNG := fun w => refNeg_u f a ha w
  have HFR := fun w => refFrac_u f a ha h w
  have HEM := fun w => emin_u f hf w
  have HPR := fun w => prec_u f hf w
  have he := enU_eq f hf
  have hp := prU_bd f hf
  have hr := frcU_lt f a hf
  have hfd := fldU_le f a
  by_cases h0 : fldU f a = 0
  · rw [h0] at HFD
    rw [show sigU f a = frcU f a from if_pos h0, show expU f a = loU f from if_pos h0]
    exact rval_Z f (enU f) (loU f) a (frcU f a) 0 0 (prU f) 0 (negU f a) HFD HNG HFR HEM HPR he.2 (by omega) he.1 w
  · rw [show sigU f a = frcU f a + 2 ^ (prU f - 1) from if_neg h0, show expU f a = loU f + (fldU f a : Int) - 1 by rw [show expU f a = loU f + ((fldU f a : Int) - 1) from if_neg h0]; omega]
    by_cases h64 : prU f - 1 < 64
    · exact rval_L f (enU f) (loU f) a (frcU f a) _ (fldU f a) (prU f) (prU f - 1) (negU f a) HFD HNG HFR HEM HPR he.2 (by omega) he.1 (by omega)
        (by unfold Hid; rw [Int.tdiv_eq_ediv_of_nonneg (by omega)]; omega) (by unfold Hid; rw [Int.tmod_eq_emod_of_nonneg (by omega)]; omega) (shl_wrap7 h64) (by unfold Hid; omega) (add_low h64 hr) (fun j hj => frac_low _ _ j h64 hr hj) w
    · exact rval_H f (enU f) (loU f) a (frcU f a) _ (fldU f a) (prU f) (prU f - 1 - 64) (negU f a) HFD HNG HFR HEM HPR he.2 (by omega) he.1 (by omega)
        (by unfold Hid; rw [Int.tdiv_eq_ediv_of_nonneg (by omega)]; omega) (by unfold Hid; rw [Int.tmod_eq_emod_of_nonneg (by omega)]; omega) (shl_wrap7 (by omega)) (by unfold Hid; omega) (add_high h64 (by omega) hr) (fun j hj => frac_high _ _ j h64 (by omega) hr hj) w
end Go.Proofs.YtpcjdllijkjdkaaDoor

/- Contracts: unpack.Exact at a number that no word stands for. -/
set_option linter.unusedVariables false
set_option linter.unusedSimpArgs false
set_option maxRecDepth 8000
namespace Go.Proofs.YtpcjdllijkjdkaaDoor
open Go.RowKit Plain

theorem cls_finN {B P F a : Nat} (h0 : clsN B P F a ≠ 0) (h : fldN B P F a + 2 ≤ 2 ^ F) : 4 ≤ clsN B P F a := by
  have hb := cls_fit h0
  rw [show fldN B P F a = a / 2 ^ (P - 1) % 2 ^ F from if_pos hb] at h
  unfold clsN clsP
  rw [if_pos hb, if_neg (by omega)]
  repeat' split
  all_goals omega
theorem cls_fin {f : Int} {a : Nat} (h0 : clsU f a ≠ 0) (h : (fldU f a : Int) ≤ 2 * emU f) : 4 ≤ clsU f a := by
  have hf := cls_form h0
  rcases f_cases f with rfl | rfl | rfl | rfl | h1
  · exact cls_finN (B := 16) (P := 11) (F := 5) h0 (by have h2 : ((fldN 16 11 5 a : Nat) : Int) ≤ 2 * 15 := h; omega)
  · exact cls_finN (B := 32) (P := 24) (F := 8) h0 (by have h2 : ((fldN 32 24 8 a : Nat) : Int) ≤ 2 * 127 := h; omega)
  · exact cls_finN (B := 64) (P := 53) (F := 11) h0 (by have h2 : ((fldN 64 53 11 a : Nat) : Int) ≤ 2 * 1023 := h; omega)
  · exact cls_finN (B := 128) (P := 113) (F := 15) h0 (by have h2 : ((fldN 128 113 15 a : Nat) : Int) ≤ 2 * 16383 := h; omega)
  · omega
theorem emU_nn (f : Int) (hf : 1 ≤ f ∧ f ≤ 4) : 0 ≤ emU f := by
  rcases f_cases f with rfl | rfl | rfl | rfl | h0
  · decide
  · decide
  · decide
  · decide
  · omega
/-- The word of a field and a fraction. -/
theorem parts_word (f : Int) (hf : 1 ≤ f ∧ f ≤ 4) (neg : Bool) (z : Int) (b : Nat) (h1 : 0 ≤ z) (h2 : z ≤ 2 * emU f) (h3 : b < 2 ^ (prU f - 1)) : ∃ a, a < 2 ^ 128 ∧ 4 ≤ clsU f a ∧ negU f a = neg ∧ ((fldU f a : Nat) : Int) = z ∧ frcU f a = b := by
  have hc : tU f (0 ≤ z ∧ z < 2 ^ 5 ∧ b < 2 ^ 10) (0 ≤ z ∧ z < 2 ^ 8 ∧ b < 2 ^ 23) (0 ≤ z ∧ z < 2 ^ 11 ∧ b < 2 ^ 52) (0 ≤ z ∧ z < 2 ^ 15 ∧ b < 2 ^ 112) False := by
    rcases f_cases f with rfl | rfl | rfl | rfl | h0
    · rw [tU_1]
      have h4 : z ≤ 2 * 15 := h2
      exact ⟨h1, by omega, h3⟩
    · rw [tU_2]
      have h4 : z ≤ 2 * 127 := h2
      exact ⟨h1, by omega, h3⟩
    · rw [tU_3]
      have h4 : z ≤ 2 * 1023 := h2
      exact ⟨h1, by omega, h3⟩
    · rw [tU_4]
      have h4 : z ≤ 2 * 16383 := h2
      exact ⟨h1, by omega, h3⟩
    · omega
  obtain ⟨a, ha, e1, e2, e3, -, e4, -⟩ := makeYes_u f neg z b hc
  exact ⟨a, ha, cls_fin e4 (by omega), e1, e2, e3⟩
/-- The word of a Sig and an Exp that fit. -/
theorem word_of (f : Int) (hf : 1 ≤ f ∧ f ≤ 4) (neg : Bool) (u : Nat) (la : Int) (h1 : Go.bitLen u ≤ prU f) (h2 : loU f ≤ la) (h3 : Go.bitLen u < prU f → la = loU f) (h4 : la + (Go.bitLen u : Int) - 1 ≤ emU f) :
    ∃ a, a < 2 ^ 128 ∧ 4 ≤ clsU f a ∧ negU f a = neg ∧ sigU f a = u ∧ expU f a = la := by
  have hp := prU_bd f hf
  have hle := loU_eq f hf
  have hem := emU_nn f hf
  by_cases h5 : Go.bitLen u < prU f
  · obtain ⟨a, ha, e1, e2, e3, e4⟩ := parts_word f hf neg 0 u (by omega) (by omega) ((len_le u (prU f - 1)).1 (by omega))
    have e5 : fldU f a = 0 := by omega
    exact ⟨a, ha, e1, e2, by unfold sigU; rw [if_pos e5]; exact e4, by unfold expU; rw [if_pos e5]; exact (h3 h5).symm⟩
  · have h6 := (len_le u (prU f)).1 h1
    have h7 : ¬ u < 2 ^ (prU f - 1) := fun h => by
      have := (len_le u (prU f - 1)).2 h
      omega
    have h8 : 2 ^ prU f = 2 * 2 ^ (prU f - 1) := by rw [← Nat.pow_succ']; congr 1; omega
    obtain ⟨a, ha, e1, e2, e3, e4⟩ := parts_word f hf neg (la - loU f + 1) (u - 2 ^ (prU f - 1)) (by omega) (by omega) (by omega)
    have e5 : fldU f a ≠ 0 := by omega
    exact ⟨a, ha, e1, e2, by unfold sigU; rw [if_neg e5, e4]; omega, by unfold expU; rw [if_neg e5]; omega⟩
theorem shr_far (s : Nat) (x : Int) (h : 512 ≤ x) (hs : s < QQ) (h0 : s ≠ 0) (w : World) : Calls Tryd.prog 108 #[.agg #[.int .u64 (dgl (s) 0 : Nat), .int .u64 (dgl (s) 1 : Nat), .int .u64 (dgl (s) 2 : Nat), .int .u64 (dgl (s) 3 : Nat), .int .u64 (dgl (s) 4 : Nat), .int .u64 (dgl (s) 5 : Nat), .int .u64 (dgl (s) 6 : Nat), .int .u64 (dgl (s) 7 : Nat)], .int .i64 x] w fun e w' => e = .returned (.tuple #[.agg #[.int .u64 (dgl (0) 0 : Nat), .int .u64 (dgl (0) 1 : Nat), .int .u64 (dgl (0) 2 : Nat), .int .u64 (dgl (0) 3 : Nat), .int .u64 (dgl (0) 4 : Nat), .int .u64 (dgl (0) 5 : Nat), .int .u64 (dgl (0) 6 : Nat), .int .u64 (dgl (0) 7 : Nat)], .bool true]) ∧ Below w.heap.size w w' := by
  obtain ⟨q, hq⟩ : ∃ q, q = 512 := ⟨_, rfl⟩
  have e := qq_pow q hq
  have h1 := wideShr_any s q x (by unfold roomI; omega) hs w
  rw [e, Nat.div_eq_of_lt hs, Nat.zero_mul, decide_eq_false (fun h => h0 h.symm)] at h1
  exact h1
/-- unpack.at at any number: what it tells, and when a digit is lost. -/
theorem uat_any (neg : Bool) (z x : Int) (s : Nat) (hs : s < QQ) (h0 : s ≠ 0) (hz : -1048576 ≤ z ∧ z ≤ 1048576) (hx : -3000000 ≤ x ∧ x ≤ 3000000) (hd : z + (Go.bitLen s : Int) - x ≤ 200) :
    ∃ u wh, (wh = true → vl u x (min z x) = vl s z (min z x)) ∧ ∀ w, Calls Tryd.prog 51 #[.agg #[.bool (neg), .int .i64 (z), .int .u64 (dgl (s) 0 : Nat), .int .u64 (dgl (s) 1 : Nat), .int .u64 (dgl (s) 2 : Nat), .int .u64 (dgl (s) 3 : Nat), .int .u64 (dgl (s) 4 : Nat), .int .u64 (dgl (s) 5 : Nat), .int .u64 (dgl (s) 6 : Nat), .int .u64 (dgl (s) 7 : Nat)], .int .i64 x] w fun e w' => e = .returned (.tuple #[.agg #[.int .u64 (dgl (u) 0 : Nat), .int .u64 (dgl (u) 1 : Nat), .int .u64 (dgl (u) 2 : Nat), .int .u64 (dgl (u) 3 : Nat), .int .u64 (dgl (u) 4 : Nat), .int .u64 (dgl (u) 5 : Nat), .int .u64 (dgl (u) 6 : Nat), .int .u64 (dgl (u) 7 : Nat)], .bool wh]) ∧ Below w.heap.size w w' := by
  have lp := len_pos h0
  by_cases hzx : x ≤ z
  · refine ⟨s * 2 ^ (z - x).toNat, true, fun _ => ?_, fun w => at_U neg false z x s _ hz hx hzx (fun w => ?_) w⟩
    · unfold vl
      rw [show min z x = x by omega, show (x - x).toNat = 0 by omega, Nat.pow_zero, Nat.mul_one]
    · have h3 := shl_num s (z - x).toNat (by omega) hs w
      rw [show (((z - x).toNat : Nat) : Int) = z - x by omega] at h3
      exact h3
  · by_cases hk : x - z ≤ 512
    · refine ⟨s / 2 ^ (x - z).toNat, decide (s / 2 ^ (x - z).toNat * 2 ^ (x - z).toNat = s), fun h => ?_, fun w => ?_⟩
      · rw [decide_eq_true_iff] at h
        unfold vl
        rw [show min z x = z by omega, show (z - z).toNat = 0 by omega, Nat.pow_zero, Nat.mul_one]
        exact h
      · have h4 := at_D neg (!decide (s / 2 ^ (x - z).toNat * 2 ^ (x - z).toNat = s)) z x s (s / 2 ^ (x - z).toNat) hz hx hzx (fun w => by
          have h3 := shr_num s (x - z).toNat (by omega) hs w
          rw [show (((x - z).toNat : Nat) : Int) = x - z by omega] at h3
          exact h3) w
        rw [Bool.not_not] at h4
        exact h4
    · exact ⟨0, false, fun h => (by cases h), fun w => at_D neg true z x s 0 hz hx hzx (fun w => shr_far s (x - z) (by omega) hs h0 w) w⟩

theorem exact_none (f : Int) (hf : 1 ≤ f ∧ f ≤ 4) (neg : Bool) (z : Int) (s : Nat) (hs : s < QQ) (hr : rgt z = true) (hno : ∀ a, a < 2 ^ 128 → 4 ≤ clsU f a → negU f a = neg → sizeZ (sigU f a) (expU f a) s z ≠ 0) (w : World) (hg : FmtG w) :
    Calls Tryd.prog 11 #[.int .i64 f, .agg #[.bool (neg), .int .i64 (z), .int .u64 (dgl (s) 0 : Nat), .int .u64 (dgl (s) 1 : Nat), .int .u64 (dgl (s) 2 : Nat), .int .u64 (dgl (s) 3 : Nat), .int .u64 (dgl (s) 4 : Nat), .int .u64 (dgl (s) 5 : Nat), .int .u64 (dgl (s) 6 : Nat), .int .u64 (dgl (s) 7 : Nat)]] w fun e w' => e = .returned (.tuple #[.agg #[.int .u64 0, .int .u64 0], .bool false]) ∧ Below w.heap.size w w' := by
  have HO := fun w hg => of_u f hf w hg
  have HR := fun w => uRight_any neg z s w
  rw [hr] at HR
  have hz := rgtB hr
  have hp := prU_bd f hf
  have hlo := loU_bd f
  have hle := loU_eq f hf
  have k1 := kU_1 f hf
  have k2 := kU_2 f hf
  have hen := emU_nn f hf
  by_cases h0 : s = 0
  · obtain ⟨a, ha, e1, e2, e3, e4⟩ := parts_word f hf neg 0 0 (by omega) (by omega) (Nat.two_pow_pos _)
    have e5 : fldU f a = 0 := by omega
    have e6 : sigU f a = 0 := by unfold sigU; rw [if_pos e5]; exact e4
    refine absurd ?_ (hno a ha e1 e2)
    unfold sizeZ
    rw [if_pos e6, if_pos h0]
  · have hl := len_qq hs
    have lp := len_pos h0
    have HT := fun w => top_Y neg z s hr hz hs h0 w
    have HLO := fun w => low_u f hf w
    obtain ⟨la, hla⟩ : ∃ la, max (z + (Go.bitLen s : Int) - 1 - kU f 1 + 1) (loU f) = la := ⟨_, rfl⟩
    obtain ⟨u, wh, hw, HAT⟩ := uat_any neg z la s hs h0 hz (by omega) (by omega)
    by_cases hem : kU f 2 < z + (Go.bitLen s : Int) - 1
    · exact exact_F1 f z _ (loU f) la neg wh false false (kU f) s u 0 0 0 0 HO HR HT (by omega) (by omega) hlo hla (by omega) HLO HAT hem w hg
    · cases wh
      · exact exact_F2 f z _ (loU f) la neg false false false (kU f) s u 0 0 0 0 HO HR HT (by omega) (by omega) hlo hla (by omega) HLO HAT hem w hg
      · have hv := hw rfl
        have hu0 : u ≠ 0 := fun h => by
          rw [h, vl_zero] at hv
          have := vl_pos z (min z la) h0
          omega
        have ht := same_top hu0 h0 (by omega) (by omega) hv
        obtain ⟨a, ha, e1, e2, e3, e4⟩ := word_of f hf neg u la (by omega) (by omega) (fun h => by omega) (by omega)
        refine absurd ?_ (hno a ha e1 e2)
        rw [e3, e4]
        exact ((sizeZ_spec u s la z (min z la) (by omega) (by omega)).2).2 hv

end Go.Proofs.YtpcjdllijkjdkaaDoor

/- The words of a format, without their signs, rise as their numbers do. -/
set_option linter.unusedVariables false
set_option linter.unusedSimpArgs false
set_option maxRecDepth 8000
namespace Go.Proofs.YtpcjdllijkjdkaaDoor
open Go.RowKit Plain

/-- What a word's number without a sign stands for, in units of the format's least place. -/
def valW (H x : Nat) : Nat := if x / H = 0 then x % H else (H + x % H) * 2 ^ (x / H - 1)
theorem valW_step (H x : Nat) (hH : 0 < H) : valW H x < valW H (x + 1) := by
  unfold valW
  have hm := Nat.mod_lt x hH
  have hd := Nat.div_add_mod x H
  rcases Nat.lt_or_ge (x % H + 1) H with h | h
  · have e1 : (x + 1) / H = x / H := by
      refine Nat.div_eq_of_lt_le ?_ ?_
      · rw [Nat.mul_comm]; omega
      · rw [Nat.succ_mul, Nat.mul_comm]; omega
    have e2 : (x + 1) % H = x % H + 1 := by
      have := Nat.div_add_mod (x + 1) H
      rw [e1] at this
      omega
    rw [e1, e2]
    split
    · omega
    · rw [← Nat.add_assoc, Nat.succ_mul]
      have := Nat.two_pow_pos (x / H - 1)
      omega
  · have e0 : x + 1 = H * (x / H + 1) := by rw [Nat.mul_succ]; omega
    have e1 : (x + 1) / H = x / H + 1 := by rw [e0, Nat.mul_div_cancel_left _ hH]
    have e2 : (x + 1) % H = 0 := by rw [e0, Nat.mul_mod_right]
    rw [e1, e2, if_neg (Nat.succ_ne_zero _), Nat.add_zero, Nat.add_sub_cancel]
    split
    · rename_i h0
      rw [h0, Nat.pow_zero]
      omega
    · rename_i h0
      obtain ⟨k, hk⟩ := Nat.exists_eq_succ_of_ne_zero h0
      rw [Nat.succ_eq_add_one] at hk
      rw [hk, Nat.add_sub_cancel, Nat.pow_succ, Nat.mul_comm (2 ^ k) 2, ← Nat.mul_assoc]
      exact Nat.mul_lt_mul_of_pos_right (by omega) (Nat.two_pow_pos k)
theorem valW_lt {H x y : Nat} (hH : 0 < H) (h : x < y) : valW H x < valW H y := by
  induction y with
  | zero => omega
  | succ y ih =>
    have h1 := valW_step H y hH
    rcases Nat.lt_or_ge x y with h2 | h2
    · have := ih h2
      omega
    · obtain rfl : x = y := by omega
      exact h1
/-- A format's bits without the sign's. -/
def mU (f : Int) : Nat := tU f 15 31 63 127 0
theorem fldN_low {B P F a : Nat} (hB : B = P + F) (hP : 0 < P) (h : a < 2 ^ (B - 1)) : fldN B P F a = a / 2 ^ (P - 1) ∧ frcN B P a = a % 2 ^ (P - 1) := by
  have h2 : 2 ^ (B - 1) ≤ 2 ^ B := Nat.pow_le_pow_right (by decide) (by omega)
  unfold fldN frcN
  rw [if_pos (by omega), if_pos (by omega)]
  refine ⟨Nat.mod_eq_of_lt ?_, rfl⟩
  rw [Nat.div_lt_iff_lt_mul (Nat.two_pow_pos _), ← Nat.pow_add, show F + (P - 1) = B - 1 by omega]
  exact h
theorem fldU_low {f : Int} {a : Nat} (hf : 1 ≤ f ∧ f ≤ 4) (h : a < 2 ^ mU f) : fldU f a = a / 2 ^ (prU f - 1) ∧ frcU f a = a % 2 ^ (prU f - 1) := by
  rcases f_cases f with rfl | rfl | rfl | rfl | h0
  · exact fldN_low (B := 16) (P := 11) (F := 5) rfl (by decide) h
  · exact fldN_low (B := 32) (P := 24) (F := 8) rfl (by decide) h
  · exact fldN_low (B := 64) (P := 53) (F := 11) rfl (by decide) h
  · exact fldN_low (B := 128) (P := 113) (F := 15) rfl (by decide) h
  · omega
theorem absU_lt {f : Int} (a : Nat) (hf : 1 ≤ f ∧ f ≤ 4) : absU f a < 2 ^ mU f := by
  rcases f_cases f with rfl | rfl | rfl | rfl | h0
  · show absN 16 a < 2 ^ 15
    unfold absN; split
    · exact Nat.mod_lt _ (by decide)
    · decide
  · show absN 32 a < 2 ^ 31
    unfold absN; split
    · exact Nat.mod_lt _ (by decide)
    · decide
  · show absN 64 a < 2 ^ 63
    unfold absN; split
    · exact Nat.mod_lt _ (by decide)
    · decide
  · show absN 128 a < 2 ^ 127
    unfold absN; split
    · exact Nat.mod_lt _ (by decide)
    · decide
  · omega
theorem loU_le (f : Int) (a : Nat) : loU f ≤ expU f a := by unfold expU; split <;> omega
theorem vl_word {f : Int} {a : Nat} (hf : 1 ≤ f ∧ f ≤ 4) (h : a < 2 ^ mU f) : vl (sigU f a) (expU f a) (loU f) = valW (2 ^ (prU f - 1)) a := by
  obtain ⟨h1, h2⟩ := fldU_low hf h
  unfold vl sigU expU valW
  rw [h1, h2]
  by_cases h0 : a / 2 ^ (prU f - 1) = 0
  · rw [if_pos h0, if_pos h0, if_pos h0, show (loU f - loU f).toNat = 0 by omega, Nat.pow_zero, Nat.mul_one]
  · rw [if_neg h0, if_neg h0, if_neg h0, Nat.add_comm, show (loU f + (((a / 2 ^ (prU f - 1) : Nat) : Int) - 1) - loU f).toNat = a / 2 ^ (prU f - 1) - 1 by omega]

end Go.Proofs.YtpcjdllijkjdkaaDoor

/- Numbers for the document's Find: the greatest word that isn't above a number, bit by bit. -/
set_option linter.unusedVariables false
set_option linter.unusedSimpArgs false
set_option maxRecDepth 8000
namespace Go.Proofs.YtpcjdllijkjdkaaDoor
open Go.RowKit Plain

/-- What stands behind the bits from c on: out has no lower bit, is taken, and nothing from out + 2^c on is. -/
def FInv (p : Nat → Bool) (M c x : Nat) : Prop := x % 2 ^ c = 0 ∧ x < 2 ^ M ∧ p x = true ∧ ∀ y, x + 2 ^ c ≤ y → y < 2 ^ M → p y = false
theorem finv_fit {p : Nat → Bool} {M c x : Nat} (h : FInv p M (c + 1) x) (hc : c + 1 ≤ M) : x + 2 ^ c < 2 ^ M := by
  obtain ⟨h1, h2, -, -⟩ := h
  obtain ⟨k, hk⟩ := Nat.dvd_of_mod_eq_zero h1
  have e : 2 ^ M = 2 ^ (c + 1) * 2 ^ (M - (c + 1)) := by rw [← Nat.pow_add]; congr 1; omega
  rw [hk, e] at h2
  have h3 : k < 2 ^ (M - (c + 1)) := Nat.lt_of_mul_lt_mul_left h2
  have h4 : 2 ^ (c + 1) * (k + 1) ≤ 2 ^ (c + 1) * 2 ^ (M - (c + 1)) := Nat.mul_le_mul_left _ h3
  have h5 := Nat.two_pow_pos c
  rw [hk, e]
  rw [Nat.mul_succ] at h4
  rw [Nat.pow_succ] at h4 ⊢
  omega
theorem finv_take {p : Nat → Bool} {M c x : Nat} (h : FInv p M (c + 1) x) (hc : c + 1 ≤ M) (hp : p (x + 2 ^ c) = true) : FInv p M c (x + 2 ^ c) := by
  have hf := finv_fit h hc
  obtain ⟨h1, h2, h3, h4⟩ := h
  refine ⟨?_, hf, hp, fun y hy hm => h4 y ?_ hm⟩
  · obtain ⟨k, hk⟩ := Nat.dvd_of_mod_eq_zero h1
    rw [Nat.add_mod_right, hk, Nat.pow_succ, Nat.mul_assoc, Nat.mul_mod_right]
  · rw [Nat.pow_succ]
    omega
theorem finv_leave {p : Nat → Bool} {M c x : Nat} (h : FInv p M (c + 1) x) (hm : ∀ a b, a ≤ b → b < 2 ^ M → p b = true → p a = true) (hp : p (x + 2 ^ c) = false) : FInv p M c x := by
  obtain ⟨h1, h2, h3, h4⟩ := h
  refine ⟨?_, h2, h3, fun y hy hy2 => ?_⟩
  · obtain ⟨k, hk⟩ := Nat.dvd_of_mod_eq_zero h1
    rw [hk, Nat.pow_succ, Nat.mul_assoc, Nat.mul_mod_right]
  · cases hpy : p y
    · rfl
    · have := hm _ _ hy hy2 hpy
      rw [hp] at this
      cases this
theorem bitW_low {c x : Nat} (hc : c < 64) (h : x % 2 ^ (c + 1) = 0) : dgl (x + 2 ^ c) 0 = dgl x 0 + 2 ^ c ∧ dgl (x + 2 ^ c) 1 = dgl x 1 := by
  have e : (18446744073709551616 : Nat) = 2 ^ (c + 1) * 2 ^ (63 - c) := by rw [← Nat.pow_add, show c + 1 + (63 - c) = 64 by omega]
  have hp := Nat.two_pow_pos c
  have hm : x % 18446744073709551616 + 2 ^ c < 18446744073709551616 := by
    obtain ⟨k, hk⟩ := Nat.dvd_of_mod_eq_zero h
    have h1 : x % 18446744073709551616 = 2 ^ (c + 1) * (k % 2 ^ (63 - c)) := by rw [hk, e, Nat.mul_mod_mul_left]
    have h2 : k % 2 ^ (63 - c) < 2 ^ (63 - c) := Nat.mod_lt _ (Nat.two_pow_pos _)
    have h3 : 2 ^ (c + 1) * (k % 2 ^ (63 - c) + 1) ≤ 2 ^ (c + 1) * 2 ^ (63 - c) := Nat.mul_le_mul_left _ h2
    rw [← e, Nat.mul_succ, ← h1, Nat.pow_succ] at h3
    omega
  rw [dgl0, dgl0, dgl1, dgl1]
  generalize 2 ^ c = y at *
  omega
theorem bitW_high {c x : Nat} (hc : ¬ c < 64) (h : x + 2 ^ c < 2 ^ 128) : dgl (x + 2 ^ c) 1 = dgl x 1 + 2 ^ (c - 64) ∧ dgl (x + 2 ^ c) 0 = dgl x 0 := by
  have e : 2 ^ c = 18446744073709551616 * 2 ^ (c - 64) := frac_e c hc
  rw [e] at h ⊢
  rw [dgl0, dgl0, dgl1, dgl1]
  generalize 2 ^ (c - 64) = y at *
  omega
/-- Is a word finite, and not above a number? -/
def takeB (f : Int) (s : Nat) (z : Int) (x : Nat) : Bool := decide (4 ≤ clsU f x) && decide (sizeZ (sigU f x) (expU f x) s z ≤ 0)
theorem inf_low {B P F a : Nat} (hB : B = P + F) (hP : 0 < P) (h : a < 2 ^ (B - 1)) : 4 ≤ clsN B P F a ↔ a / 2 ^ (P - 1) + 2 ≤ 2 ^ F := by
  have h1 := (fldN_low hB hP h).1
  have h2 : 2 ^ (B - 1) ≤ 2 ^ B := Nat.pow_le_pow_right (by decide) (by omega)
  rw [← h1]
  exact ⟨fin_fldN, fun h3 => cls_finN (clsN_ne (by omega)) h3⟩
/-- Words below a finite one are finite. -/
theorem fin_down {f : Int} {a b : Nat} (hf : 1 ≤ f ∧ f ≤ 4) (h : a ≤ b) (hb : b < 2 ^ mU f) (hc : 4 ≤ clsU f b) : 4 ≤ clsU f a := by
  have ha : a < 2 ^ mU f := by omega
  have key : ∀ {P : Nat}, a / 2 ^ (P - 1) ≤ b / 2 ^ (P - 1) := fun {P} => Nat.div_le_div_right h
  rcases f_cases f with rfl | rfl | rfl | rfl | h0
  · have h1 := (inf_low (B := 16) (P := 11) (F := 5) rfl (by decide) hb).1 hc
    exact (inf_low (B := 16) (P := 11) (F := 5) rfl (by decide) ha).2 (by have := key (P := 11); omega)
  · have h1 := (inf_low (B := 32) (P := 24) (F := 8) rfl (by decide) hb).1 hc
    exact (inf_low (B := 32) (P := 24) (F := 8) rfl (by decide) ha).2 (by have := key (P := 24); omega)
  · have h1 := (inf_low (B := 64) (P := 53) (F := 11) rfl (by decide) hb).1 hc
    exact (inf_low (B := 64) (P := 53) (F := 11) rfl (by decide) ha).2 (by have := key (P := 53); omega)
  · have h1 := (inf_low (B := 128) (P := 113) (F := 15) rfl (by decide) hb).1 hc
    exact (inf_low (B := 128) (P := 113) (F := 15) rfl (by decide) ha).2 (by have := key (P := 113); omega)
  · omega
/-- Which of two is the lesser, whatever exponent both are brought to. -/
theorem sizeZ_le (a b : Nat) (ea eb m : Int) (h1 : m ≤ ea) (h2 : m ≤ eb) : sizeZ a ea b eb ≤ 0 ↔ vl a ea m ≤ vl b eb m := by
  have h := sizeZ_spec a b ea eb m h1 h2
  constructor
  · intro h3
    rcases Int.lt_or_eq_of_le h3 with h4 | h4
    · exact Nat.le_of_lt (h.1.1 h4)
    · exact Nat.le_of_eq (h.2.1 h4)
  · intro h3
    rcases Nat.lt_or_eq_of_le h3 with h4 | h4
    · exact Int.le_of_lt (h.1.2 h4)
    · exact Int.le_of_eq (h.2.2 h4)
theorem takeB_mono {f : Int} (hf : 1 ≤ f ∧ f ≤ 4) (s : Nat) (z : Int) (a b : Nat) (h : a ≤ b) (hb : b < 2 ^ mU f) (ht : takeB f s z b = true) : takeB f s z a = true := by
  unfold takeB at ht ⊢
  rw [Bool.and_eq_true, decide_eq_true_iff, decide_eq_true_iff] at ht ⊢
  refine ⟨fin_down hf h hb ht.1, ?_⟩
  have la := loU_le f a
  have lb := loU_le f b
  have h1 := (sizeZ_le _ _ _ _ (min (loU f) z) (by omega) (by omega)).1 ht.2
  refine (sizeZ_le _ _ _ _ (min (loU f) z) (by omega) (by omega)).2 (Nat.le_trans ?_ h1)
  rw [vl_up (m := loU f) (k := min (loU f) z) (by omega) la, vl_up (m := loU f) (k := min (loU f) z) (by omega) lb, vl_word hf (by omega), vl_word hf hb]
  refine Nat.mul_le_mul_right _ ?_
  rcases Nat.lt_or_eq_of_le h with h2 | h2
  · exact Nat.le_of_lt (valW_lt (Nat.two_pow_pos _) h2)
  · rw [h2]; exact Nat.le_refl _

end Go.Proofs.YtpcjdllijkjdkaaDoor

