/- Contracts and laws: WideE, WideF, WideG, WideH. -/
import Derived.Test.YtbngaajhdaciaaaPartAH
import Derived.Deep.DeepCutAuto
/- Contracts: wide.room, Shl, Len, Bit, Minus, Of. -/
set_option linter.unusedVariables false
set_option linter.unusedSimpArgs false
set_option maxRecDepth 8000
namespace Go.Proofs.Ytbngaajhdaciaaa
open Go.RowKit Plain

theorem below_of_drew {X w1 : World} (h : Below X.drew.heap.size X.drew w1) : Below X.heap.size X w1 := ⟨h.os, h.tape, h.output, h.size, h.block⟩

/-- A shift, from 0 to 512. -/
def roomI (n : Int) : Int := min (max n 0) 512
theorem roomI_bd (n : Int) : 0 ≤ roomI n ∧ roomI n ≤ 512 := by unfold roomI; omega

set_option maxHeartbeats 400000 in
theorem room_any (n : Int) (w : World) : Calls Try.prog 60 #[.int .i64 n] w fun e w' => e = .returned (.int .i64 (roomI n)) ∧ w' = w := by
  go_enter Try.func60, Try.ntmps60
  go_wp2
  all_goals
    go_ret
    exact ⟨ret_int (by unfold roomI; omega), rfl⟩

theorem ext0 {a : Nat} (ha : a < QQ) : Ext a a 0 := by
  refine ⟨fun j _ => rfl, fun j hj _ => ?_⟩
  unfold dgl
  rw [Nat.div_eq_of_lt (Nat.lt_of_lt_of_le ha (Nat.pow_le_pow_right (by decide) hj))]

set_option maxHeartbeats 400000 in
theorem wideShl_any (a : Nat) (n : Int) (ha : a < QQ) (w : World) :
    Calls Try.prog 44 #[.agg #[.int .u64 (dgl (a) 0 : Nat), .int .u64 (dgl (a) 1 : Nat), .int .u64 (dgl (a) 2 : Nat), .int .u64 (dgl (a) 3 : Nat), .int .u64 (dgl (a) 4 : Nat), .int .u64 (dgl (a) 5 : Nat), .int .u64 (dgl (a) 6 : Nat), .int .u64 (dgl (a) 7 : Nat)], .int .i64 n] w fun e w' => e = .returned (.agg #[.int .u64 (dgl (sh a (roomI n)) 0 : Nat), .int .u64 (dgl (sh a (roomI n)) 1 : Nat), .int .u64 (dgl (sh a (roomI n)) 2 : Nat), .int .u64 (dgl (sh a (roomI n)) 3 : Nat), .int .u64 (dgl (sh a (roomI n)) 4 : Nat), .int .u64 (dgl (sh a (roomI n)) 5 : Nat), .int .u64 (dgl (sh a (roomI n)) 6 : Nat), .int .u64 (dgl (sh a (roomI n)) 7 : Nat)]) ∧ Below w.heap.size w w' := by
  have hbd := roomI_bd n
  have HC := hide (fun w => moved_any a 0 a (roomI n) w (ext0 ha) (by omega) (by omega))
  clear ha
  go_enter Try.func44, Try.ntmps44
  go_wp2
  refine wp_region_still_tail 3 mixedOk (by kernel_rfl) ?_
  simp only [List.take_succ_cons, List.take_zero, List.drop_succ_cons, List.drop_zero]
  change wpStill _ _ (World.drew _) _ _ _
  repeat still_step
  still_call (room_any n _)
  repeat still_step
  refine wpStill_nil ?_
  change wpList _ _ _ _ _ (World.drew _)
  go_wp2_with fail
  refine (HC.out _).mono ?_
  rintro e w1 ⟨rfl, hb1⟩
  replace hb1 := below_of_drew hb1
  obtain ⟨hr, hrf, hl⟩ := res_box hb1
  simp only [World.size_alloc] at hr hrf hl
  have HB := hide (below_alloc_then (below_alloc_then hb1))
  clear hb1
  go_wp2
  exact bodyPost_ret (v := .agg #[.int .u64 (dgl (sh a (roomI n)) 0 : Nat), .int .u64 (dgl (sh a (roomI n)) 1 : Nat), .int .u64 (dgl (sh a (roomI n)) 2 : Nat), .int .u64 (dgl (sh a (roomI n)) 3 : Nat), .int .u64 (dgl (sh a (roomI n)) 4 : Nat), .int .u64 (dgl (sh a (roomI n)) 5 : Nat), .int .u64 (dgl (sh a (roomI n)) 6 : Nat), .int .u64 (dgl (sh a (roomI n)) 7 : Nat)]) (by simp [results, Try.results44, go_sem, hr]) rfl ⟨rfl, below_set8 HB.out _ (by omega) _ _ _ _ _ _ _ _⟩

/-- The slice over a block of limbs. -/
theorem rd_block {w : World} {b a : Nat} (h : Lies w b a) (hb : b < w.heap.size) : Rd mk64 w (.slice (some ⟨b, 0, none⟩) 8 8) (dl 18446744073709551616 a 8) := by
  refine ⟨_, 8, by rw [dl_length], by rw [dl_length]; omega, by simp [maxLen], .inr ⟨b, 0, rfl, hb, fun i hi => ?_⟩⟩
  rw [dl_length] at hi
  rw [Nat.zero_add, h i hi]
  have : dg (dl 18446744073709551616 a 8) i = dgl a i := by simp [dg, dl, hi, dgl]
  rw [this]; rfl
theorem dig_block {a : Nat} (ha : a < QQ) : Dig 18446744073709551616 (dl 18446744073709551616 a 8) a := dl_dig _ a 8 ha (by decide)

set_option maxHeartbeats 400000 in
theorem wideLen_any (a : Nat) (ha : a < QQ) (w : World) :
    Calls Try.prog 43 #[.agg #[.int .u64 (dgl (a) 0 : Nat), .int .u64 (dgl (a) 1 : Nat), .int .u64 (dgl (a) 2 : Nat), .int .u64 (dgl (a) 3 : Nat), .int .u64 (dgl (a) 4 : Nat), .int .u64 (dgl (a) 5 : Nat), .int .u64 (dgl (a) 6 : Nat), .int .u64 (dgl (a) 7 : Nat)]] w fun e w' => e = .returned (.int .i64 (Go.bitLen a : Nat)) ∧ Below w.heap.size w w' := by
  have hr := rd_block (lies_alloc w a 24) (by simp)
  have HR := hide hr
  have HD := hide (dig_block ha)
  clear hr ha
  go_enter Try.func43, Try.ntmps43
  go_wp2_with (go_at_call 63; refine (len_any a _ _ _ HR.out HD.out (by rw [dl_length]; omega)).mono ?_; rintro e w' ⟨rfl, hw⟩; subst w')
  go_ret
  exact ⟨rfl, (Below.refl _ _).alloc (Nat.le_refl _) _⟩

set_option maxHeartbeats 400000 in
theorem wideBit_any (a : Nat) (n : Int) (ha : a < QQ) (hn0 : 0 ≤ n) (hn1 : n ≤ 9223372036854775807) (w : World) :
    Calls Try.prog 54 #[.agg #[.int .u64 (dgl (a) 0 : Nat), .int .u64 (dgl (a) 1 : Nat), .int .u64 (dgl (a) 2 : Nat), .int .u64 (dgl (a) 3 : Nat), .int .u64 (dgl (a) 4 : Nat), .int .u64 (dgl (a) 5 : Nat), .int .u64 (dgl (a) 6 : Nat), .int .u64 (dgl (a) 7 : Nat)], .int .i64 n] w fun e w' => e = .returned (.bool (a / 2 ^ n.toNat % 2 == 1)) ∧ Below w.heap.size w w' := by
  have hr := rd_block (lies_alloc w a 24) (by simp)
  have HR := hide hr
  have HD := hide (dig_block ha)
  clear hr ha
  go_enter Try.func54, Try.ntmps54
  go_wp2_with (go_at_call 70; refine (bit_any a n _ _ _ HR.out HD.out hn0 hn1).mono ?_; rintro e w' ⟨rfl, hw⟩; subst w')
  go_ret
  exact ⟨rfl, (Below.refl _ _).alloc (Nat.le_refl _) _⟩

set_option maxHeartbeats 400000 in
theorem wideMinus_any (a : Nat) (ha : a < QQ) (w : World) :
    Calls Try.prog 28 #[.agg #[.int .u64 (dgl (a) 0 : Nat), .int .u64 (dgl (a) 1 : Nat), .int .u64 (dgl (a) 2 : Nat), .int .u64 (dgl (a) 3 : Nat), .int .u64 (dgl (a) 4 : Nat), .int .u64 (dgl (a) 5 : Nat), .int .u64 (dgl (a) 6 : Nat), .int .u64 (dgl (a) 7 : Nat)]] w fun e w' => e = .returned (.bool (a / 2 ^ 511 % 2 == 1)) ∧ Below w.heap.size w w' := by
  have HC := hide (fun w => wideBit_any a 511 ha (by decide) (by decide) w)
  have e511 : (511 : Int).toNat = 511 := rfl
  rw [e511] at HC
  clear ha e511
  obtain ⟨P, hP⟩ : ∃ P : Bool, (a / 2 ^ 511 % 2 == 1) = P := ⟨_, rfl⟩
  rw [hP] at HC ⊢
  clear hP
  go_enter Try.func28, Try.ntmps28
  go_wp2_with (go_at_call 54; refine (HC.out _).mono ?_; rintro e w1 ⟨rfl, hb⟩)
  go_ret
  exact ⟨rfl, below_alloc_then hb⟩

end Go.Proofs.Ytbngaajhdaciaaa

/- Contracts: wide.Of, Power, Mask, Sar. -/
set_option linter.unusedVariables false
set_option linter.unusedSimpArgs false
set_option maxRecDepth 8000
namespace Go.Proofs.Ytbngaajhdaciaaa
open Go.RowKit Plain

set_option maxHeartbeats 400000 in
theorem of1_any (A i : Nat) (l : List Nat) (v : Value) (w : World) (hr : Rd mk64 w v l) (cA : w.cell? ⟨A, 0, none⟩ = some v) (hi : i < 8) :
    Calls Try.prog 58 #[.int .i64 i, .pointer (some ⟨A, 0, none⟩)] w fun e w' => e = .returned (.int .u64 (dg l i : Nat)) ∧ w' = w := by
  obtain ⟨ao, cap, rfl, hc, hm, hr⟩ := hr
  unfold maxLen at hm
  by_cases h1 : i < l.length
  · rcases hr with hr | ⟨b, off, rfl, hlt, hcell⟩
    · omega
    · have hck : w.cell? ⟨b, off + i, none⟩ = some (.int .u64 (dg l i : Nat)) := hcell i h1
      clear hcell hc
      have hj : (i : Int) < (l.length : Int) := by omega
      go_enter Try.func58, Try.ntmps58
      go_wp2
      go_ret
      exact ⟨rfl, rfl⟩
  · have HO : Hid (dg l i = 0) := getD_past l i (by omega)
    clear hr
    go_enter Try.func58, Try.ntmps58
    go_wp2
    go_ret
    exact ⟨ret_int (by rw [HO.out]; rfl), rfl⟩

theorem app1 (x a : Value) : (#[x] ++ #[a] : Array Value) = #[x, a] := rfl

/-- What the closure of wide.Of finds in its box. -/
structure OfInv (B : Nat) (v : Value) (w wr : World) : Prop where
  a : wr.cell? ⟨B, 0, none⟩ = some v
  r : Lies wr (B + 1) 0
  rf : ∀ i, wr.frozen? ⟨B + 1, i, none⟩ = false
  bel : Below B w wr
theorem OfInv.below {B : Nat} {v : Value} {w wr wr' : World} (h : OfInv B v w wr) (hb : Below (B + 1 + 1) wr wr') : OfInv B v w wr' :=
  ⟨(hb.cell (p := ⟨B, 0, none⟩) (show B < B + 1 + 1 by omega)).trans h.a, h.r.below hb (by omega), fun i => (hb.frozen (p := ⟨B + 1, i, none⟩) (show B + 1 < B + 1 + 1 by omega)).trans (h.rf i), h.bel.trans (hb.mono (by omega))⟩
theorem OfInv.start (w : World) (v : Value) :
    OfInv w.heap.size v w ((w.alloc (Obj.cells #[v] 78)).alloc (Obj.cells #[.int .u64 0, .int .u64 0, .int .u64 0, .int .u64 0, .int .u64 0, .int .u64 0, .int .u64 0, .int .u64 0] 24)) := by
  have hR := lies_alloc0 (w.alloc (Obj.cells #[v] 78)) 24
  simp only [World.size_alloc] at hR
  exact ⟨by simp [go_sem], hR, fun i => by simp [go_sem], Below.alloc (Below.alloc (Below.refl _ _) (Nat.le_refl _) _) (by simp) _⟩

set_option maxHeartbeats 1000000 in
theorem wideOf_any (l : List Nat) (N : Nat) (v : Value) (w : World) (hr : Rd mk64 w v l) (hd : ∀ i, i < 8 → dg l i = dgl N i) :
    Calls Try.prog 30 #[v] w fun e w' => e = .returned (.agg #[.int .u64 (dgl (N) 0 : Nat), .int .u64 (dgl (N) 1 : Nat), .int .u64 (dgl (N) 2 : Nat), .int .u64 (dgl (N) 3 : Nat), .int .u64 (dgl (N) 4 : Nat), .int .u64 (dgl (N) 5 : Nat), .int .u64 (dgl (N) 6 : Nat), .int .u64 (dgl (N) 7 : Nat)]) ∧ Below w.heap.size w w' := by
  have hr' := hr
  obtain ⟨ao, ca, rfl, hca, hma, -⟩ := hr'
  have RA := hide hr
  have HD := hide hd
  clear hr hd
  go_enter Try.func30, Try.ntmps30
  go_wp2_with fail
  refine (each_any 58 _ (fun j => dg l j) (fun _ wr => OfInv w.heap.size (Value.slice ao l.length ca) w wr) none _ (enters_of Try.func58 (by kernel_rfl) rfl) (by intro c hc; cases hc) ?_ ?_ ?_).mono ?_
  · intro i wr hi hI hsz
    rw [app1]
    refine (of1_any w.heap.size i l _ wr (RA.out.below hI.bel) hI.a hi).mono ?_
    rintro e w' ⟨rfl, rfl⟩
    exact ⟨rfl, hI, grownBy_refl _ _⟩
  · intro i wr wr' hI hb
    exact hI.below (hb.mono (by simp))
  · exact OfInv.start w _
  · rintro e w1 ⟨rfl, hI, hg⟩
    have hsz := hg.size
    simp only [World.size_alloc] at hsz
    have hr := hI.r
    have hrf := hI.rf
    have HBL := hide hI.bel
    clear hg hI
    unfold Lies at hr
    have hl1 : w.heap.size + 1 < w1.heap.size := by omega
    have HW : Hid ((#[.int .u64 (dg l 0 : Nat), .int .u64 (dg l 1 : Nat), .int .u64 (dg l 2 : Nat), .int .u64 (dg l 3 : Nat), .int .u64 (dg l 4 : Nat), .int .u64 (dg l 5 : Nat), .int .u64 (dg l 6 : Nat), .int .u64 (dg l 7 : Nat)] : Array Value) = #[.int .u64 (dgl (N) 0 : Nat), .int .u64 (dgl (N) 1 : Nat), .int .u64 (dgl (N) 2 : Nat), .int .u64 (dgl (N) 3 : Nat), .int .u64 (dgl (N) 4 : Nat), .int .u64 (dgl (N) 5 : Nat), .int .u64 (dgl (N) 6 : Nat), .int .u64 (dgl (N) 7 : Nat)]) := w8_congr (x := dg l) (y := dgl N) HD.out
    rw [HW.out]
    go_wp2
    exact bodyPost_ret (v := .agg #[.int .u64 (dgl (N) 0 : Nat), .int .u64 (dgl (N) 1 : Nat), .int .u64 (dgl (N) 2 : Nat), .int .u64 (dgl (N) 3 : Nat), .int .u64 (dgl (N) 4 : Nat), .int .u64 (dgl (N) 5 : Nat), .int .u64 (dgl (N) 6 : Nat), .int .u64 (dgl (N) 7 : Nat)]) (by simp [results, Try.results30, go_sem, hr]) rfl ⟨rfl, below_set8 HBL.out _ (by omega) _ _ _ _ _ _ _ _⟩

/-- wide.Of(1). -/
theorem wideOf_one (w : World) (b : Nat) (hb : b = w.heap.size) :
    Calls Try.prog 30 #[.slice (some ⟨b, 0, none⟩) 1 1] (w.alloc (.cells #[.int .u64 1] 22)) fun e w' => e = .returned (.agg #[.int .u64 (dgl (1) 0 : Nat), .int .u64 (dgl (1) 1 : Nat), .int .u64 (dgl (1) 2 : Nat), .int .u64 (dgl (1) 3 : Nat), .int .u64 (dgl (1) 4 : Nat), .int .u64 (dgl (1) 5 : Nat), .int .u64 (dgl (1) 6 : Nat), .int .u64 (dgl (1) 7 : Nat)]) ∧ Below w.heap.size w w' := by
  subst hb
  have hr := Rd.lit (mk := mk64) w 22 [.int .u64 1] [1] rfl 1 (by decide) (by decide)
  refine (wideOf_any [1] 1 _ _ hr ?_).mono ?_
  · intro i hi
    have := (dig_one (β := 18446744073709551616) (a := 1) (by decide)).2 i
    exact this
  · rintro e w' ⟨rfl, h⟩
    exact ⟨rfl, below_alloc_then h⟩

end Go.Proofs.Ytbngaajhdaciaaa

/- Contracts: wide.Power, Mask, Sar. -/
set_option linter.unusedVariables false
set_option linter.unusedSimpArgs false
set_option maxRecDepth 8000
namespace Go.Proofs.Ytbngaajhdaciaaa
open Go.RowKit Plain

theorem one_lt_qq : 1 < QQ := by unfold QQ; exact Nat.one_lt_pow (by decide) (by decide)

set_option maxHeartbeats 400000 in
theorem widePower_any (n : Int) (hn : 0 ≤ n) (w : World) :
    Calls Try.prog 49 #[.int .i64 n] w fun e w' => e = .returned (.agg #[.int .u64 (dgl (sh 1 (roomI n)) 0 : Nat), .int .u64 (dgl (sh 1 (roomI n)) 1 : Nat), .int .u64 (dgl (sh 1 (roomI n)) 2 : Nat), .int .u64 (dgl (sh 1 (roomI n)) 3 : Nat), .int .u64 (dgl (sh 1 (roomI n)) 4 : Nat), .int .u64 (dgl (sh 1 (roomI n)) 5 : Nat), .int .u64 (dgl (sh 1 (roomI n)) 6 : Nat), .int .u64 (dgl (sh 1 (roomI n)) 7 : Nat)]) ∧ Below w.heap.size w w' := by
  have HC := hide (fun w => wideShl_any 1 n one_lt_qq w)
  go_enter Try.func49, Try.ntmps49
  go_wp2_with fail
  refine (wideOf_one _ _ (by simp)).mono ?_
  rintro e w1 ⟨rfl, hb1⟩
  go_wp2_with fail
  refine (HC.out _).mono ?_
  rintro e w2 ⟨rfl, hb2⟩
  replace hb1 := below_trans hb1 hb2
  obtain ⟨hr, hrf, hl⟩ := res_box hb1
  have HB := hide (below_alloc_then hb1)
  clear hb1 hb2
  go_wp2
  exact bodyPost_ret (v := .agg #[.int .u64 (dgl (sh 1 (roomI n)) 0 : Nat), .int .u64 (dgl (sh 1 (roomI n)) 1 : Nat), .int .u64 (dgl (sh 1 (roomI n)) 2 : Nat), .int .u64 (dgl (sh 1 (roomI n)) 3 : Nat), .int .u64 (dgl (sh 1 (roomI n)) 4 : Nat), .int .u64 (dgl (sh 1 (roomI n)) 5 : Nat), .int .u64 (dgl (sh 1 (roomI n)) 6 : Nat), .int .u64 (dgl (sh 1 (roomI n)) 7 : Nat)]) (by simp [results, Try.results49, go_sem, hr]) rfl ⟨rfl, below_set8 HB.out _ (by omega) _ _ _ _ _ _ _ _⟩

/-- a taken with a sign, as far as it is looked at. -/
def extN (a : Nat) : Nat := if a / 2 ^ 511 % 2 == 1 then a + QQ * (18446744073709551616 ^ 16 - 1) else a

theorem dgl_add_mul (a m j : Nat) (hj : j < 8) : dgl (a + QQ * m) j = dgl a j := by
  unfold dgl QQ
  have e : (18446744073709551616 : Nat) ^ 8 = 18446744073709551616 ^ j * (18446744073709551616 * 18446744073709551616 ^ (7 - j)) := by
    rw [← Nat.pow_succ', ← Nat.pow_add]; congr 1; omega
  rw [e, Nat.mul_assoc, Nat.add_mul_div_left _ _ (Nat.pow_pos (by decide)), Nat.mul_assoc, Nat.add_mul_mod_self_left]
theorem dgl_ones (K j : Nat) (hj : j < K) : dgl (18446744073709551616 ^ K - 1) j = 18446744073709551615 := by
  unfold dgl
  have hp : 0 < 18446744073709551616 ^ j := Nat.pow_pos (by decide)
  have e : (18446744073709551616 : Nat) ^ K = 18446744073709551616 ^ j * (18446744073709551616 * 18446744073709551616 ^ (K - 1 - j)) := by
    rw [← Nat.pow_succ', ← Nat.pow_add]; congr 1; omega
  have hq : 0 < 18446744073709551616 ^ (K - 1 - j) := Nat.pow_pos (by decide)
  have e2 : 18446744073709551616 ^ K - 1 = (18446744073709551616 ^ j - 1) + 18446744073709551616 ^ j * (18446744073709551616 * 18446744073709551616 ^ (K - 1 - j) - 1) := by
    rw [e]
    generalize 18446744073709551616 * 18446744073709551616 ^ (K - 1 - j) = t at *
    have ht : 0 < t := by
      rcases Nat.eq_zero_or_pos t with h | h
      · rw [h, Nat.mul_zero] at e; have := Nat.pow_pos (n := K) (show 0 < 18446744073709551616 by decide); omega
      · exact h
    obtain ⟨s, rfl⟩ : ∃ s, t = s + 1 := ⟨t - 1, by omega⟩
    rw [Nat.add_sub_cancel, Nat.mul_add, Nat.mul_one]; omega
  rw [e2, Nat.add_mul_div_left _ _ hp, Nat.div_eq_of_lt (by omega), Nat.zero_add]
  generalize 18446744073709551616 ^ (K - 1 - j) = s at *
  omega
theorem extS {a : Nat} (ha : a < QQ) (hm : (a / 2 ^ 511 % 2 == 1) = true) : Ext (extN a) a 18446744073709551615 := by
  unfold extN
  rw [if_pos hm]
  refine ⟨fun j hj => dgl_add_mul a _ j hj, fun j h1 h2 => ?_⟩
  have := dgl_ones 16 (j - 8) (by omega)
  unfold dgl at this ⊢
  rw [← this]
  have e : (18446744073709551616 : Nat) ^ j = QQ * 18446744073709551616 ^ (j - 8) := by unfold QQ; rw [← Nat.pow_add]; congr 1; omega
  have hq : 0 < QQ := by unfold QQ; exact Nat.pow_pos (by decide)
  rw [e, ← Nat.div_div_eq_div_mul, Nat.add_mul_div_left _ _ hq, Nat.div_eq_of_lt ha, Nat.zero_add]

set_option maxHeartbeats 400000 in
theorem wideSar_any (a : Nat) (n : Int) (ha : a < QQ) (w : World) :
    Calls Try.prog 66 #[.agg #[.int .u64 (dgl (a) 0 : Nat), .int .u64 (dgl (a) 1 : Nat), .int .u64 (dgl (a) 2 : Nat), .int .u64 (dgl (a) 3 : Nat), .int .u64 (dgl (a) 4 : Nat), .int .u64 (dgl (a) 5 : Nat), .int .u64 (dgl (a) 6 : Nat), .int .u64 (dgl (a) 7 : Nat)], .int .i64 n] w fun e w' => e = .returned (.agg #[.int .u64 (dgl (sh (extN a) (-(roomI n))) 0 : Nat), .int .u64 (dgl (sh (extN a) (-(roomI n))) 1 : Nat), .int .u64 (dgl (sh (extN a) (-(roomI n))) 2 : Nat), .int .u64 (dgl (sh (extN a) (-(roomI n))) 3 : Nat), .int .u64 (dgl (sh (extN a) (-(roomI n))) 4 : Nat), .int .u64 (dgl (sh (extN a) (-(roomI n))) 5 : Nat), .int .u64 (dgl (sh (extN a) (-(roomI n))) 6 : Nat), .int .u64 (dgl (sh (extN a) (-(roomI n))) 7 : Nat)]) ∧ Below w.heap.size w w' := by
  have hbd := roomI_bd n
  have HM := hide (fun w => wideMinus_any a ha w)
  have hneg : IntKind.i64.wrap (-(roomI n)) = -(roomI n) := by rw [IntKind.wrap_i64]; omega
  by_cases hm : (a / 2 ^ 511 % 2 == 1) = true
  · have HC := hide (fun w => moved_any a 18446744073709551615 (extN a) (-(roomI n)) w (extS ha hm) (by omega) (by omega))
    rw [hm] at HM
    clear ha hm
    go_enter Try.func66, Try.ntmps66
    go_wp2_with fail
    refine (HM.out _).mono ?_
    rintro e w1 ⟨rfl, hb1⟩
    have hA := (lies_alloc w a 24).alloc (by simp) (.cells #[.int .u64 0, .int .u64 0, .int .u64 0, .int .u64 0, .int .u64 0, .int .u64 0, .int .u64 0, .int .u64 0] 24)
    replace hA := hA.below hb1 (by simp only [World.size_alloc]; omega)
    unfold Lies at hA
    obtain ⟨hr, hrf, hl⟩ := res_box hb1
    simp only [World.size_alloc] at hr hrf hl
    have hBB := below_alloc_then (below_alloc_then hb1)
    clear hb1
    go_wp2
    refine wp_region_still_tail 5 mixedOk (by kernel_rfl) ?_
    simp only [List.take_succ_cons, List.take_zero, List.drop_succ_cons, List.drop_zero]
    change wpStill _ _ (World.drew _) _ _ _
    repeat still_step
    still_call (room_any n _)
    repeat still_step
    refine wpStill_nil ?_
    change wpList _ _ _ _ _ (World.drew _)
    go_wp2_with fail
    rw [show bits .xor .u64 IntKind.u64.max 0 = ((18446744073709551615 : Nat) : Int) from by decide]
    refine (HC.out _).mono ?_
    rintro e w2 ⟨rfl, hb2⟩
    replace hb2 := below_of_drew hb2
    have hr2 : ∀ i, i < 8 → w2.cell? ⟨w.heap.size + 1, i, none⟩ = some (.int .u64 (dgl 0 i : Nat)) := fun i hi => (hb2.cell (p := ⟨w.heap.size + 1, i, none⟩) hl).trans (hr i hi)
    have hrf2 : ∀ i, w2.frozen? ⟨w.heap.size + 1, i, none⟩ = false := fun i => (hb2.frozen (p := ⟨w.heap.size + 1, i, none⟩) hl).trans (hrf i)
    have HB := hide (below_trans hBB hb2)
    clear hr hrf hBB hA hb2
    go_wp2
    exact bodyPost_ret (v := .agg #[.int .u64 (dgl (sh (extN a) (-(roomI n))) 0 : Nat), .int .u64 (dgl (sh (extN a) (-(roomI n))) 1 : Nat), .int .u64 (dgl (sh (extN a) (-(roomI n))) 2 : Nat), .int .u64 (dgl (sh (extN a) (-(roomI n))) 3 : Nat), .int .u64 (dgl (sh (extN a) (-(roomI n))) 4 : Nat), .int .u64 (dgl (sh (extN a) (-(roomI n))) 5 : Nat), .int .u64 (dgl (sh (extN a) (-(roomI n))) 6 : Nat), .int .u64 (dgl (sh (extN a) (-(roomI n))) 7 : Nat)]) (by simp [results, Try.results66, go_sem, hr2]) rfl ⟨rfl, below_set8 HB.out _ (by omega) _ _ _ _ _ _ _ _⟩
  · have hmf : (a / 2 ^ 511 % 2 == 1) = false := Bool.eq_false_iff.2 hm
    have hext : extN a = a := by unfold extN; rw [if_neg hm]
    rw [hext]
    have HC := hide (fun w => moved_any a 0 a (-(roomI n)) w (ext0 ha) (by omega) (by omega))
    rw [hmf] at HM
    clear ha hm hmf hext
    go_enter Try.func66, Try.ntmps66
    go_wp2_with fail
    refine (HM.out _).mono ?_
    rintro e w1 ⟨rfl, hb1⟩
    have hA := (lies_alloc w a 24).alloc (by simp) (.cells #[.int .u64 0, .int .u64 0, .int .u64 0, .int .u64 0, .int .u64 0, .int .u64 0, .int .u64 0, .int .u64 0] 24)
    replace hA := hA.below hb1 (by simp only [World.size_alloc]; omega)
    unfold Lies at hA
    obtain ⟨hr, hrf, hl⟩ := res_box hb1
    simp only [World.size_alloc] at hr hrf hl
    have hBB := below_alloc_then (below_alloc_then hb1)
    clear hb1
    go_wp2
    refine wp_region_still_tail 5 mixedOk (by kernel_rfl) ?_
    simp only [List.take_succ_cons, List.take_zero, List.drop_succ_cons, List.drop_zero]
    change wpStill _ _ (World.drew _) _ _ _
    repeat still_step
    still_call (room_any n _)
    repeat still_step
    refine wpStill_nil ?_
    change wpList _ _ _ _ _ (World.drew _)
    go_wp2_with fail
    refine (HC.out _).mono ?_
    rintro e w2 ⟨rfl, hb2⟩
    replace hb2 := below_of_drew hb2
    have hr2 : ∀ i, i < 8 → w2.cell? ⟨w.heap.size + 1, i, none⟩ = some (.int .u64 (dgl 0 i : Nat)) := fun i hi => (hb2.cell (p := ⟨w.heap.size + 1, i, none⟩) hl).trans (hr i hi)
    have hrf2 : ∀ i, w2.frozen? ⟨w.heap.size + 1, i, none⟩ = false := fun i => (hb2.frozen (p := ⟨w.heap.size + 1, i, none⟩) hl).trans (hrf i)
    have HB := hide (below_trans hBB hb2)
    clear hr hrf hBB hA hb2
    go_wp2
    exact bodyPost_ret (v := .agg #[.int .u64 (dgl (sh (a) (-(roomI n))) 0 : Nat), .int .u64 (dgl (sh (a) (-(roomI n))) 1 : Nat), .int .u64 (dgl (sh (a) (-(roomI n))) 2 : Nat), .int .u64 (dgl (sh (a) (-(roomI n))) 3 : Nat), .int .u64 (dgl (sh (a) (-(roomI n))) 4 : Nat), .int .u64 (dgl (sh (a) (-(roomI n))) 5 : Nat), .int .u64 (dgl (sh (a) (-(roomI n))) 6 : Nat), .int .u64 (dgl (sh (a) (-(roomI n))) 7 : Nat)]) (by simp [results, Try.results66, go_sem, hr2]) rfl ⟨rfl, below_set8 HB.out _ (by omega) _ _ _ _ _ _ _ _⟩

end Go.Proofs.Ytbngaajhdaciaaa

/- radicandlaw02.awake. -/
set_option linter.unusedVariables false
set_option linter.unusedSimpArgs false
set_option maxRecDepth 8000
namespace Go.Proofs.Ytbngaajhdaciaaa
open Go.RowKit Plain

end Go.Proofs.Ytbngaajhdaciaaa

