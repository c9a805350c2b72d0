/- Contracts and laws: WideE, WideF, WideG, WideH. -/
import Derived.Test.YteocibahclpegaaPartAI
import Derived.Deep.DeepCutAuto
/- Contracts: wide.room, Shl, Len, Bit, Minus, Of. -/
set_option linter.unusedVariables false
set_option linter.unusedSimpArgs false
set_option maxRecDepth 8000
namespace Go.Proofs.Yteocibahclpegaa
open Go.RowKit Plain

theorem below_of_drew {X w1 : World} (h : Below X.drew.heap.size X.drew w1) : Below X.heap.size X w1 := ⟨h.os, h.tape, h.output, h.size, h.block⟩

/-- A shift, from 0 to 512. -/
def roomI (n : Int) : Int := min (max n 0) 512
theorem roomI_bd (n : Int) : 0 ≤ roomI n ∧ roomI n ≤ 512 := by unfold roomI; omega

set_option maxHeartbeats 400000 in
theorem room_any (n : Int) (w : World) : Calls Try.prog 98 #[.int .i64 n] w fun e w' => e = .returned (.int .i64 (roomI n)) ∧ w' = w := by
  go_enter Try.func98, Try.ntmps98
  go_wp2
  all_goals
    go_ret
    exact ⟨ret_int (by unfold roomI; omega), rfl⟩

theorem ext0 {a : Nat} (ha : a < QQ) : Ext a a 0 := by
  refine ⟨fun j _ => rfl, fun j hj _ => ?_⟩
  unfold dgl
  rw [Nat.div_eq_of_lt (Nat.lt_of_lt_of_le ha (Nat.pow_le_pow_right (by decide) hj))]

set_option maxHeartbeats 400000 in
theorem wideShl_any (a : Nat) (n : Int) (ha : a < QQ) (w : World) :
    Calls Try.prog 78 #[.agg #[.int .u64 (dgl (a) 0 : Nat), .int .u64 (dgl (a) 1 : Nat), .int .u64 (dgl (a) 2 : Nat), .int .u64 (dgl (a) 3 : Nat), .int .u64 (dgl (a) 4 : Nat), .int .u64 (dgl (a) 5 : Nat), .int .u64 (dgl (a) 6 : Nat), .int .u64 (dgl (a) 7 : Nat)], .int .i64 n] w fun e w' => e = .returned (.agg #[.int .u64 (dgl (sh a (roomI n)) 0 : Nat), .int .u64 (dgl (sh a (roomI n)) 1 : Nat), .int .u64 (dgl (sh a (roomI n)) 2 : Nat), .int .u64 (dgl (sh a (roomI n)) 3 : Nat), .int .u64 (dgl (sh a (roomI n)) 4 : Nat), .int .u64 (dgl (sh a (roomI n)) 5 : Nat), .int .u64 (dgl (sh a (roomI n)) 6 : Nat), .int .u64 (dgl (sh a (roomI n)) 7 : Nat)]) ∧ Below w.heap.size w w' := by
  have hbd := roomI_bd n
  have HC := hide (fun w => moved_any a 0 a (roomI n) w (ext0 ha) (by omega) (by omega))
  clear ha
  go_enter Try.func78, Try.ntmps78
  go_wp2
  refine wp_region_still_tail 3 mixedOk (by kernel_rfl) ?_
  simp only [List.take_succ_cons, List.take_zero, List.drop_succ_cons, List.drop_zero]
  change wpStill _ _ (World.drew _) _ _ _
  repeat still_step
  still_call (room_any n _)
  repeat still_step
  refine wpStill_nil ?_
  change wpList _ _ _ _ _ (World.drew _)
  go_wp2_with fail
  refine (HC.out _).mono ?_
  rintro e w1 ⟨rfl, hb1⟩
  replace hb1 := below_of_drew hb1
  obtain ⟨hr, hrf, hl⟩ := res_box hb1
  simp only [World.size_alloc] at hr hrf hl
  have HB := hide (below_alloc_then (below_alloc_then hb1))
  clear hb1
  go_wp2
  exact bodyPost_ret (v := .agg #[.int .u64 (dgl (sh a (roomI n)) 0 : Nat), .int .u64 (dgl (sh a (roomI n)) 1 : Nat), .int .u64 (dgl (sh a (roomI n)) 2 : Nat), .int .u64 (dgl (sh a (roomI n)) 3 : Nat), .int .u64 (dgl (sh a (roomI n)) 4 : Nat), .int .u64 (dgl (sh a (roomI n)) 5 : Nat), .int .u64 (dgl (sh a (roomI n)) 6 : Nat), .int .u64 (dgl (sh a (roomI n)) 7 : Nat)]) (by simp [results, Try.results78, go_sem, hr]) rfl ⟨rfl, below_set8 HB.out _ (by omega) _ _ _ _ _ _ _ _⟩

/-- The slice over a block of limbs. -/
theorem rd_block {w : World} {b a : Nat} (h : Lies w b a) (hb : b < w.heap.size) : Rd mk64 w (.slice (some ⟨b, 0, none⟩) 8 8) (dl 18446744073709551616 a 8) := by
  refine ⟨_, 8, by rw [dl_length], by rw [dl_length]; omega, by simp [maxLen], .inr ⟨b, 0, rfl, hb, fun i hi => ?_⟩⟩
  rw [dl_length] at hi
  rw [Nat.zero_add, h i hi]
  have : dg (dl 18446744073709551616 a 8) i = dgl a i := by simp [dg, dl, hi, dgl]
  rw [this]; rfl
theorem dig_block {a : Nat} (ha : a < QQ) : Dig 18446744073709551616 (dl 18446744073709551616 a 8) a := dl_dig _ a 8 ha (by decide)

set_option maxHeartbeats 400000 in
theorem wideLen_any (a : Nat) (ha : a < QQ) (w : World) :
    Calls Try.prog 46 #[.agg #[.int .u64 (dgl (a) 0 : Nat), .int .u64 (dgl (a) 1 : Nat), .int .u64 (dgl (a) 2 : Nat), .int .u64 (dgl (a) 3 : Nat), .int .u64 (dgl (a) 4 : Nat), .int .u64 (dgl (a) 5 : Nat), .int .u64 (dgl (a) 6 : Nat), .int .u64 (dgl (a) 7 : Nat)]] w fun e w' => e = .returned (.int .i64 (Go.bitLen a : Nat)) ∧ Below w.heap.size w w' := by
  have hr := rd_block (lies_alloc w a 32) (by simp)
  have HR := hide hr
  have HD := hide (dig_block ha)
  clear hr ha
  go_enter Try.func46, Try.ntmps46
  go_wp2_with (go_at_call 74; refine (len_any a _ _ _ HR.out HD.out (by rw [dl_length]; omega)).mono ?_; rintro e w' ⟨rfl, hw⟩; subst w')
  go_ret
  exact ⟨rfl, (Below.refl _ _).alloc (Nat.le_refl _) _⟩

end Go.Proofs.Yteocibahclpegaa

/- Contracts: wide.Of, Power, Mask, Sar. -/
set_option linter.unusedVariables false
set_option linter.unusedSimpArgs false
set_option maxRecDepth 8000
namespace Go.Proofs.Yteocibahclpegaa
open Go.RowKit Plain

set_option maxHeartbeats 400000 in
theorem of1_any (A i : Nat) (l : List Nat) (v : Value) (w : World) (hr : Rd mk64 w v l) (cA : w.cell? ⟨A, 0, none⟩ = some v) (hi : i < 8) :
    Calls Try.prog 88 #[.int .i64 i, .pointer (some ⟨A, 0, none⟩)] w fun e w' => e = .returned (.int .u64 (dg l i : Nat)) ∧ w' = w := by
  obtain ⟨ao, cap, rfl, hc, hm, hr⟩ := hr
  unfold maxLen at hm
  by_cases h1 : i < l.length
  · rcases hr with hr | ⟨b, off, rfl, hlt, hcell⟩
    · omega
    · have hck : w.cell? ⟨b, off + i, none⟩ = some (.int .u64 (dg l i : Nat)) := hcell i h1
      clear hcell hc
      have hj : (i : Int) < (l.length : Int) := by omega
      go_enter Try.func88, Try.ntmps88
      go_wp2
      go_ret
      exact ⟨rfl, rfl⟩
  · have HO : Hid (dg l i = 0) := getD_past l i (by omega)
    clear hr
    go_enter Try.func88, Try.ntmps88
    go_wp2
    go_ret
    exact ⟨ret_int (by rw [HO.out]; rfl), rfl⟩

theorem app1 (x a : Value) : (#[x] ++ #[a] : Array Value) = #[x, a] := rfl

/-- What the closure of wide.Of finds in its box. -/
structure OfInv (B : Nat) (v : Value) (w wr : World) : Prop where
  a : wr.cell? ⟨B, 0, none⟩ = some v
  r : Lies wr (B + 1) 0
  rf : ∀ i, wr.frozen? ⟨B + 1, i, none⟩ = false
  bel : Below B w wr
theorem OfInv.below {B : Nat} {v : Value} {w wr wr' : World} (h : OfInv B v w wr) (hb : Below (B + 1 + 1) wr wr') : OfInv B v w wr' :=
  ⟨(hb.cell (p := ⟨B, 0, none⟩) (show B < B + 1 + 1 by omega)).trans h.a, h.r.below hb (by omega), fun i => (hb.frozen (p := ⟨B + 1, i, none⟩) (show B + 1 < B + 1 + 1 by omega)).trans (h.rf i), h.bel.trans (hb.mono (by omega))⟩
theorem OfInv.start (w : World) (v : Value) :
    OfInv w.heap.size v w ((w.alloc (Obj.cells #[v] 90)).alloc (Obj.cells #[.int .u64 0, .int .u64 0, .int .u64 0, .int .u64 0, .int .u64 0, .int .u64 0, .int .u64 0, .int .u64 0] 32)) := by
  have hR := lies_alloc0 (w.alloc (Obj.cells #[v] 90)) 32
  simp only [World.size_alloc] at hR
  exact ⟨by simp [go_sem], hR, fun i => by simp [go_sem], Below.alloc (Below.alloc (Below.refl _ _) (Nat.le_refl _) _) (by simp) _⟩

set_option maxHeartbeats 1000000 in
theorem wideOf_any (l : List Nat) (N : Nat) (v : Value) (w : World) (hr : Rd mk64 w v l) (hd : ∀ i, i < 8 → dg l i = dgl N i) :
    Calls Try.prog 66 #[v] w fun e w' => e = .returned (.agg #[.int .u64 (dgl (N) 0 : Nat), .int .u64 (dgl (N) 1 : Nat), .int .u64 (dgl (N) 2 : Nat), .int .u64 (dgl (N) 3 : Nat), .int .u64 (dgl (N) 4 : Nat), .int .u64 (dgl (N) 5 : Nat), .int .u64 (dgl (N) 6 : Nat), .int .u64 (dgl (N) 7 : Nat)]) ∧ Below w.heap.size w w' := by
  have hr' := hr
  obtain ⟨ao, ca, rfl, hca, hma, -⟩ := hr'
  have RA := hide hr
  have HD := hide hd
  clear hr hd
  go_enter Try.func66, Try.ntmps66
  go_wp2_with fail
  refine (each_any 88 _ (fun j => dg l j) (fun _ wr => OfInv w.heap.size (Value.slice ao l.length ca) w wr) none _ (enters_of Try.func88 (by kernel_rfl) rfl) (by intro c hc; cases hc) ?_ ?_ ?_).mono ?_
  · intro i wr hi hI hsz
    rw [app1]
    refine (of1_any w.heap.size i l _ wr (RA.out.below hI.bel) hI.a hi).mono ?_
    rintro e w' ⟨rfl, rfl⟩
    exact ⟨rfl, hI, grownBy_refl _ _⟩
  · intro i wr wr' hI hb
    exact hI.below (hb.mono (by simp))
  · exact OfInv.start w _
  · rintro e w1 ⟨rfl, hI, hg⟩
    have hsz := hg.size
    simp only [World.size_alloc] at hsz
    have hr := hI.r
    have hrf := hI.rf
    have HBL := hide hI.bel
    clear hg hI
    unfold Lies at hr
    have hl1 : w.heap.size + 1 < w1.heap.size := by omega
    have HW : Hid ((#[.int .u64 (dg l 0 : Nat), .int .u64 (dg l 1 : Nat), .int .u64 (dg l 2 : Nat), .int .u64 (dg l 3 : Nat), .int .u64 (dg l 4 : Nat), .int .u64 (dg l 5 : Nat), .int .u64 (dg l 6 : Nat), .int .u64 (dg l 7 : Nat)] : Array Value) = #[.int .u64 (dgl (N) 0 : Nat), .int .u64 (dgl (N) 1 : Nat), .int .u64 (dgl (N) 2 : Nat), .int .u64 (dgl (N) 3 : Nat), .int .u64 (dgl (N) 4 : Nat), .int .u64 (dgl (N) 5 : Nat), .int .u64 (dgl (N) 6 : Nat), .int .u64 (dgl (N) 7 : Nat)]) := w8_congr (x := dg l) (y := dgl N) HD.out
    rw [HW.out]
    go_wp2
    exact bodyPost_ret (v := .agg #[.int .u64 (dgl (N) 0 : Nat), .int .u64 (dgl (N) 1 : Nat), .int .u64 (dgl (N) 2 : Nat), .int .u64 (dgl (N) 3 : Nat), .int .u64 (dgl (N) 4 : Nat), .int .u64 (dgl (N) 5 : Nat), .int .u64 (dgl (N) 6 : Nat), .int .u64 (dgl (N) 7 : Nat)]) (by simp [results, Try.results66, go_sem, hr]) rfl ⟨rfl, below_set8 HBL.out _ (by omega) _ _ _ _ _ _ _ _⟩

/-- wide.Of(1). -/
theorem wideOf_one (w : World) (b : Nat) (hb : b = w.heap.size) :
    Calls Try.prog 66 #[.slice (some ⟨b, 0, none⟩) 1 1] (w.alloc (.cells #[.int .u64 1] 24)) fun e w' => e = .returned (.agg #[.int .u64 (dgl (1) 0 : Nat), .int .u64 (dgl (1) 1 : Nat), .int .u64 (dgl (1) 2 : Nat), .int .u64 (dgl (1) 3 : Nat), .int .u64 (dgl (1) 4 : Nat), .int .u64 (dgl (1) 5 : Nat), .int .u64 (dgl (1) 6 : Nat), .int .u64 (dgl (1) 7 : Nat)]) ∧ Below w.heap.size w w' := by
  subst hb
  have hr := Rd.lit (mk := mk64) w 24 [.int .u64 1] [1] rfl 1 (by decide) (by decide)
  refine (wideOf_any [1] 1 _ _ hr ?_).mono ?_
  · intro i hi
    have := (dig_one (β := 18446744073709551616) (a := 1) (by decide)).2 i
    exact this
  · rintro e w' ⟨rfl, h⟩
    exact ⟨rfl, below_alloc_then h⟩

end Go.Proofs.Yteocibahclpegaa

/- Contracts: wide.Power, Mask, Sar. -/
set_option linter.unusedVariables false
set_option linter.unusedSimpArgs false
set_option maxRecDepth 8000
namespace Go.Proofs.Yteocibahclpegaa
open Go.RowKit Plain

theorem one_lt_qq : 1 < QQ := by unfold QQ; exact Nat.one_lt_pow (by decide) (by decide)

set_option maxHeartbeats 400000 in
theorem widePower_any (n : Int) (hn : 0 ≤ n) (w : World) :
    Calls Try.prog 64 #[.int .i64 n] w fun e w' => e = .returned (.agg #[.int .u64 (dgl (sh 1 (roomI n)) 0 : Nat), .int .u64 (dgl (sh 1 (roomI n)) 1 : Nat), .int .u64 (dgl (sh 1 (roomI n)) 2 : Nat), .int .u64 (dgl (sh 1 (roomI n)) 3 : Nat), .int .u64 (dgl (sh 1 (roomI n)) 4 : Nat), .int .u64 (dgl (sh 1 (roomI n)) 5 : Nat), .int .u64 (dgl (sh 1 (roomI n)) 6 : Nat), .int .u64 (dgl (sh 1 (roomI n)) 7 : Nat)]) ∧ Below w.heap.size w w' := by
  have HC := hide (fun w => wideShl_any 1 n one_lt_qq w)
  go_enter Try.func64, Try.ntmps64
  go_wp2_with fail
  refine (wideOf_one _ _ (by simp)).mono ?_
  rintro e w1 ⟨rfl, hb1⟩
  go_wp2_with fail
  refine (HC.out _).mono ?_
  rintro e w2 ⟨rfl, hb2⟩
  replace hb1 := below_trans hb1 hb2
  obtain ⟨hr, hrf, hl⟩ := res_box hb1
  have HB := hide (below_alloc_then hb1)
  clear hb1 hb2
  go_wp2
  exact bodyPost_ret (v := .agg #[.int .u64 (dgl (sh 1 (roomI n)) 0 : Nat), .int .u64 (dgl (sh 1 (roomI n)) 1 : Nat), .int .u64 (dgl (sh 1 (roomI n)) 2 : Nat), .int .u64 (dgl (sh 1 (roomI n)) 3 : Nat), .int .u64 (dgl (sh 1 (roomI n)) 4 : Nat), .int .u64 (dgl (sh 1 (roomI n)) 5 : Nat), .int .u64 (dgl (sh 1 (roomI n)) 6 : Nat), .int .u64 (dgl (sh 1 (roomI n)) 7 : Nat)]) (by simp [results, Try.results64, go_sem, hr]) rfl ⟨rfl, below_set8 HB.out _ (by omega) _ _ _ _ _ _ _ _⟩

end Go.Proofs.Yteocibahclpegaa

/- radicandlaw02.awake. -/
set_option linter.unusedVariables false
set_option linter.unusedSimpArgs false
set_option maxRecDepth 8000
namespace Go.Proofs.Yteocibahclpegaa
open Go.RowKit Plain

end Go.Proofs.Yteocibahclpegaa

