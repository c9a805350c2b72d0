/- Contracts and laws: WideE, WideF, WideG, WideH. -/
import Derived.Test.YteocibahclpegaaPartAH
import Derived.Deep.DeepCutAuto
/- Contracts: wide.room, Shl, Len, Bit, Minus, Of. -/
set_option linter.unusedVariables false
set_option linter.unusedSimpArgs false
set_option maxRecDepth 8000
namespace Go.Proofs.Yteocibahclpegaa
open Go.RowKit Plain

theorem below_of_drew {X w1 : World} (h : Below X.drew.heap.size X.drew w1) : Below X.heap.size X w1 := ⟨h.os, h.tape, h.output, h.size, h.block⟩

/-- A shift, from 0 to 512. -/
def roomI (n : Int) : Int := min (max n 0) 512
theorem roomI_bd (n : Int) : 0 ≤ roomI n ∧ roomI n ≤ 512 := by unfold roomI; omega

set_option maxHeartbeats 400000 in
theorem room_any (n : Int) (w : World) : Calls Try.prog 98 #[.int .i64 n] w fun e w' => e = .returned (.int .i64 (roomI n)) ∧ w' = w := by
  go_enter Try.func98, Try.ntmps98
  go_wp2
  all_goals
    go_ret
    exact ⟨ret_int (by unfold roomI; omega), rfl⟩

theorem ext0 {a : Nat} (ha : a < QQ) : Ext a a 0 := by
  refine ⟨fun j _ => rfl, fun j hj _ => ?_⟩
  unfold dgl
  rw [Nat.div_eq_of_lt (Nat.lt_of_lt_of_le ha (Nat.pow_le_pow_right (by decide) hj))]

set_option maxHeartbeats 400000 in
theorem wideShl_any (a : Nat) (n : Int) (ha : a < QQ) (w : World) :
    Calls Try.prog 78 #[.agg #[.int .u64 (dgl (a) 0 : Nat), .int .u64 (dgl (a) 1 : Nat), .int .u64 (dgl (a) 2 : Nat), .int .u64 (dgl (a) 3 : Nat), .int .u64 (dgl (a) 4 : Nat), .int .u64 (dgl (a) 5 : Nat), .int .u64 (dgl (a) 6 : Nat), .int .u64 (dgl (a) 7 : Nat)], .int .i64 n] w fun e w' => e = .returned (.agg #[.int .u64 (dgl (sh a (roomI n)) 0 : Nat), .int .u64 (dgl (sh a (roomI n)) 1 : Nat), .int .u64 (dgl (sh a (roomI n)) 2 : Nat), .int .u64 (dgl (sh a (roomI n)) 3 : Nat), .int .u64 (dgl (sh a (roomI n)) 4 : Nat), .int .u64 (dgl (sh a (roomI n)) 5 : Nat), .int .u64 (dgl (sh a (roomI n)) 6 : Nat), .int .u64 (dgl (sh a (roomI n)) 7 : Nat)]) ∧ Below w.heap.size w w' := by
  have hbd := roomI_bd n
  have HC := hide (fun w => moved_any a 0 a (roomI n) w (ext0 ha) (by omega) (by omega))
  clear ha
  go_enter Try.func78, Try.ntmps78
  go_wp2
  refine wp_region_still_tail 3 mixedOk (by kernel_rfl) ?_
  simp only [List.take_succ_cons, List.take_zero, List.drop_succ_cons, List.drop_zero]
  change wpStill _ _ (World.drew _) _ _ _
  repeat still_step
  still_call (room_any n _)
  repeat still_step
  refine wpStill_nil ?_
  change wpList _ _ _ _ _ (World.drew _)
  go_wp2_with fail
  refine (HC.out _).mono ?_
  rintro e w1 ⟨rfl, hb1⟩
  replace hb1 := below_of_drew hb1
  obtain ⟨hr, hrf, hl⟩ := res_box hb1
  simp only [World.size_alloc] at hr hrf hl
  have HB := hide (below_alloc_then (below_alloc_then hb1))
  clear hb1
  go_wp2
  exact bodyPost_ret (v := .agg #[.int .u64 (dgl (sh a (roomI n)) 0 : Nat), .int .u64 (dgl (sh a (roomI n)) 1 : Nat), .int .u64 (dgl (sh a (roomI n)) 2 : Nat), .int .u64 (dgl (sh a (roomI n)) 3 : Nat), .int .u64 (dgl (sh a (roomI n)) 4 : Nat), .int .u64 (dgl (sh a (roomI n)) 5 : Nat), .int .u64 (dgl (sh a (roomI n)) 6 : Nat), .int .u64 (dgl (sh a (roomI n)) 7 : Nat)]) (by simp [results, Try.results78, go_sem, hr]) rfl ⟨rfl, below_set8 HB.out _ (by omega) _ _ _ _ _ _ _ _⟩

/-- The slice over a block of limbs. -/
theorem rd_block {w : World} {b a : Nat} (h : Lies w b a) (hb : b < w.heap.size) : Rd mk64 w (.slice (some ⟨b, 0, none⟩) 8 8) (dl 18446744073709551616 a 8) := by
  refine ⟨_, 8, by rw [dl_length], by rw [dl_length]; omega, by simp [maxLen], .inr ⟨b, 0, rfl, hb, fun i hi => ?_⟩⟩
  rw [dl_length] at hi
  rw [Nat.zero_add, h i hi]
  have : dg (dl 18446744073709551616 a 8) i = dgl a i := by simp [dg, dl, hi, dgl]
  rw [this]; rfl
theorem dig_block {a : Nat} (ha : a < QQ) : Dig 18446744073709551616 (dl 18446744073709551616 a 8) a := dl_dig _ a 8 ha (by decide)

set_option maxHeartbeats 400000 in
theorem wideLen_any (a : Nat) (ha : a < QQ) (w : World) :
    Calls Try.prog 46 #[.agg #[.int .u64 (dgl (a) 0 : Nat), .int .u64 (dgl (a) 1 : Nat), .int .u64 (dgl (a) 2 : Nat), .int .u64 (dgl (a) 3 : Nat), .int .u64 (dgl (a) 4 : Nat), .int .u64 (dgl (a) 5 : Nat), .int .u64 (dgl (a) 6 : Nat), .int .u64 (dgl (a) 7 : Nat)]] w fun e w' => e = .returned (.int .i64 (Go.bitLen a : Nat)) ∧ Below w.heap.size w w' := by
  have hr := rd_block (lies_alloc w a 32) (by simp)
  have HR := hide hr
  have HD := hide (dig_block ha)
  clear hr ha
  go_enter Try.func46, Try.ntmps46
  go_wp2_with (go_at_call 74; refine (len_any a _ _ _ HR.out HD.out (by rw [dl_length]; omega)).mono ?_; rintro e w' ⟨rfl, hw⟩; subst w')
  go_ret
  exact ⟨rfl, (Below.refl _ _).alloc (Nat.le_refl _) _⟩

end Go.Proofs.Yteocibahclpegaa

/- Contracts: wide.Of, Power, Mask, Sar. -/
set_option linter.unusedVariables false
set_option linter.unusedSimpArgs false
set_option maxRecDepth 8000
namespace Go.Proofs.Yteocibahclpegaa
open Go.RowKit Plain

end Go.Proofs.Yteocibahclpegaa

/- Contracts: wide.Power, Mask, Sar. -/
set_option linter.unusedVariables false
set_option linter.unusedSimpArgs false
set_option maxRecDepth 8000
namespace Go.Proofs.Yteocibahclpegaa
open Go.RowKit Plain

end Go.Proofs.Yteocibahclpegaa

/- radicandlaw02.awake. -/
set_option linter.unusedVariables false
set_option linter.unusedSimpArgs false
set_option maxRecDepth 8000
namespace Go.Proofs.Yteocibahclpegaa
open Go.RowKit Plain

end Go.Proofs.Yteocibahclpegaa

