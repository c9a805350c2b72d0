/- Contracts and laws: FmtE. -/
import Derived.Test.YtidfegilddlglaaDoorXFmtD
/- Contracts: format.made with its numbers, and Inf, NaN, Max, Least, One, Nought. -/
set_option linter.unusedVariables false
set_option linter.unusedSimpArgs false
set_option maxRecDepth 8000
namespace Go.Proofs.YtidfegilddlglaaDoor
open Go.RowKit Plain

theorem q200 : 2 ^ 200 < QQ := by decide +kernel

theorem made_1 (neg : Bool) (fid : Nat) (a b : Nat) (hent : ∀ args w, (callFunc fid args).run Tryd.prog w = .ok (.enter fid args) w) (ha : a < 2 ^ 5) (hb : b < 2 ^ 10)
    (HPA : Hid (∀ w, Calls Tryd.prog fid #[.agg #[.int .i64 16, .int .i64 11, .int .i64 15, .int .i64 (-14), .int .i64 5]] w fun e w' => e = .returned (.tuple #[.agg #[.int .u64 (dgl (a) 0 : Nat), .int .u64 (dgl (a) 1 : Nat), .int .u64 (dgl (a) 2 : Nat), .int .u64 (dgl (a) 3 : Nat), .int .u64 (dgl (a) 4 : Nat), .int .u64 (dgl (a) 5 : Nat), .int .u64 (dgl (a) 6 : Nat), .int .u64 (dgl (a) 7 : Nat)], .agg #[.int .u64 (dgl (b) 0 : Nat), .int .u64 (dgl (b) 1 : Nat), .int .u64 (dgl (b) 2 : Nat), .int .u64 (dgl (b) 3 : Nat), .int .u64 (dgl (b) 4 : Nat), .int .u64 (dgl (b) 5 : Nat), .int .u64 (dgl (b) 6 : Nat), .int .u64 (dgl (b) 7 : Nat)]]) ∧ Below w.heap.size w w')) (w : World) (hg : FmtG w) :
    Calls Tryd.prog 105 #[.int .i64 1, .bool neg, .func (.func fid) #[] #[]] w fun e w' => e = .returned (.agg #[.int .u64 (dgl (a * 2 ^ 10 + b + (bif neg then 2 ^ 15 else 0)) 1 : Nat), .int .u64 (dgl (a * 2 ^ 10 + b + (bif neg then 2 ^ 15 else 0)) 0 : Nat)]) ∧ Below w.heap.size w w' := by
  have hQ := q200
  have h1 := fun w => wideShl_any a 10 (by omega) w
  rw [show roomI 10 = ((10 : Nat) : Int) by decide, sh_up] at h1
  have h2 := fun w => wideAdd_any (a * 2 ^ 10) b (by omega) (by omega) w
  have h3 := fun w => widePower_any 15 (by decide) w
  rw [show roomI 15 = ((15 : Nat) : Int) by decide, sh_up, Nat.one_mul] at h3
  have h4 := fun w => wideAdd_any (a * 2 ^ 10 + b) (2 ^ 15) (by omega) (by omega) w
  have h := made_walk 1 neg fid (fun i => [16, 11, 15, -14, 5].getD i 0) a b (a * 2 ^ 10) (a * 2 ^ 10 + b) (2 ^ 15) (a * 2 ^ 10 + b + 2 ^ 15) _ _ hent (by decide +kernel) (by decide +kernel) (fun w hg => of_1 w hg) HPA h1 h2 h3 h4 w hg
  rw [show (bif neg then a * 2 ^ 10 + b + 2 ^ 15 else a * 2 ^ 10 + b) = a * 2 ^ 10 + b + (bif neg then 2 ^ 15 else 0) by cases neg <;> simp only [cond_true, cond_false, Nat.add_zero]] at h
  exact h

theorem made_2 (neg : Bool) (fid : Nat) (a b : Nat) (hent : ∀ args w, (callFunc fid args).run Tryd.prog w = .ok (.enter fid args) w) (ha : a < 2 ^ 8) (hb : b < 2 ^ 23)
    (HPA : Hid (∀ w, Calls Tryd.prog fid #[.agg #[.int .i64 32, .int .i64 24, .int .i64 127, .int .i64 (-126), .int .i64 8]] w fun e w' => e = .returned (.tuple #[.agg #[.int .u64 (dgl (a) 0 : Nat), .int .u64 (dgl (a) 1 : Nat), .int .u64 (dgl (a) 2 : Nat), .int .u64 (dgl (a) 3 : Nat), .int .u64 (dgl (a) 4 : Nat), .int .u64 (dgl (a) 5 : Nat), .int .u64 (dgl (a) 6 : Nat), .int .u64 (dgl (a) 7 : Nat)], .agg #[.int .u64 (dgl (b) 0 : Nat), .int .u64 (dgl (b) 1 : Nat), .int .u64 (dgl (b) 2 : Nat), .int .u64 (dgl (b) 3 : Nat), .int .u64 (dgl (b) 4 : Nat), .int .u64 (dgl (b) 5 : Nat), .int .u64 (dgl (b) 6 : Nat), .int .u64 (dgl (b) 7 : Nat)]]) ∧ Below w.heap.size w w')) (w : World) (hg : FmtG w) :
    Calls Tryd.prog 105 #[.int .i64 2, .bool neg, .func (.func fid) #[] #[]] w fun e w' => e = .returned (.agg #[.int .u64 (dgl (a * 2 ^ 23 + b + (bif neg then 2 ^ 31 else 0)) 1 : Nat), .int .u64 (dgl (a * 2 ^ 23 + b + (bif neg then 2 ^ 31 else 0)) 0 : Nat)]) ∧ Below w.heap.size w w' := by
  have hQ := q200
  have h1 := fun w => wideShl_any a 23 (by omega) w
  rw [show roomI 23 = ((23 : Nat) : Int) by decide, sh_up] at h1
  have h2 := fun w => wideAdd_any (a * 2 ^ 23) b (by omega) (by omega) w
  have h3 := fun w => widePower_any 31 (by decide) w
  rw [show roomI 31 = ((31 : Nat) : Int) by decide, sh_up, Nat.one_mul] at h3
  have h4 := fun w => wideAdd_any (a * 2 ^ 23 + b) (2 ^ 31) (by omega) (by omega) w
  have h := made_walk 2 neg fid (fun i => [32, 24, 127, -126, 8].getD i 0) a b (a * 2 ^ 23) (a * 2 ^ 23 + b) (2 ^ 31) (a * 2 ^ 23 + b + 2 ^ 31) _ _ hent (by decide +kernel) (by decide +kernel) (fun w hg => of_2 w hg) HPA h1 h2 h3 h4 w hg
  rw [show (bif neg then a * 2 ^ 23 + b + 2 ^ 31 else a * 2 ^ 23 + b) = a * 2 ^ 23 + b + (bif neg then 2 ^ 31 else 0) by cases neg <;> simp only [cond_true, cond_false, Nat.add_zero]] at h
  exact h

theorem made_3 (neg : Bool) (fid : Nat) (a b : Nat) (hent : ∀ args w, (callFunc fid args).run Tryd.prog w = .ok (.enter fid args) w) (ha : a < 2 ^ 11) (hb : b < 2 ^ 52)
    (HPA : Hid (∀ w, Calls Tryd.prog fid #[.agg #[.int .i64 64, .int .i64 53, .int .i64 1023, .int .i64 (-1022), .int .i64 11]] w fun e w' => e = .returned (.tuple #[.agg #[.int .u64 (dgl (a) 0 : Nat), .int .u64 (dgl (a) 1 : Nat), .int .u64 (dgl (a) 2 : Nat), .int .u64 (dgl (a) 3 : Nat), .int .u64 (dgl (a) 4 : Nat), .int .u64 (dgl (a) 5 : Nat), .int .u64 (dgl (a) 6 : Nat), .int .u64 (dgl (a) 7 : Nat)], .agg #[.int .u64 (dgl (b) 0 : Nat), .int .u64 (dgl (b) 1 : Nat), .int .u64 (dgl (b) 2 : Nat), .int .u64 (dgl (b) 3 : Nat), .int .u64 (dgl (b) 4 : Nat), .int .u64 (dgl (b) 5 : Nat), .int .u64 (dgl (b) 6 : Nat), .int .u64 (dgl (b) 7 : Nat)]]) ∧ Below w.heap.size w w')) (w : World) (hg : FmtG w) :
    Calls Tryd.prog 105 #[.int .i64 3, .bool neg, .func (.func fid) #[] #[]] w fun e w' => e = .returned (.agg #[.int .u64 (dgl (a * 2 ^ 52 + b + (bif neg then 2 ^ 63 else 0)) 1 : Nat), .int .u64 (dgl (a * 2 ^ 52 + b + (bif neg then 2 ^ 63 else 0)) 0 : Nat)]) ∧ Below w.heap.size w w' := by
  have hQ := q200
  have h1 := fun w => wideShl_any a 52 (by omega) w
  rw [show roomI 52 = ((52 : Nat) : Int) by decide, sh_up] at h1
  have h2 := fun w => wideAdd_any (a * 2 ^ 52) b (by omega) (by omega) w
  have h3 := fun w => widePower_any 63 (by decide) w
  rw [show roomI 63 = ((63 : Nat) : Int) by decide, sh_up, Nat.one_mul] at h3
  have h4 := fun w => wideAdd_any (a * 2 ^ 52 + b) (2 ^ 63) (by omega) (by omega) w
  have h := made_walk 3 neg fid (fun i => [64, 53, 1023, -1022, 11].getD i 0) a b (a * 2 ^ 52) (a * 2 ^ 52 + b) (2 ^ 63) (a * 2 ^ 52 + b + 2 ^ 63) _ _ hent (by decide +kernel) (by decide +kernel) (fun w hg => of_3 w hg) HPA h1 h2 h3 h4 w hg
  rw [show (bif neg then a * 2 ^ 52 + b + 2 ^ 63 else a * 2 ^ 52 + b) = a * 2 ^ 52 + b + (bif neg then 2 ^ 63 else 0) by cases neg <;> simp only [cond_true, cond_false, Nat.add_zero]] at h
  exact h

theorem made_4 (neg : Bool) (fid : Nat) (a b : Nat) (hent : ∀ args w, (callFunc fid args).run Tryd.prog w = .ok (.enter fid args) w) (ha : a < 2 ^ 15) (hb : b < 2 ^ 112)
    (HPA : Hid (∀ w, Calls Tryd.prog fid #[.agg #[.int .i64 128, .int .i64 113, .int .i64 16383, .int .i64 (-16382), .int .i64 15]] w fun e w' => e = .returned (.tuple #[.agg #[.int .u64 (dgl (a) 0 : Nat), .int .u64 (dgl (a) 1 : Nat), .int .u64 (dgl (a) 2 : Nat), .int .u64 (dgl (a) 3 : Nat), .int .u64 (dgl (a) 4 : Nat), .int .u64 (dgl (a) 5 : Nat), .int .u64 (dgl (a) 6 : Nat), .int .u64 (dgl (a) 7 : Nat)], .agg #[.int .u64 (dgl (b) 0 : Nat), .int .u64 (dgl (b) 1 : Nat), .int .u64 (dgl (b) 2 : Nat), .int .u64 (dgl (b) 3 : Nat), .int .u64 (dgl (b) 4 : Nat), .int .u64 (dgl (b) 5 : Nat), .int .u64 (dgl (b) 6 : Nat), .int .u64 (dgl (b) 7 : Nat)]]) ∧ Below w.heap.size w w')) (w : World) (hg : FmtG w) :
    Calls Tryd.prog 105 #[.int .i64 4, .bool neg, .func (.func fid) #[] #[]] w fun e w' => e = .returned (.agg #[.int .u64 (dgl (a * 2 ^ 112 + b + (bif neg then 2 ^ 127 else 0)) 1 : Nat), .int .u64 (dgl (a * 2 ^ 112 + b + (bif neg then 2 ^ 127 else 0)) 0 : Nat)]) ∧ Below w.heap.size w w' := by
  have hQ := q200
  have h1 := fun w => wideShl_any a 112 (by omega) w
  rw [show roomI 112 = ((112 : Nat) : Int) by decide, sh_up] at h1
  have h2 := fun w => wideAdd_any (a * 2 ^ 112) b (by omega) (by omega) w
  have h3 := fun w => widePower_any 127 (by decide) w
  rw [show roomI 127 = ((127 : Nat) : Int) by decide, sh_up, Nat.one_mul] at h3
  have h4 := fun w => wideAdd_any (a * 2 ^ 112 + b) (2 ^ 127) (by omega) (by omega) w
  have h := made_walk 4 neg fid (fun i => [128, 113, 16383, -16382, 15].getD i 0) a b (a * 2 ^ 112) (a * 2 ^ 112 + b) (2 ^ 127) (a * 2 ^ 112 + b + 2 ^ 127) _ _ hent (by decide +kernel) (by decide +kernel) (fun w hg => of_4 w hg) HPA h1 h2 h3 h4 w hg
  rw [show (bif neg then a * 2 ^ 112 + b + 2 ^ 127 else a * 2 ^ 112 + b) = a * 2 ^ 112 + b + (bif neg then 2 ^ 127 else 0) by cases neg <;> simp only [cond_true, cond_false, Nat.add_zero]] at h
  exact h

theorem nought_pass (f : Int) (neg : Bool) (x y : Nat) (HM : Hid (∀ w, FmtG w → Calls Tryd.prog 105 #[.int .i64 f, .bool neg, .func (.func 106) #[] #[]] w fun e w' => e = .returned (.agg #[.int .u64 (x : Nat), .int .u64 (y : Nat)]) ∧ Below w.heap.size w w')) (w : World) (hg : FmtG w) :
    Calls Tryd.prog 72 #[.int .i64 f, .bool neg] w fun e w' => e = .returned (.agg #[.int .u64 (x : Nat), .int .u64 (y : Nat)]) ∧ Below w.heap.size w w' := by
  have HB0 := hide (below_allocs w (.cells #[.int .u64 0, .int .u64 0] 24))
  have HG := hide (hg.below HB0.out)
  clear hg
  go_enter Tryd.func72, Tryd.ntmps72
  go_wp2_with fail
  refine (HM.out _ HG.out).mono ?_
  rintro e w1 ⟨rfl, hb1⟩
  have hs := hb1.size
  rw [World.size_alloc] at hs
  have hc : ∀ i, i < 2 → w1.cell? ⟨w.heap.size, i, none⟩ = some (.int .u64 0) := fun i hi => (hb1.cell (p := ⟨w.heap.size, i, none⟩) (by simp)).trans (by match i, hi with | 0, _ | 1, _ => simp [go_sem])
  have hr0 := hc 0 (by decide)
  have hr1 := hc 1 (by decide)
  have hf : ∀ i, w1.frozen? ⟨w.heap.size, i, none⟩ = false := fun i => (hb1.frozen (p := ⟨w.heap.size, i, none⟩) (by simp)).trans (by simp [go_sem])
  have hlt : w.heap.size < w1.heap.size := hs
  have HB := hide (below_trans HB0.out hb1)
  clear hb1 hs HG HB0 hc
  go_wp2
  exact bodyPost_ret (v := .agg #[.int .u64 (x : Nat), .int .u64 (y : Nat)]) (by simp [results, Tryd.results72, go_sem, hr0, hr1, hlt]) rfl ⟨rfl, (HB.out.setCell (p := ⟨w.heap.size, 0, none⟩) (Nat.le_refl _) _).setCell (p := ⟨w.heap.size, 1, none⟩) (Nat.le_refl _) _⟩
theorem nought_none (f : Int) (h : f < 1 ∨ 4 < f) (neg : Bool) (w : World) (hg : FmtG w) : Calls Tryd.prog 72 #[.int .i64 f, .bool neg] w fun e w' => e = .returned (.agg #[.int .u64 (0 : Nat), .int .u64 (0 : Nat)]) ∧ Below w.heap.size w w' :=
  nought_pass f neg 0 0 (fun w _ => made_none f h neg _ w) w hg
theorem nought_1 (neg : Bool) (w : World) (hg : FmtG w) : Calls Tryd.prog 72 #[.int .i64 1, .bool neg] w fun e w' => e = .returned (.agg #[.int .u64 (dgl (bif neg then 32768 else 0) 1 : Nat), .int .u64 (dgl (bif neg then 32768 else 0) 0 : Nat)]) ∧ Below w.heap.size w w' := by
  have h := fun w hg => made_1 neg 106 (0) (0) (enters_of Tryd.func106 (by kernel_rfl) rfl) (by decide) (by decide) (fun w => nought1_any (fun i => [16, 11, 15, -14, 5].getD i 0) w) w hg
  rw [show (0) * 2 ^ 10 + (0) + (bif neg then 2 ^ 15 else 0) = (bif neg then 32768 else 0) by cases neg <;> decide] at h
  exact nought_pass 1 neg _ _ h w hg
theorem nought_2 (neg : Bool) (w : World) (hg : FmtG w) : Calls Tryd.prog 72 #[.int .i64 2, .bool neg] w fun e w' => e = .returned (.agg #[.int .u64 (dgl (bif neg then 2147483648 else 0) 1 : Nat), .int .u64 (dgl (bif neg then 2147483648 else 0) 0 : Nat)]) ∧ Below w.heap.size w w' := by
  have h := fun w hg => made_2 neg 106 (0) (0) (enters_of Tryd.func106 (by kernel_rfl) rfl) (by decide) (by decide) (fun w => nought1_any (fun i => [32, 24, 127, -126, 8].getD i 0) w) w hg
  rw [show (0) * 2 ^ 23 + (0) + (bif neg then 2 ^ 31 else 0) = (bif neg then 2147483648 else 0) by cases neg <;> decide] at h
  exact nought_pass 2 neg _ _ h w hg
theorem nought_3 (neg : Bool) (w : World) (hg : FmtG w) : Calls Tryd.prog 72 #[.int .i64 3, .bool neg] w fun e w' => e = .returned (.agg #[.int .u64 (dgl (bif neg then 9223372036854775808 else 0) 1 : Nat), .int .u64 (dgl (bif neg then 9223372036854775808 else 0) 0 : Nat)]) ∧ Below w.heap.size w w' := by
  have h := fun w hg => made_3 neg 106 (0) (0) (enters_of Tryd.func106 (by kernel_rfl) rfl) (by decide) (by decide) (fun w => nought1_any (fun i => [64, 53, 1023, -1022, 11].getD i 0) w) w hg
  rw [show (0) * 2 ^ 52 + (0) + (bif neg then 2 ^ 63 else 0) = (bif neg then 9223372036854775808 else 0) by cases neg <;> decide] at h
  exact nought_pass 3 neg _ _ h w hg
theorem nought_4 (neg : Bool) (w : World) (hg : FmtG w) : Calls Tryd.prog 72 #[.int .i64 4, .bool neg] w fun e w' => e = .returned (.agg #[.int .u64 (dgl (bif neg then 170141183460469231731687303715884105728 else 0) 1 : Nat), .int .u64 (dgl (bif neg then 170141183460469231731687303715884105728 else 0) 0 : Nat)]) ∧ Below w.heap.size w w' := by
  have h := fun w hg => made_4 neg 106 (0) (0) (enters_of Tryd.func106 (by kernel_rfl) rfl) (by decide) (by decide) (fun w => nought1_any (fun i => [128, 113, 16383, -16382, 15].getD i 0) w) w hg
  rw [show (0) * 2 ^ 112 + (0) + (bif neg then 2 ^ 127 else 0) = (bif neg then 170141183460469231731687303715884105728 else 0) by cases neg <;> decide] at h
  exact nought_pass 4 neg _ _ h w hg

end Go.Proofs.YtidfegilddlglaaDoor

