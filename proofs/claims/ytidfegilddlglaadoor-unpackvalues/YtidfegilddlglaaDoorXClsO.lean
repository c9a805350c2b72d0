/- Contracts and laws: ClsO, ClsP, ClsR, ClsQ. -/
import Derived.Test.YtidfegilddlglaaDoorXClsN
import Derived.Test.YtidfegilddlglaaDoorXClsH
import Derived.Test.YtidfegilddlglaaDoorXFmtH
/- Contracts: class.Fraction, Abs, Flip, as passes. -/
set_option linter.unusedVariables false
set_option linter.unusedSimpArgs false
set_option maxRecDepth 8000
namespace Go.Proofs.YtidfegilddlglaaDoor
open Go.RowKit Plain

set_option maxHeartbeats 1000000 in
theorem cfrac_pass (f : Int) (hi lo x : Nat) (HM : Hid (∀ w, FmtG w → Calls Tryd.prog 58 #[.int .i64 f, .agg #[.int .u64 (hi : Nat), .int .u64 (lo : Nat)], .func (.func 59) #[] #[]] w fun e w' => e = .returned (.agg #[.int .u64 (dgl (x) 0 : Nat), .int .u64 (dgl (x) 1 : Nat), .int .u64 (dgl (x) 2 : Nat), .int .u64 (dgl (x) 3 : Nat), .int .u64 (dgl (x) 4 : Nat), .int .u64 (dgl (x) 5 : Nat), .int .u64 (dgl (x) 6 : Nat), .int .u64 (dgl (x) 7 : Nat)]) ∧ Below w.heap.size w w')) (w : World) (hg : FmtG w) :
    Calls Tryd.prog 19 #[.int .i64 f, .agg #[.int .u64 (hi : Nat), .int .u64 (lo : Nat)]] w fun e w' => e = .returned (.agg #[.int .u64 (dgl (x) 0 : Nat), .int .u64 (dgl (x) 1 : Nat), .int .u64 (dgl (x) 2 : Nat), .int .u64 (dgl (x) 3 : Nat), .int .u64 (dgl (x) 4 : Nat), .int .u64 (dgl (x) 5 : Nat), .int .u64 (dgl (x) 6 : Nat), .int .u64 (dgl (x) 7 : Nat)]) ∧ Below w.heap.size w w' := by
  have HST := hide (Aw0.start hi lo w)
  have HG := hide (hg.below HST.out.s.bel)
  clear hg
  go_enter Tryd.func19, Tryd.ntmps19
  go_wp2_with fail
  refine (HM.out _ HG.out).mono ?_
  rintro e w1 ⟨rfl, hb1⟩
  replace HST := hide (HST.out.below hb1)
  clear hb1 HG
  have z0 := HST.out.z 0 (by decide)
  have z1 := HST.out.z 1 (by decide)
  have z2 := HST.out.z 2 (by decide)
  have z3 := HST.out.z 3 (by decide)
  have z4 := HST.out.z 4 (by decide)
  have z5 := HST.out.z 5 (by decide)
  have z6 := HST.out.z 6 (by decide)
  have z7 := HST.out.z 7 (by decide)
  have hrf := HST.out.f
  have hlt := HST.out.lt
  have HB := hide HST.out.s.bel
  clear HST
  go_wp2
  exact bodyPost_ret (v := .agg #[.int .u64 (dgl (x) 0 : Nat), .int .u64 (dgl (x) 1 : Nat), .int .u64 (dgl (x) 2 : Nat), .int .u64 (dgl (x) 3 : Nat), .int .u64 (dgl (x) 4 : Nat), .int .u64 (dgl (x) 5 : Nat), .int .u64 (dgl (x) 6 : Nat), .int .u64 (dgl (x) 7 : Nat)]) (by simp [results, Tryd.results19, go_sem, hlt, z0, z1, z2, z3, z4, z5, z6, z7]) rfl ⟨rfl, below_set8 HB.out _ (by omega) _ _ _ _ _ _ _ _⟩

structure AfSt (f : Int) (hi lo : Nat) (w W : World) : Prop where
  cf : CapF w.heap.size f W
  h : W.cell? ⟨w.heap.size + 1, 0, none⟩ = some (.int .u64 (hi : Nat))
  l : W.cell? ⟨w.heap.size + 1, 1, none⟩ = some (.int .u64 (lo : Nat))
  r0 : W.cell? ⟨w.heap.size + 1 + 1, 0, none⟩ = some (.int .u64 0)
  r1 : W.cell? ⟨w.heap.size + 1 + 1, 1, none⟩ = some (.int .u64 0)
  fz : ∀ i, W.frozen? ⟨w.heap.size + 1 + 1, i, none⟩ = false
  lt : w.heap.size + 1 + 1 < W.heap.size
  bel : Below w.heap.size w W
theorem AfSt.below {f : Int} {hi lo : Nat} {w W W' : World} (h : AfSt f hi lo w W) (hb : Below W.heap.size W W') : AfSt f hi lo w W' :=
  have hl := h.lt
  ⟨h.cf.below hb, (hb.cell (p := ⟨w.heap.size + 1, 0, none⟩) (show w.heap.size + 1 < W.heap.size by omega)).trans h.h, (hb.cell (p := ⟨w.heap.size + 1, 1, none⟩) (show w.heap.size + 1 < W.heap.size by omega)).trans h.l, (hb.cell (p := ⟨w.heap.size + 1 + 1, 0, none⟩) h.lt).trans h.r0, (hb.cell (p := ⟨w.heap.size + 1 + 1, 1, none⟩) h.lt).trans h.r1,
    fun i => (hb.frozen (p := ⟨w.heap.size + 1 + 1, i, none⟩) h.lt).trans (h.fz i), Nat.lt_of_lt_of_le h.lt hb.size, below_trans h.bel hb⟩
theorem afSt_start (f : Int) (hi lo : Nat) (w : World) (hg : FmtG w) : AfSt f hi lo w (((w.alloc (.cells #[.int .i64 f] 3)).alloc (.cells #[.int .u64 (hi : Nat), .int .u64 (lo : Nat)] 24)).alloc (.cells #[.int .u64 0, .int .u64 0] 24)) :=
  ⟨⟨hg.below (below_trans (below_allocs _ _) (below_trans (below_allocs _ _) (below_allocs _ _))), by simp [go_sem], by simp; omega⟩, by simp [go_sem], by simp [go_sem], by simp [go_sem], by simp [go_sem], fun i => by simp [go_sem], by simp, below_trans (below_allocs _ _) (below_trans (below_allocs _ _) (below_allocs _ _))⟩

set_option maxHeartbeats 1000000 in
theorem cabs_pass (f : Int) (hi lo x y : Nat) (HM : Hid (∀ q w, CapF q f w → Calls Tryd.prog 60 #[.int .i64 f, .agg #[.int .u64 (hi : Nat), .int .u64 (lo : Nat)], .func (.func 61) #[] #[.pointer (some ⟨q, 0, none⟩)]] w fun e w' => e = .returned (.agg #[.int .u64 (x : Nat), .int .u64 (y : Nat)]) ∧ Below w.heap.size w w')) (w : World) (hg : FmtG w) :
    Calls Tryd.prog 20 #[.int .i64 f, .agg #[.int .u64 (hi : Nat), .int .u64 (lo : Nat)]] w fun e w' => e = .returned (.agg #[.int .u64 (x : Nat), .int .u64 (y : Nat)]) ∧ Below w.heap.size w w' := by
  have HST := hide (afSt_start f hi lo w hg)
  clear hg
  go_enter Tryd.func20, Tryd.ntmps20
  go_wp2_with fail
  refine (HM.out _ _ HST.out.cf).mono ?_
  rintro e w1 ⟨rfl, hb1⟩
  replace HST := hide (HST.out.below hb1)
  clear hb1
  have r0 := HST.out.r0
  have r1 := HST.out.r1
  have hrf := HST.out.fz
  have hlt := HST.out.lt
  have HB := hide HST.out.bel
  clear HST
  go_wp2
  exact bodyPost_ret (v := .agg #[.int .u64 (x : Nat), .int .u64 (y : Nat)]) (by simp [results, Tryd.results20, go_sem, hlt, r0, r1]) rfl ⟨rfl, (HB.out.setCell (p := ⟨w.heap.size + 1 + 1, 0, none⟩) (by simp; omega) _).setCell (p := ⟨w.heap.size + 1 + 1, 1, none⟩) (by simp; omega) _⟩

set_option maxHeartbeats 1000000 in
theorem cflip_pass (f : Int) (hi lo x y : Nat) (HM : Hid (∀ q w, CapF q f w → Calls Tryd.prog 60 #[.int .i64 f, .agg #[.int .u64 (hi : Nat), .int .u64 (lo : Nat)], .func (.func 63) #[] #[.pointer (some ⟨q, 0, none⟩)]] w fun e w' => e = .returned (.agg #[.int .u64 (x : Nat), .int .u64 (y : Nat)]) ∧ Below w.heap.size w w')) (w : World) (hg : FmtG w) :
    Calls Tryd.prog 21 #[.int .i64 f, .agg #[.int .u64 (hi : Nat), .int .u64 (lo : Nat)]] w fun e w' => e = .returned (.agg #[.int .u64 (x : Nat), .int .u64 (y : Nat)]) ∧ Below w.heap.size w w' := by
  have HST := hide (afSt_start f hi lo w hg)
  clear hg
  go_enter Tryd.func21, Tryd.ntmps21
  go_wp2_with fail
  refine (HM.out _ _ HST.out.cf).mono ?_
  rintro e w1 ⟨rfl, hb1⟩
  replace HST := hide (HST.out.below hb1)
  clear hb1
  have r0 := HST.out.r0
  have r1 := HST.out.r1
  have hrf := HST.out.fz
  have hlt := HST.out.lt
  have HB := hide HST.out.bel
  clear HST
  go_wp2
  exact bodyPost_ret (v := .agg #[.int .u64 (x : Nat), .int .u64 (y : Nat)]) (by simp [results, Tryd.results21, go_sem, hlt, r0, r1]) rfl ⟨rfl, (HB.out.setCell (p := ⟨w.heap.size + 1 + 1, 0, none⟩) (by simp; omega) _).setCell (p := ⟨w.heap.size + 1 + 1, 1, none⟩) (by simp; omega) _⟩

end Go.Proofs.YtidfegilddlglaaDoor

/- Contracts of class, one for all formats: Of, Neg, Field, Fraction, Abs, Flip, Make. -/
set_option linter.unusedVariables false
set_option linter.unusedSimpArgs false
set_option maxRecDepth 8000
namespace Go.Proofs.YtidfegilddlglaaDoor
open Go.RowKit Plain

/-- What a table of the formats tells of one. -/
def tU {α : Type} (f : Int) (x1 x2 x3 x4 d : α) : α := if f = 1 then x1 else if f = 2 then x2 else if f = 3 then x3 else if f = 4 then x4 else d
theorem tU_none {α : Type} (f : Int) (h : f < 1 ∨ 4 < f) (x1 x2 x3 x4 d : α) : tU f x1 x2 x3 x4 d = d := by
  unfold tU
  rw [if_neg (by omega), if_neg (by omega), if_neg (by omega), if_neg (by omega)]
theorem f_cases (f : Int) : f = 1 ∨ f = 2 ∨ f = 3 ∨ f = 4 ∨ (f < 1 ∨ 4 < f) := by omega
theorem tU_ind {α : Type} (p : Int → Prop) (f : Int) (h1 : p 1) (h2 : p 2) (h3 : p 3) (h4 : p 4) (h : (f < 1 ∨ 4 < f) → p f) : p f := by
  rcases f_cases f with rfl | rfl | rfl | rfl | h0
  · exact h1
  · exact h2
  · exact h3
  · exact h4
  · exact h h0
def bU (f : Int) : Nat := tU f 16 32 64 128 0
def pU (f : Int) : Nat := tU f 11 24 53 113 0
def frcN (B P a : Nat) : Nat := if a < 2 ^ B then a % 2 ^ (P - 1) else 0
def absN (B a : Nat) : Nat := if a < 2 ^ B then a % 2 ^ (B - 1) else 0
def flipN (B a : Nat) : Nat := if a < 2 ^ B then (if a < 2 ^ (B - 1) then a + 2 ^ (B - 1) else a - 2 ^ (B - 1)) else 0
def clsU (f : Int) (a : Nat) : Nat := tU f (clsN 16 11 5 a) (clsN 32 24 8 a) (clsN 64 53 11 a) (clsN 128 113 15 a) 0
def fldU (f : Int) (a : Nat) : Nat := tU f (fldN 16 11 5 a) (fldN 32 24 8 a) (fldN 64 53 11 a) (fldN 128 113 15 a) 0
def negU (f : Int) (a : Nat) : Bool := tU f (negN 16 a) (negN 32 a) (negN 64 a) (negN 128 a) false
def frcU (f : Int) (a : Nat) : Nat := tU f (frcN 16 11 a) (frcN 32 24 a) (frcN 64 53 a) (frcN 128 113 a) 0
def absU (f : Int) (a : Nat) : Nat := tU f (absN 16 a) (absN 32 a) (absN 64 a) (absN 128 a) 0
def flipU (f : Int) (a : Nat) : Nat := tU f (flipN 16 a) (flipN 32 a) (flipN 64 a) (flipN 128 a) 0
def fitU (f : Int) (a : Nat) : Bool := tU f (decide (a < 2 ^ 16)) (decide (a < 2 ^ 32)) (decide (a < 2 ^ 64)) (decide (a < 2 ^ 128)) false

theorem cfrac_none (f : Int) (h : f < 1 ∨ 4 < f) (hi lo : Nat) (w : World) (hg : FmtG w) : Calls Tryd.prog 19 #[.int .i64 f, .agg #[.int .u64 (hi : Nat), .int .u64 (lo : Nat)]] w fun e w' => e = .returned (.agg #[.int .u64 (dgl (0) 0 : Nat), .int .u64 (dgl (0) 1 : Nat), .int .u64 (dgl (0) 2 : Nat), .int .u64 (dgl (0) 3 : Nat), .int .u64 (dgl (0) 4 : Nat), .int .u64 (dgl (0) 5 : Nat), .int .u64 (dgl (0) 6 : Nat), .int .u64 (dgl (0) 7 : Nat)]) ∧ Below w.heap.size w w' :=
  cfrac_pass f hi lo 0 (fun w hg => asked_wide_no f hi lo _ (fun w hg => fits_none f h hi lo w) w hg) w hg
theorem cabs_none (f : Int) (h : f < 1 ∨ 4 < f) (hi lo : Nat) (w : World) (hg : FmtG w) : Calls Tryd.prog 20 #[.int .i64 f, .agg #[.int .u64 (hi : Nat), .int .u64 (lo : Nat)]] w fun e w' => e = .returned (.agg #[.int .u64 (dgl (0) 1 : Nat), .int .u64 (dgl (0) 0 : Nat)]) ∧ Below w.heap.size w w' :=
  cabs_pass f hi lo _ _ (fun q w hc => asked_word_no f hi lo _ (fun w hg => fits_none f h hi lo w) w hc.g) w hg
theorem cflip_none (f : Int) (h : f < 1 ∨ 4 < f) (hi lo : Nat) (w : World) (hg : FmtG w) : Calls Tryd.prog 21 #[.int .i64 f, .agg #[.int .u64 (hi : Nat), .int .u64 (lo : Nat)]] w fun e w' => e = .returned (.agg #[.int .u64 (dgl (0) 1 : Nat), .int .u64 (dgl (0) 0 : Nat)]) ∧ Below w.heap.size w w' :=
  cflip_pass f hi lo _ _ (fun q w hc => asked_word_no f hi lo _ (fun w hg => fits_none f h hi lo w) w hc.g) w hg

set_option maxHeartbeats 1000000 in
theorem cfrac_1 (hi lo : Nat) (hh : hi < 18446744073709551616) (hl : lo < 18446744073709551616) (w : World) (hg : FmtG w) : Calls Tryd.prog 19 #[.int .i64 1, .agg #[.int .u64 (hi : Nat), .int .u64 (lo : Nat)]] w fun e w' => e = .returned (.agg #[.int .u64 (dgl (frcN 16 11 (lo + 18446744073709551616 * hi)) 0 : Nat), .int .u64 (dgl (frcN 16 11 (lo + 18446744073709551616 * hi)) 1 : Nat), .int .u64 (dgl (frcN 16 11 (lo + 18446744073709551616 * hi)) 2 : Nat), .int .u64 (dgl (frcN 16 11 (lo + 18446744073709551616 * hi)) 3 : Nat), .int .u64 (dgl (frcN 16 11 (lo + 18446744073709551616 * hi)) 4 : Nat), .int .u64 (dgl (frcN 16 11 (lo + 18446744073709551616 * hi)) 5 : Nat), .int .u64 (dgl (frcN 16 11 (lo + 18446744073709551616 * hi)) 6 : Nat), .int .u64 (dgl (frcN 16 11 (lo + 18446744073709551616 * hi)) 7 : Nat)]) ∧ Below w.heap.size w w' := by
  refine cfrac_pass 1 hi lo _ (fun w hg => ?_) w hg
  by_cases h : (lo + 18446744073709551616 * hi) < 2 ^ 16
  · rw [show frcN 16 11 (lo + 18446744073709551616 * hi) = (lo + 18446744073709551616 * hi) % 2 ^ 10 from if_pos h]
    exact asked_wide 1 hi lo (lo + 18446744073709551616 * hi) ((lo + 18446744073709551616 * hi) / 2 ^ 10 % 2 ^ 5) ((lo + 18446744073709551616 * hi) % 2 ^ 10) ((lo + 18446744073709551616 * hi) / 2 ^ 15 % 2 == 1) (fun i => [16, 11, 15, -14, 5].getD i 0) 59 #[] (fun _ => True) (fun _ _ _ _ => trivial) _ (enters_of Tryd.func59 (by kernel_rfl) rfl) (fun w hg => by have h1 := fits_1 hi lo hh hl w hg; rw [decide_eq_true h] at h1; exact h1) (fun w hg => of_1 w hg) (fun w => wideFrom_any hi lo hh hl w) (fun w => taken_1 _ h w) (fun w _ => fracC1_any (fun i => [16, 11, 15, -14, 5].getD i 0) _ _ _ w) w hg trivial
  · rw [show frcN 16 11 (lo + 18446744073709551616 * hi) = 0 from if_neg h]
    exact asked_wide_no 1 hi lo _ (fun w hg => by have h1 := fits_1 hi lo hh hl w hg; rw [decide_eq_false h] at h1; exact h1) w hg

set_option maxHeartbeats 1000000 in
theorem cabs_1 (hi lo : Nat) (hh : hi < 18446744073709551616) (hl : lo < 18446744073709551616) (w : World) (hg : FmtG w) : Calls Tryd.prog 20 #[.int .i64 1, .agg #[.int .u64 (hi : Nat), .int .u64 (lo : Nat)]] w fun e w' => e = .returned (.agg #[.int .u64 (dgl (absN 16 (lo + 18446744073709551616 * hi)) 1 : Nat), .int .u64 (dgl (absN 16 (lo + 18446744073709551616 * hi)) 0 : Nat)]) ∧ Below w.heap.size w w' := by
  refine cabs_pass 1 hi lo _ _ (fun q w hc => ?_) w hg
  by_cases h : (lo + 18446744073709551616 * hi) < 2 ^ 16
  · have hN : ((lo + 18446744073709551616 * hi) / 2 ^ 10 % 2 ^ 5) * 2 ^ 10 + ((lo + 18446744073709551616 * hi) % 2 ^ 10) + (bif false then 32768 else 0) = absN 16 (lo + 18446744073709551616 * hi) := by
      unfold absN
      rw [if_pos h]
      show _ + 0 = _
      omega
    have hm := fun w hg => makeYes_1 false ((lo + 18446744073709551616 * hi) / 2 ^ 10 % 2 ^ 5) ((lo + 18446744073709551616 * hi) % 2 ^ 10) (Nat.mod_lt _ (Nat.two_pow_pos _)) (Nat.mod_lt _ (Nat.two_pow_pos _)) _ rfl w hg
    rw [hN] at hm
    exact asked_word 1 hi lo (lo + 18446744073709551616 * hi) ((lo + 18446744073709551616 * hi) / 2 ^ 10 % 2 ^ 5) ((lo + 18446744073709551616 * hi) % 2 ^ 10) ((lo + 18446744073709551616 * hi) / 2 ^ 15 % 2 == 1) (fun i => [16, 11, 15, -14, 5].getD i 0) 61 #[.pointer (some ⟨q, 0, none⟩)] (CapF q 1) (fun _ _ h hb => h.below hb) _ _ (enters_of Tryd.func61 (by kernel_rfl) rfl) (fun w hg => by have h1 := fits_1 hi lo hh hl w hg; rw [decide_eq_true h] at h1; exact h1) (fun w hg => of_1 w hg) (fun w => wideFrom_any hi lo hh hl w) (fun w => taken_1 _ h w) (fun w hc => absC1_any q 1 (fun i => [16, 11, 15, -14, 5].getD i 0) _ _ _ _ _ (fun w hg => signed_walk 1 _ _ true _ _ _ _ hm w hg) w hc) w hc.g hc
  · rw [show absN 16 (lo + 18446744073709551616 * hi) = 0 from if_neg h]
    exact asked_word_no 1 hi lo _ (fun w hg => by have h1 := fits_1 hi lo hh hl w hg; rw [decide_eq_false h] at h1; exact h1) w hc.g

set_option maxHeartbeats 1000000 in
theorem cflip_1 (hi lo : Nat) (hh : hi < 18446744073709551616) (hl : lo < 18446744073709551616) (w : World) (hg : FmtG w) : Calls Tryd.prog 21 #[.int .i64 1, .agg #[.int .u64 (hi : Nat), .int .u64 (lo : Nat)]] w fun e w' => e = .returned (.agg #[.int .u64 (dgl (flipN 16 (lo + 18446744073709551616 * hi)) 1 : Nat), .int .u64 (dgl (flipN 16 (lo + 18446744073709551616 * hi)) 0 : Nat)]) ∧ Below w.heap.size w w' := by
  refine cflip_pass 1 hi lo _ _ (fun q w hc => ?_) w hg
  by_cases h : (lo + 18446744073709551616 * hi) < 2 ^ 16
  · have hN : ((lo + 18446744073709551616 * hi) / 2 ^ 10 % 2 ^ 5) * 2 ^ 10 + ((lo + 18446744073709551616 * hi) % 2 ^ 10) + (bif (!((lo + 18446744073709551616 * hi) / 2 ^ 15 % 2 == 1)) then 32768 else 0) = flipN 16 (lo + 18446744073709551616 * hi) := by
      unfold flipN
      rw [if_pos h]
      by_cases hs : (lo + 18446744073709551616 * hi) < 2 ^ 15
      · rw [if_pos hs, show ((lo + 18446744073709551616 * hi) / 2 ^ 15 % 2 == 1) = false by rw [beq_eq_false_iff_ne]; omega]
        show _ + 32768 = _
        omega
      · rw [if_neg hs, show ((lo + 18446744073709551616 * hi) / 2 ^ 15 % 2 == 1) = true by rw [beq_iff_eq]; omega]
        show _ + 0 = _
        omega
    have hm := fun w hg => makeYes_1 (!((lo + 18446744073709551616 * hi) / 2 ^ 15 % 2 == 1)) ((lo + 18446744073709551616 * hi) / 2 ^ 10 % 2 ^ 5) ((lo + 18446744073709551616 * hi) % 2 ^ 10) (Nat.mod_lt _ (Nat.two_pow_pos _)) (Nat.mod_lt _ (Nat.two_pow_pos _)) _ rfl w hg
    rw [hN] at hm
    exact asked_word 1 hi lo (lo + 18446744073709551616 * hi) ((lo + 18446744073709551616 * hi) / 2 ^ 10 % 2 ^ 5) ((lo + 18446744073709551616 * hi) % 2 ^ 10) ((lo + 18446744073709551616 * hi) / 2 ^ 15 % 2 == 1) (fun i => [16, 11, 15, -14, 5].getD i 0) 63 #[.pointer (some ⟨q, 0, none⟩)] (CapF q 1) (fun _ _ h hb => h.below hb) _ _ (enters_of Tryd.func63 (by kernel_rfl) rfl) (fun w hg => by have h1 := fits_1 hi lo hh hl w hg; rw [decide_eq_true h] at h1; exact h1) (fun w hg => of_1 w hg) (fun w => wideFrom_any hi lo hh hl w) (fun w => taken_1 _ h w) (fun w hc => flipC1_any q 1 (fun i => [16, 11, 15, -14, 5].getD i 0) _ _ _ _ _ (fun w hg => signed_walk 1 _ _ true _ _ _ _ hm w hg) w hc) w hc.g hc
  · rw [show flipN 16 (lo + 18446744073709551616 * hi) = 0 from if_neg h]
    exact asked_word_no 1 hi lo _ (fun w hg => by have h1 := fits_1 hi lo hh hl w hg; rw [decide_eq_false h] at h1; exact h1) w hc.g

set_option maxHeartbeats 1000000 in
theorem cfrac_2 (hi lo : Nat) (hh : hi < 18446744073709551616) (hl : lo < 18446744073709551616) (w : World) (hg : FmtG w) : Calls Tryd.prog 19 #[.int .i64 2, .agg #[.int .u64 (hi : Nat), .int .u64 (lo : Nat)]] w fun e w' => e = .returned (.agg #[.int .u64 (dgl (frcN 32 24 (lo + 18446744073709551616 * hi)) 0 : Nat), .int .u64 (dgl (frcN 32 24 (lo + 18446744073709551616 * hi)) 1 : Nat), .int .u64 (dgl (frcN 32 24 (lo + 18446744073709551616 * hi)) 2 : Nat), .int .u64 (dgl (frcN 32 24 (lo + 18446744073709551616 * hi)) 3 : Nat), .int .u64 (dgl (frcN 32 24 (lo + 18446744073709551616 * hi)) 4 : Nat), .int .u64 (dgl (frcN 32 24 (lo + 18446744073709551616 * hi)) 5 : Nat), .int .u64 (dgl (frcN 32 24 (lo + 18446744073709551616 * hi)) 6 : Nat), .int .u64 (dgl (frcN 32 24 (lo + 18446744073709551616 * hi)) 7 : Nat)]) ∧ Below w.heap.size w w' := by
  refine cfrac_pass 2 hi lo _ (fun w hg => ?_) w hg
  by_cases h : (lo + 18446744073709551616 * hi) < 2 ^ 32
  · rw [show frcN 32 24 (lo + 18446744073709551616 * hi) = (lo + 18446744073709551616 * hi) % 2 ^ 23 from if_pos h]
    exact asked_wide 2 hi lo (lo + 18446744073709551616 * hi) ((lo + 18446744073709551616 * hi) / 2 ^ 23 % 2 ^ 8) ((lo + 18446744073709551616 * hi) % 2 ^ 23) ((lo + 18446744073709551616 * hi) / 2 ^ 31 % 2 == 1) (fun i => [32, 24, 127, -126, 8].getD i 0) 59 #[] (fun _ => True) (fun _ _ _ _ => trivial) _ (enters_of Tryd.func59 (by kernel_rfl) rfl) (fun w hg => by have h1 := fits_2 hi lo hh hl w hg; rw [decide_eq_true h] at h1; exact h1) (fun w hg => of_2 w hg) (fun w => wideFrom_any hi lo hh hl w) (fun w => taken_2 _ h w) (fun w _ => fracC1_any (fun i => [32, 24, 127, -126, 8].getD i 0) _ _ _ w) w hg trivial
  · rw [show frcN 32 24 (lo + 18446744073709551616 * hi) = 0 from if_neg h]
    exact asked_wide_no 2 hi lo _ (fun w hg => by have h1 := fits_2 hi lo hh hl w hg; rw [decide_eq_false h] at h1; exact h1) w hg

set_option maxHeartbeats 1000000 in
theorem cabs_2 (hi lo : Nat) (hh : hi < 18446744073709551616) (hl : lo < 18446744073709551616) (w : World) (hg : FmtG w) : Calls Tryd.prog 20 #[.int .i64 2, .agg #[.int .u64 (hi : Nat), .int .u64 (lo : Nat)]] w fun e w' => e = .returned (.agg #[.int .u64 (dgl (absN 32 (lo + 18446744073709551616 * hi)) 1 : Nat), .int .u64 (dgl (absN 32 (lo + 18446744073709551616 * hi)) 0 : Nat)]) ∧ Below w.heap.size w w' := by
  refine cabs_pass 2 hi lo _ _ (fun q w hc => ?_) w hg
  by_cases h : (lo + 18446744073709551616 * hi) < 2 ^ 32
  · have hN : ((lo + 18446744073709551616 * hi) / 2 ^ 23 % 2 ^ 8) * 2 ^ 23 + ((lo + 18446744073709551616 * hi) % 2 ^ 23) + (bif false then 2147483648 else 0) = absN 32 (lo + 18446744073709551616 * hi) := by
      unfold absN
      rw [if_pos h]
      show _ + 0 = _
      omega
    have hm := fun w hg => makeYes_2 false ((lo + 18446744073709551616 * hi) / 2 ^ 23 % 2 ^ 8) ((lo + 18446744073709551616 * hi) % 2 ^ 23) (Nat.mod_lt _ (Nat.two_pow_pos _)) (Nat.mod_lt _ (Nat.two_pow_pos _)) _ rfl w hg
    rw [hN] at hm
    exact asked_word 2 hi lo (lo + 18446744073709551616 * hi) ((lo + 18446744073709551616 * hi) / 2 ^ 23 % 2 ^ 8) ((lo + 18446744073709551616 * hi) % 2 ^ 23) ((lo + 18446744073709551616 * hi) / 2 ^ 31 % 2 == 1) (fun i => [32, 24, 127, -126, 8].getD i 0) 61 #[.pointer (some ⟨q, 0, none⟩)] (CapF q 2) (fun _ _ h hb => h.below hb) _ _ (enters_of Tryd.func61 (by kernel_rfl) rfl) (fun w hg => by have h1 := fits_2 hi lo hh hl w hg; rw [decide_eq_true h] at h1; exact h1) (fun w hg => of_2 w hg) (fun w => wideFrom_any hi lo hh hl w) (fun w => taken_2 _ h w) (fun w hc => absC1_any q 2 (fun i => [32, 24, 127, -126, 8].getD i 0) _ _ _ _ _ (fun w hg => signed_walk 2 _ _ true _ _ _ _ hm w hg) w hc) w hc.g hc
  · rw [show absN 32 (lo + 18446744073709551616 * hi) = 0 from if_neg h]
    exact asked_word_no 2 hi lo _ (fun w hg => by have h1 := fits_2 hi lo hh hl w hg; rw [decide_eq_false h] at h1; exact h1) w hc.g

set_option maxHeartbeats 1000000 in
theorem cflip_2 (hi lo : Nat) (hh : hi < 18446744073709551616) (hl : lo < 18446744073709551616) (w : World) (hg : FmtG w) : Calls Tryd.prog 21 #[.int .i64 2, .agg #[.int .u64 (hi : Nat), .int .u64 (lo : Nat)]] w fun e w' => e = .returned (.agg #[.int .u64 (dgl (flipN 32 (lo + 18446744073709551616 * hi)) 1 : Nat), .int .u64 (dgl (flipN 32 (lo + 18446744073709551616 * hi)) 0 : Nat)]) ∧ Below w.heap.size w w' := by
  refine cflip_pass 2 hi lo _ _ (fun q w hc => ?_) w hg
  by_cases h : (lo + 18446744073709551616 * hi) < 2 ^ 32
  · have hN : ((lo + 18446744073709551616 * hi) / 2 ^ 23 % 2 ^ 8) * 2 ^ 23 + ((lo + 18446744073709551616 * hi) % 2 ^ 23) + (bif (!((lo + 18446744073709551616 * hi) / 2 ^ 31 % 2 == 1)) then 2147483648 else 0) = flipN 32 (lo + 18446744073709551616 * hi) := by
      unfold flipN
      rw [if_pos h]
      by_cases hs : (lo + 18446744073709551616 * hi) < 2 ^ 31
      · rw [if_pos hs, show ((lo + 18446744073709551616 * hi) / 2 ^ 31 % 2 == 1) = false by rw [beq_eq_false_iff_ne]; omega]
        show _ + 2147483648 = _
        omega
      · rw [if_neg hs, show ((lo + 18446744073709551616 * hi) / 2 ^ 31 % 2 == 1) = true by rw [beq_iff_eq]; omega]
        show _ + 0 = _
        omega
    have hm := fun w hg => makeYes_2 (!((lo + 18446744073709551616 * hi) / 2 ^ 31 % 2 == 1)) ((lo + 18446744073709551616 * hi) / 2 ^ 23 % 2 ^ 8) ((lo + 18446744073709551616 * hi) % 2 ^ 23) (Nat.mod_lt _ (Nat.two_pow_pos _)) (Nat.mod_lt _ (Nat.two_pow_pos _)) _ rfl w hg
    rw [hN] at hm
    exact asked_word 2 hi lo (lo + 18446744073709551616 * hi) ((lo + 18446744073709551616 * hi) / 2 ^ 23 % 2 ^ 8) ((lo + 18446744073709551616 * hi) % 2 ^ 23) ((lo + 18446744073709551616 * hi) / 2 ^ 31 % 2 == 1) (fun i => [32, 24, 127, -126, 8].getD i 0) 63 #[.pointer (some ⟨q, 0, none⟩)] (CapF q 2) (fun _ _ h hb => h.below hb) _ _ (enters_of Tryd.func63 (by kernel_rfl) rfl) (fun w hg => by have h1 := fits_2 hi lo hh hl w hg; rw [decide_eq_true h] at h1; exact h1) (fun w hg => of_2 w hg) (fun w => wideFrom_any hi lo hh hl w) (fun w => taken_2 _ h w) (fun w hc => flipC1_any q 2 (fun i => [32, 24, 127, -126, 8].getD i 0) _ _ _ _ _ (fun w hg => signed_walk 2 _ _ true _ _ _ _ hm w hg) w hc) w hc.g hc
  · rw [show flipN 32 (lo + 18446744073709551616 * hi) = 0 from if_neg h]
    exact asked_word_no 2 hi lo _ (fun w hg => by have h1 := fits_2 hi lo hh hl w hg; rw [decide_eq_false h] at h1; exact h1) w hc.g

set_option maxHeartbeats 1000000 in
theorem cfrac_3 (hi lo : Nat) (hh : hi < 18446744073709551616) (hl : lo < 18446744073709551616) (w : World) (hg : FmtG w) : Calls Tryd.prog 19 #[.int .i64 3, .agg #[.int .u64 (hi : Nat), .int .u64 (lo : Nat)]] w fun e w' => e = .returned (.agg #[.int .u64 (dgl (frcN 64 53 (lo + 18446744073709551616 * hi)) 0 : Nat), .int .u64 (dgl (frcN 64 53 (lo + 18446744073709551616 * hi)) 1 : Nat), .int .u64 (dgl (frcN 64 53 (lo + 18446744073709551616 * hi)) 2 : Nat), .int .u64 (dgl (frcN 64 53 (lo + 18446744073709551616 * hi)) 3 : Nat), .int .u64 (dgl (frcN 64 53 (lo + 18446744073709551616 * hi)) 4 : Nat), .int .u64 (dgl (frcN 64 53 (lo + 18446744073709551616 * hi)) 5 : Nat), .int .u64 (dgl (frcN 64 53 (lo + 18446744073709551616 * hi)) 6 : Nat), .int .u64 (dgl (frcN 64 53 (lo + 18446744073709551616 * hi)) 7 : Nat)]) ∧ Below w.heap.size w w' := by
  refine cfrac_pass 3 hi lo _ (fun w hg => ?_) w hg
  by_cases h : (lo + 18446744073709551616 * hi) < 2 ^ 64
  · rw [show frcN 64 53 (lo + 18446744073709551616 * hi) = (lo + 18446744073709551616 * hi) % 2 ^ 52 from if_pos h]
    exact asked_wide 3 hi lo (lo + 18446744073709551616 * hi) ((lo + 18446744073709551616 * hi) / 2 ^ 52 % 2 ^ 11) ((lo + 18446744073709551616 * hi) % 2 ^ 52) ((lo + 18446744073709551616 * hi) / 2 ^ 63 % 2 == 1) (fun i => [64, 53, 1023, -1022, 11].getD i 0) 59 #[] (fun _ => True) (fun _ _ _ _ => trivial) _ (enters_of Tryd.func59 (by kernel_rfl) rfl) (fun w hg => by have h1 := fits_3 hi lo hh hl w hg; rw [decide_eq_true h] at h1; exact h1) (fun w hg => of_3 w hg) (fun w => wideFrom_any hi lo hh hl w) (fun w => taken_3 _ h w) (fun w _ => fracC1_any (fun i => [64, 53, 1023, -1022, 11].getD i 0) _ _ _ w) w hg trivial
  · rw [show frcN 64 53 (lo + 18446744073709551616 * hi) = 0 from if_neg h]
    exact asked_wide_no 3 hi lo _ (fun w hg => by have h1 := fits_3 hi lo hh hl w hg; rw [decide_eq_false h] at h1; exact h1) w hg

set_option maxHeartbeats 1000000 in
theorem cabs_3 (hi lo : Nat) (hh : hi < 18446744073709551616) (hl : lo < 18446744073709551616) (w : World) (hg : FmtG w) : Calls Tryd.prog 20 #[.int .i64 3, .agg #[.int .u64 (hi : Nat), .int .u64 (lo : Nat)]] w fun e w' => e = .returned (.agg #[.int .u64 (dgl (absN 64 (lo + 18446744073709551616 * hi)) 1 : Nat), .int .u64 (dgl (absN 64 (lo + 18446744073709551616 * hi)) 0 : Nat)]) ∧ Below w.heap.size w w' := by
  refine cabs_pass 3 hi lo _ _ (fun q w hc => ?_) w hg
  by_cases h : (lo + 18446744073709551616 * hi) < 2 ^ 64
  · have hN : ((lo + 18446744073709551616 * hi) / 2 ^ 52 % 2 ^ 11) * 2 ^ 52 + ((lo + 18446744073709551616 * hi) % 2 ^ 52) + (bif false then 9223372036854775808 else 0) = absN 64 (lo + 18446744073709551616 * hi) := by
      unfold absN
      rw [if_pos h]
      show _ + 0 = _
      omega
    have hm := fun w hg => makeYes_3 false ((lo + 18446744073709551616 * hi) / 2 ^ 52 % 2 ^ 11) ((lo + 18446744073709551616 * hi) % 2 ^ 52) (Nat.mod_lt _ (Nat.two_pow_pos _)) (Nat.mod_lt _ (Nat.two_pow_pos _)) _ rfl w hg
    rw [hN] at hm
    exact asked_word 3 hi lo (lo + 18446744073709551616 * hi) ((lo + 18446744073709551616 * hi) / 2 ^ 52 % 2 ^ 11) ((lo + 18446744073709551616 * hi) % 2 ^ 52) ((lo + 18446744073709551616 * hi) / 2 ^ 63 % 2 == 1) (fun i => [64, 53, 1023, -1022, 11].getD i 0) 61 #[.pointer (some ⟨q, 0, none⟩)] (CapF q 3) (fun _ _ h hb => h.below hb) _ _ (enters_of Tryd.func61 (by kernel_rfl) rfl) (fun w hg => by have h1 := fits_3 hi lo hh hl w hg; rw [decide_eq_true h] at h1; exact h1) (fun w hg => of_3 w hg) (fun w => wideFrom_any hi lo hh hl w) (fun w => taken_3 _ h w) (fun w hc => absC1_any q 3 (fun i => [64, 53, 1023, -1022, 11].getD i 0) _ _ _ _ _ (fun w hg => signed_walk 3 _ _ true _ _ _ _ hm w hg) w hc) w hc.g hc
  · rw [show absN 64 (lo + 18446744073709551616 * hi) = 0 from if_neg h]
    exact asked_word_no 3 hi lo _ (fun w hg => by have h1 := fits_3 hi lo hh hl w hg; rw [decide_eq_false h] at h1; exact h1) w hc.g

set_option maxHeartbeats 1000000 in
theorem cflip_3 (hi lo : Nat) (hh : hi < 18446744073709551616) (hl : lo < 18446744073709551616) (w : World) (hg : FmtG w) : Calls Tryd.prog 21 #[.int .i64 3, .agg #[.int .u64 (hi : Nat), .int .u64 (lo : Nat)]] w fun e w' => e = .returned (.agg #[.int .u64 (dgl (flipN 64 (lo + 18446744073709551616 * hi)) 1 : Nat), .int .u64 (dgl (flipN 64 (lo + 18446744073709551616 * hi)) 0 : Nat)]) ∧ Below w.heap.size w w' := by
  refine cflip_pass 3 hi lo _ _ (fun q w hc => ?_) w hg
  by_cases h : (lo + 18446744073709551616 * hi) < 2 ^ 64
  · have hN : ((lo + 18446744073709551616 * hi) / 2 ^ 52 % 2 ^ 11) * 2 ^ 52 + ((lo + 18446744073709551616 * hi) % 2 ^ 52) + (bif (!((lo + 18446744073709551616 * hi) / 2 ^ 63 % 2 == 1)) then 9223372036854775808 else 0) = flipN 64 (lo + 18446744073709551616 * hi) := by
      unfold flipN
      rw [if_pos h]
      by_cases hs : (lo + 18446744073709551616 * hi) < 2 ^ 63
      · rw [if_pos hs, show ((lo + 18446744073709551616 * hi) / 2 ^ 63 % 2 == 1) = false by rw [beq_eq_false_iff_ne]; omega]
        show _ + 9223372036854775808 = _
        omega
      · rw [if_neg hs, show ((lo + 18446744073709551616 * hi) / 2 ^ 63 % 2 == 1) = true by rw [beq_iff_eq]; omega]
        show _ + 0 = _
        omega
    have hm := fun w hg => makeYes_3 (!((lo + 18446744073709551616 * hi) / 2 ^ 63 % 2 == 1)) ((lo + 18446744073709551616 * hi) / 2 ^ 52 % 2 ^ 11) ((lo + 18446744073709551616 * hi) % 2 ^ 52) (Nat.mod_lt _ (Nat.two_pow_pos _)) (Nat.mod_lt _ (Nat.two_pow_pos _)) _ rfl w hg
    rw [hN] at hm
    exact asked_word 3 hi lo (lo + 18446744073709551616 * hi) ((lo + 18446744073709551616 * hi) / 2 ^ 52 % 2 ^ 11) ((lo + 18446744073709551616 * hi) % 2 ^ 52) ((lo + 18446744073709551616 * hi) / 2 ^ 63 % 2 == 1) (fun i => [64, 53, 1023, -1022, 11].getD i 0) 63 #[.pointer (some ⟨q, 0, none⟩)] (CapF q 3) (fun _ _ h hb => h.below hb) _ _ (enters_of Tryd.func63 (by kernel_rfl) rfl) (fun w hg => by have h1 := fits_3 hi lo hh hl w hg; rw [decide_eq_true h] at h1; exact h1) (fun w hg => of_3 w hg) (fun w => wideFrom_any hi lo hh hl w) (fun w => taken_3 _ h w) (fun w hc => flipC1_any q 3 (fun i => [64, 53, 1023, -1022, 11].getD i 0) _ _ _ _ _ (fun w hg => signed_walk 3 _ _ true _ _ _ _ hm w hg) w hc) w hc.g hc
  · rw [show flipN 64 (lo + 18446744073709551616 * hi) = 0 from if_neg h]
    exact asked_word_no 3 hi lo _ (fun w hg => by have h1 := fits_3 hi lo hh hl w hg; rw [decide_eq_false h] at h1; exact h1) w hc.g

set_option maxHeartbeats 1000000 in
theorem cfrac_4 (hi lo : Nat) (hh : hi < 18446744073709551616) (hl : lo < 18446744073709551616) (w : World) (hg : FmtG w) : Calls Tryd.prog 19 #[.int .i64 4, .agg #[.int .u64 (hi : Nat), .int .u64 (lo : Nat)]] w fun e w' => e = .returned (.agg #[.int .u64 (dgl (frcN 128 113 (lo + 18446744073709551616 * hi)) 0 : Nat), .int .u64 (dgl (frcN 128 113 (lo + 18446744073709551616 * hi)) 1 : Nat), .int .u64 (dgl (frcN 128 113 (lo + 18446744073709551616 * hi)) 2 : Nat), .int .u64 (dgl (frcN 128 113 (lo + 18446744073709551616 * hi)) 3 : Nat), .int .u64 (dgl (frcN 128 113 (lo + 18446744073709551616 * hi)) 4 : Nat), .int .u64 (dgl (frcN 128 113 (lo + 18446744073709551616 * hi)) 5 : Nat), .int .u64 (dgl (frcN 128 113 (lo + 18446744073709551616 * hi)) 6 : Nat), .int .u64 (dgl (frcN 128 113 (lo + 18446744073709551616 * hi)) 7 : Nat)]) ∧ Below w.heap.size w w' := by
  refine cfrac_pass 4 hi lo _ (fun w hg => ?_) w hg
  by_cases h : (lo + 18446744073709551616 * hi) < 2 ^ 128
  · rw [show frcN 128 113 (lo + 18446744073709551616 * hi) = (lo + 18446744073709551616 * hi) % 2 ^ 112 from if_pos h]
    exact asked_wide 4 hi lo (lo + 18446744073709551616 * hi) ((lo + 18446744073709551616 * hi) / 2 ^ 112 % 2 ^ 15) ((lo + 18446744073709551616 * hi) % 2 ^ 112) ((lo + 18446744073709551616 * hi) / 2 ^ 127 % 2 == 1) (fun i => [128, 113, 16383, -16382, 15].getD i 0) 59 #[] (fun _ => True) (fun _ _ _ _ => trivial) _ (enters_of Tryd.func59 (by kernel_rfl) rfl) (fun w hg => by have h1 := fits_4 hi lo hh hl w hg; rw [decide_eq_true h] at h1; exact h1) (fun w hg => of_4 w hg) (fun w => wideFrom_any hi lo hh hl w) (fun w => taken_4 _ h w) (fun w _ => fracC1_any (fun i => [128, 113, 16383, -16382, 15].getD i 0) _ _ _ w) w hg trivial
  · rw [show frcN 128 113 (lo + 18446744073709551616 * hi) = 0 from if_neg h]
    exact asked_wide_no 4 hi lo _ (fun w hg => by have h1 := fits_4 hi lo hh hl w hg; rw [decide_eq_false h] at h1; exact h1) w hg

set_option maxHeartbeats 1000000 in
theorem cabs_4 (hi lo : Nat) (hh : hi < 18446744073709551616) (hl : lo < 18446744073709551616) (w : World) (hg : FmtG w) : Calls Tryd.prog 20 #[.int .i64 4, .agg #[.int .u64 (hi : Nat), .int .u64 (lo : Nat)]] w fun e w' => e = .returned (.agg #[.int .u64 (dgl (absN 128 (lo + 18446744073709551616 * hi)) 1 : Nat), .int .u64 (dgl (absN 128 (lo + 18446744073709551616 * hi)) 0 : Nat)]) ∧ Below w.heap.size w w' := by
  refine cabs_pass 4 hi lo _ _ (fun q w hc => ?_) w hg
  by_cases h : (lo + 18446744073709551616 * hi) < 2 ^ 128
  · have hN : ((lo + 18446744073709551616 * hi) / 2 ^ 112 % 2 ^ 15) * 2 ^ 112 + ((lo + 18446744073709551616 * hi) % 2 ^ 112) + (bif false then 170141183460469231731687303715884105728 else 0) = absN 128 (lo + 18446744073709551616 * hi) := by
      unfold absN
      rw [if_pos h]
      show _ + 0 = _
      omega
    have hm := fun w hg => makeYes_4 false ((lo + 18446744073709551616 * hi) / 2 ^ 112 % 2 ^ 15) ((lo + 18446744073709551616 * hi) % 2 ^ 112) (Nat.mod_lt _ (Nat.two_pow_pos _)) (Nat.mod_lt _ (Nat.two_pow_pos _)) _ rfl w hg
    rw [hN] at hm
    exact asked_word 4 hi lo (lo + 18446744073709551616 * hi) ((lo + 18446744073709551616 * hi) / 2 ^ 112 % 2 ^ 15) ((lo + 18446744073709551616 * hi) % 2 ^ 112) ((lo + 18446744073709551616 * hi) / 2 ^ 127 % 2 == 1) (fun i => [128, 113, 16383, -16382, 15].getD i 0) 61 #[.pointer (some ⟨q, 0, none⟩)] (CapF q 4) (fun _ _ h hb => h.below hb) _ _ (enters_of Tryd.func61 (by kernel_rfl) rfl) (fun w hg => by have h1 := fits_4 hi lo hh hl w hg; rw [decide_eq_true h] at h1; exact h1) (fun w hg => of_4 w hg) (fun w => wideFrom_any hi lo hh hl w) (fun w => taken_4 _ h w) (fun w hc => absC1_any q 4 (fun i => [128, 113, 16383, -16382, 15].getD i 0) _ _ _ _ _ (fun w hg => signed_walk 4 _ _ true _ _ _ _ hm w hg) w hc) w hc.g hc
  · rw [show absN 128 (lo + 18446744073709551616 * hi) = 0 from if_neg h]
    exact asked_word_no 4 hi lo _ (fun w hg => by have h1 := fits_4 hi lo hh hl w hg; rw [decide_eq_false h] at h1; exact h1) w hc.g

set_option maxHeartbeats 1000000 in
theorem cflip_4 (hi lo : Nat) (hh : hi < 18446744073709551616) (hl : lo < 18446744073709551616) (w : World) (hg : FmtG w) : Calls Tryd.prog 21 #[.int .i64 4, .agg #[.int .u64 (hi : Nat), .int .u64 (lo : Nat)]] w fun e w' => e = .returned (.agg #[.int .u64 (dgl (flipN 128 (lo + 18446744073709551616 * hi)) 1 : Nat), .int .u64 (dgl (flipN 128 (lo + 18446744073709551616 * hi)) 0 : Nat)]) ∧ Below w.heap.size w w' := by
  refine cflip_pass 4 hi lo _ _ (fun q w hc => ?_) w hg
  by_cases h : (lo + 18446744073709551616 * hi) < 2 ^ 128
  · have hN : ((lo + 18446744073709551616 * hi) / 2 ^ 112 % 2 ^ 15) * 2 ^ 112 + ((lo + 18446744073709551616 * hi) % 2 ^ 112) + (bif (!((lo + 18446744073709551616 * hi) / 2 ^ 127 % 2 == 1)) then 170141183460469231731687303715884105728 else 0) = flipN 128 (lo + 18446744073709551616 * hi) := by
      unfold flipN
      rw [if_pos h]
      by_cases hs : (lo + 18446744073709551616 * hi) < 2 ^ 127
      · rw [if_pos hs, show ((lo + 18446744073709551616 * hi) / 2 ^ 127 % 2 == 1) = false by rw [beq_eq_false_iff_ne]; omega]
        show _ + 170141183460469231731687303715884105728 = _
        omega
      · rw [if_neg hs, show ((lo + 18446744073709551616 * hi) / 2 ^ 127 % 2 == 1) = true by rw [beq_iff_eq]; omega]
        show _ + 0 = _
        omega
    have hm := fun w hg => makeYes_4 (!((lo + 18446744073709551616 * hi) / 2 ^ 127 % 2 == 1)) ((lo + 18446744073709551616 * hi) / 2 ^ 112 % 2 ^ 15) ((lo + 18446744073709551616 * hi) % 2 ^ 112) (Nat.mod_lt _ (Nat.two_pow_pos _)) (Nat.mod_lt _ (Nat.two_pow_pos _)) _ rfl w hg
    rw [hN] at hm
    exact asked_word 4 hi lo (lo + 18446744073709551616 * hi) ((lo + 18446744073709551616 * hi) / 2 ^ 112 % 2 ^ 15) ((lo + 18446744073709551616 * hi) % 2 ^ 112) ((lo + 18446744073709551616 * hi) / 2 ^ 127 % 2 == 1) (fun i => [128, 113, 16383, -16382, 15].getD i 0) 63 #[.pointer (some ⟨q, 0, none⟩)] (CapF q 4) (fun _ _ h hb => h.below hb) _ _ (enters_of Tryd.func63 (by kernel_rfl) rfl) (fun w hg => by have h1 := fits_4 hi lo hh hl w hg; rw [decide_eq_true h] at h1; exact h1) (fun w hg => of_4 w hg) (fun w => wideFrom_any hi lo hh hl w) (fun w => taken_4 _ h w) (fun w hc => flipC1_any q 4 (fun i => [128, 113, 16383, -16382, 15].getD i 0) _ _ _ _ _ (fun w hg => signed_walk 4 _ _ true _ _ _ _ hm w hg) w hc) w hc.g hc
  · rw [show flipN 128 (lo + 18446744073709551616 * hi) = 0 from if_neg h]
    exact asked_word_no 4 hi lo _ (fun w hg => by have h1 := fits_4 hi lo hh hl w hg; rw [decide_eq_false h] at h1; exact h1) w hc.g

theorem cof_u (f : Int) (a : Nat) (ha : a < 2 ^ 128) (w : World) (hg : FmtG w) : Calls Tryd.prog 13 #[.int .i64 f, .agg #[.int .u64 (dgl (a) 1 : Nat), .int .u64 (dgl (a) 0 : Nat)]] w fun e w' => e = .returned (.int .i64 ((clsU f a : Nat) : Int)) ∧ Below w.heap.size w w' := by
  rcases f_cases f with rfl | rfl | rfl | rfl | h
  · have h0 := cof_1 (dgl a 1) (dgl a 0) (dgl_lt _ _) (dgl_lt _ _) w hg
    rw [word_back a ha] at h0
    exact h0
  · have h0 := cof_2 (dgl a 1) (dgl a 0) (dgl_lt _ _) (dgl_lt _ _) w hg
    rw [word_back a ha] at h0
    exact h0
  · have h0 := cof_3 (dgl a 1) (dgl a 0) (dgl_lt _ _) (dgl_lt _ _) w hg
    rw [word_back a ha] at h0
    exact h0
  · have h0 := cof_4 (dgl a 1) (dgl a 0) (dgl_lt _ _) (dgl_lt _ _) w hg
    rw [word_back a ha] at h0
    exact h0
  · rw [show clsU f a = _ from tU_none f h _ _ _ _ _]
    exact cof_none f h _ _ w hg

theorem cneg_u (f : Int) (a : Nat) (ha : a < 2 ^ 128) (w : World) (hg : FmtG w) : Calls Tryd.prog 16 #[.int .i64 f, .agg #[.int .u64 (dgl (a) 1 : Nat), .int .u64 (dgl (a) 0 : Nat)]] w fun e w' => e = .returned (.bool (negU f a)) ∧ Below w.heap.size w w' := by
  rcases f_cases f with rfl | rfl | rfl | rfl | h
  · have h0 := cneg_1 (dgl a 1) (dgl a 0) (dgl_lt _ _) (dgl_lt _ _) w hg
    rw [word_back a ha] at h0
    exact h0
  · have h0 := cneg_2 (dgl a 1) (dgl a 0) (dgl_lt _ _) (dgl_lt _ _) w hg
    rw [word_back a ha] at h0
    exact h0
  · have h0 := cneg_3 (dgl a 1) (dgl a 0) (dgl_lt _ _) (dgl_lt _ _) w hg
    rw [word_back a ha] at h0
    exact h0
  · have h0 := cneg_4 (dgl a 1) (dgl a 0) (dgl_lt _ _) (dgl_lt _ _) w hg
    rw [word_back a ha] at h0
    exact h0
  · rw [show negU f a = _ from tU_none f h _ _ _ _ _]
    exact cneg_none f h _ _ w hg

theorem cfld_u (f : Int) (a : Nat) (ha : a < 2 ^ 128) (w : World) (hg : FmtG w) : Calls Tryd.prog 18 #[.int .i64 f, .agg #[.int .u64 (dgl (a) 1 : Nat), .int .u64 (dgl (a) 0 : Nat)]] w fun e w' => e = .returned (.int .i64 ((fldU f a : Nat) : Int)) ∧ Below w.heap.size w w' := by
  rcases f_cases f with rfl | rfl | rfl | rfl | h
  · have h0 := cfld_1 (dgl a 1) (dgl a 0) (dgl_lt _ _) (dgl_lt _ _) w hg
    rw [word_back a ha] at h0
    exact h0
  · have h0 := cfld_2 (dgl a 1) (dgl a 0) (dgl_lt _ _) (dgl_lt _ _) w hg
    rw [word_back a ha] at h0
    exact h0
  · have h0 := cfld_3 (dgl a 1) (dgl a 0) (dgl_lt _ _) (dgl_lt _ _) w hg
    rw [word_back a ha] at h0
    exact h0
  · have h0 := cfld_4 (dgl a 1) (dgl a 0) (dgl_lt _ _) (dgl_lt _ _) w hg
    rw [word_back a ha] at h0
    exact h0
  · rw [show fldU f a = _ from tU_none f h _ _ _ _ _]
    exact cfld_none f h _ _ w hg

theorem cfrac_u (f : Int) (a : Nat) (ha : a < 2 ^ 128) (w : World) (hg : FmtG w) : Calls Tryd.prog 19 #[.int .i64 f, .agg #[.int .u64 (dgl (a) 1 : Nat), .int .u64 (dgl (a) 0 : Nat)]] w fun e w' => e = .returned (.agg #[.int .u64 (dgl (frcU f a) 0 : Nat), .int .u64 (dgl (frcU f a) 1 : Nat), .int .u64 (dgl (frcU f a) 2 : Nat), .int .u64 (dgl (frcU f a) 3 : Nat), .int .u64 (dgl (frcU f a) 4 : Nat), .int .u64 (dgl (frcU f a) 5 : Nat), .int .u64 (dgl (frcU f a) 6 : Nat), .int .u64 (dgl (frcU f a) 7 : Nat)]) ∧ Below w.heap.size w w' := by
  rcases f_cases f with rfl | rfl | rfl | rfl | h
  · have h0 := cfrac_1 (dgl a 1) (dgl a 0) (dgl_lt _ _) (dgl_lt _ _) w hg
    rw [word_back a ha] at h0
    exact h0
  · have h0 := cfrac_2 (dgl a 1) (dgl a 0) (dgl_lt _ _) (dgl_lt _ _) w hg
    rw [word_back a ha] at h0
    exact h0
  · have h0 := cfrac_3 (dgl a 1) (dgl a 0) (dgl_lt _ _) (dgl_lt _ _) w hg
    rw [word_back a ha] at h0
    exact h0
  · have h0 := cfrac_4 (dgl a 1) (dgl a 0) (dgl_lt _ _) (dgl_lt _ _) w hg
    rw [word_back a ha] at h0
    exact h0
  · rw [show frcU f a = _ from tU_none f h _ _ _ _ _]
    exact cfrac_none f h _ _ w hg

theorem cabs_u (f : Int) (a : Nat) (ha : a < 2 ^ 128) (w : World) (hg : FmtG w) : Calls Tryd.prog 20 #[.int .i64 f, .agg #[.int .u64 (dgl (a) 1 : Nat), .int .u64 (dgl (a) 0 : Nat)]] w fun e w' => e = .returned (.agg #[.int .u64 (dgl (absU f a) 1 : Nat), .int .u64 (dgl (absU f a) 0 : Nat)]) ∧ Below w.heap.size w w' := by
  rcases f_cases f with rfl | rfl | rfl | rfl | h
  · have h0 := cabs_1 (dgl a 1) (dgl a 0) (dgl_lt _ _) (dgl_lt _ _) w hg
    rw [word_back a ha] at h0
    exact h0
  · have h0 := cabs_2 (dgl a 1) (dgl a 0) (dgl_lt _ _) (dgl_lt _ _) w hg
    rw [word_back a ha] at h0
    exact h0
  · have h0 := cabs_3 (dgl a 1) (dgl a 0) (dgl_lt _ _) (dgl_lt _ _) w hg
    rw [word_back a ha] at h0
    exact h0
  · have h0 := cabs_4 (dgl a 1) (dgl a 0) (dgl_lt _ _) (dgl_lt _ _) w hg
    rw [word_back a ha] at h0
    exact h0
  · rw [show absU f a = _ from tU_none f h _ _ _ _ _]
    exact cabs_none f h _ _ w hg

theorem cflip_u (f : Int) (a : Nat) (ha : a < 2 ^ 128) (w : World) (hg : FmtG w) : Calls Tryd.prog 21 #[.int .i64 f, .agg #[.int .u64 (dgl (a) 1 : Nat), .int .u64 (dgl (a) 0 : Nat)]] w fun e w' => e = .returned (.agg #[.int .u64 (dgl (flipU f a) 1 : Nat), .int .u64 (dgl (flipU f a) 0 : Nat)]) ∧ Below w.heap.size w w' := by
  rcases f_cases f with rfl | rfl | rfl | rfl | h
  · have h0 := cflip_1 (dgl a 1) (dgl a 0) (dgl_lt _ _) (dgl_lt _ _) w hg
    rw [word_back a ha] at h0
    exact h0
  · have h0 := cflip_2 (dgl a 1) (dgl a 0) (dgl_lt _ _) (dgl_lt _ _) w hg
    rw [word_back a ha] at h0
    exact h0
  · have h0 := cflip_3 (dgl a 1) (dgl a 0) (dgl_lt _ _) (dgl_lt _ _) w hg
    rw [word_back a ha] at h0
    exact h0
  · have h0 := cflip_4 (dgl a 1) (dgl a 0) (dgl_lt _ _) (dgl_lt _ _) w hg
    rw [word_back a ha] at h0
    exact h0
  · rw [show flipU f a = _ from tU_none f h _ _ _ _ _]
    exact cflip_none f h _ _ w hg

theorem refCls_u (f : Int) (a : Nat) (ha : a < 2 ^ 128) (w : World) : Calls Tryd.prog 12 #[.int .i64 f, .agg #[.int .u64 (dgl (a) 1 : Nat), .int .u64 (dgl (a) 0 : Nat)]] w fun e w' => e = .returned (.int .i64 ((clsU f a : Nat) : Int)) ∧ Below w.heap.size w w' := by
  rcases f_cases f with rfl | rfl | rfl | rfl | h
  · have h0 := refCls_1 (dgl a 1) (dgl a 0) (dgl_lt _ _) (dgl_lt _ _) w
    rw [word_back a ha] at h0
    exact h0
  · have h0 := refCls_2 (dgl a 1) (dgl a 0) (dgl_lt _ _) (dgl_lt _ _) w
    rw [word_back a ha] at h0
    exact h0
  · have h0 := refCls_3 (dgl a 1) (dgl a 0) (dgl_lt _ _) (dgl_lt _ _) w
    rw [word_back a ha] at h0
    exact h0
  · have h0 := refCls_4 (dgl a 1) (dgl a 0) (dgl_lt _ _) (dgl_lt _ _) w
    rw [word_back a ha] at h0
    exact h0
  · rw [show clsU f a = _ from tU_none f h _ _ _ _ _]
    exact refCls_none f h _ _ w

theorem refNeg_u (f : Int) (a : Nat) (ha : a < 2 ^ 128) (w : World) : Calls Tryd.prog 17 #[.int .i64 f, .agg #[.int .u64 (dgl (a) 1 : Nat), .int .u64 (dgl (a) 0 : Nat)]] w fun e w' => e = .returned (.bool (negU f a)) ∧ Below w.heap.size w w' := by
  rcases f_cases f with rfl | rfl | rfl | rfl | h
  · have h0 := refNeg_1 (dgl a 1) (dgl a 0) (dgl_lt _ _) (dgl_lt _ _) w
    rw [word_back a ha] at h0
    exact h0
  · have h0 := refNeg_2 (dgl a 1) (dgl a 0) (dgl_lt _ _) (dgl_lt _ _) w
    rw [word_back a ha] at h0
    exact h0
  · have h0 := refNeg_3 (dgl a 1) (dgl a 0) (dgl_lt _ _) (dgl_lt _ _) w
    rw [word_back a ha] at h0
    exact h0
  · have h0 := refNeg_4 (dgl a 1) (dgl a 0) (dgl_lt _ _) (dgl_lt _ _) w
    rw [word_back a ha] at h0
    exact h0
  · rw [show negU f a = _ from tU_none f h _ _ _ _ _]
    exact refNeg_none f h _ _ w

theorem refFits_u (f : Int) (a : Nat) (ha : a < 2 ^ 128) (w : World) : Calls Tryd.prog 32 #[.int .i64 f, .agg #[.int .u64 (dgl (a) 1 : Nat), .int .u64 (dgl (a) 0 : Nat)]] w fun e w' => e = .returned (.bool (fitU f a)) ∧ Below w.heap.size w w' := by
  rcases f_cases f with rfl | rfl | rfl | rfl | h
  · have h0 := refFits_1 (dgl a 1) (dgl a 0) (dgl_lt _ _) (dgl_lt _ _) w
    rw [word_back a ha] at h0
    exact h0
  · have h0 := refFits_2 (dgl a 1) (dgl a 0) (dgl_lt _ _) (dgl_lt _ _) w
    rw [word_back a ha] at h0
    exact h0
  · have h0 := refFits_3 (dgl a 1) (dgl a 0) (dgl_lt _ _) (dgl_lt _ _) w
    rw [word_back a ha] at h0
    exact h0
  · have h0 := refFits_4 (dgl a 1) (dgl a 0) (dgl_lt _ _) (dgl_lt _ _) w
    rw [word_back a ha] at h0
    exact h0
  · rw [show fitU f a = _ from tU_none f h _ _ _ _ _]
    exact refFits_none f h _ _ w

end Go.Proofs.YtidfegilddlglaaDoor

/- Numbers of words: signs and classes. -/
set_option linter.unusedVariables false
set_option linter.unusedSimpArgs false
set_option maxRecDepth 8000
namespace Go.Proofs.YtidfegilddlglaaDoor
open Go.RowKit Plain

theorem pow_half (B : Nat) (h : 0 < B) : 2 ^ B = 2 * 2 ^ (B - 1) := by
  obtain ⟨c, rfl⟩ : ∃ c, B = c + 1 := ⟨B - 1, by omega⟩
  rw [Nat.add_sub_cancel, Nat.pow_succ, Nat.mul_comm]
theorem cls_fit {B P F a : Nat} (h : clsN B P F a ≠ 0) : a < 2 ^ B := by
  refine Classical.byContradiction fun h1 => h ?_
  exact if_neg h1
theorem fld_mod (a p F : Nat) : a / 2 ^ p % 2 ^ F = a % 2 ^ (p + F) / 2 ^ p := by
  rw [Nat.pow_add, Nat.mod_mul_right_div_self]
theorem frc_mod (a p F : Nat) : a % 2 ^ p = a % 2 ^ (p + F) % 2 ^ p := by
  rw [Nat.pow_add, Nat.mod_mul_right_mod]
theorem cls_mod {P F a b : Nat} (hP : 0 < P) (ha : a < 2 ^ (P + F)) (hb : b < 2 ^ (P + F)) (h : a % 2 ^ (P + F - 1) = b % 2 ^ (P + F - 1)) : clsN (P + F) P F a = clsN (P + F) P F b := by
  unfold clsN
  rw [if_pos ha, if_pos hb, fld_mod a, fld_mod b, frc_mod a (P - 1) F, frc_mod b (P - 1) F, show P - 1 + F = P + F - 1 by omega, h]
theorem signsN {P F a : Nat} (hP : 0 < P) (ha : a < 2 ^ (P + F)) : flipN (P + F) (flipN (P + F) a) = a ∧ negN (P + F) (flipN (P + F) a) = !negN (P + F) a ∧ negN (P + F) (absN (P + F) a) = false ∧
    clsN (P + F) P F (absN (P + F) a) = clsN (P + F) P F a ∧ clsN (P + F) P F (flipN (P + F) a) = clsN (P + F) P F a ∧ absN (P + F) (flipN (P + F) a) = absN (P + F) a ∧ absN (P + F) a < 2 ^ (P + F) ∧ flipN (P + F) a < 2 ^ (P + F) := by
  have h2 := pow_half (P + F) (by omega)
  have hH := Nat.two_pow_pos (P + F - 1)
  have hab : absN (P + F) a = a % 2 ^ (P + F - 1) := if_pos ha
  have hm : a % 2 ^ (P + F - 1) < 2 ^ (P + F - 1) := Nat.mod_lt _ hH
  have hal : absN (P + F) a < 2 ^ (P + F) := by rw [hab]; omega
  have hfl : flipN (P + F) a < 2 ^ (P + F) ∧ flipN (P + F) a % 2 ^ (P + F - 1) = a % 2 ^ (P + F - 1) ∧ (flipN (P + F) a < 2 ^ (P + F - 1) ↔ ¬ a < 2 ^ (P + F - 1)) ∧ (a < 2 ^ (P + F - 1) → flipN (P + F) a = a + 2 ^ (P + F - 1)) ∧ (¬ a < 2 ^ (P + F - 1) → flipN (P + F) a = a - 2 ^ (P + F - 1)) := by
    unfold flipN
    rw [if_pos ha]
    by_cases hs : a < 2 ^ (P + F - 1)
    · rw [if_pos hs]
      refine ⟨by omega, Nat.add_mod_right _ _, ⟨fun _ => by omega, fun h => absurd hs h⟩, fun _ => rfl, fun h => absurd hs h⟩
    · rw [if_neg hs]
      refine ⟨by omega, ?_, ⟨fun _ => hs, fun _ => by omega⟩, fun h => absurd h hs, fun _ => rfl⟩
      rw [Nat.mod_eq_sub_mod (Nat.le_of_not_lt hs)]
  obtain ⟨f1, f2, f3, f4, f5⟩ := hfl
  have hneg : ∀ b, b < 2 ^ (P + F) → negN (P + F) b = !decide (b < 2 ^ (P + F - 1)) := by
    intro b hb
    unfold negN
    rw [decide_eq_true hb, Bool.true_and]
    by_cases hs : b < 2 ^ (P + F - 1)
    · rw [Nat.div_eq_of_lt hs, decide_eq_true hs]; rfl
    · rw [decide_eq_false hs, show b / 2 ^ (P + F - 1) = 1 from Nat.div_eq_of_lt_le (by omega) (by omega)]; rfl
  refine ⟨?_, ?_, ?_, ?_, ?_, ?_, hal, f1⟩
  · by_cases hs : a < 2 ^ (P + F - 1)
    · have hn := mt f3.1 (fun h => h hs)
      unfold flipN at hn ⊢
      rw [if_pos ha, if_pos hs] at hn ⊢
      rw [if_pos (by omega), if_neg hn]
      omega
    · have hn := f3.2 hs
      unfold flipN at hn ⊢
      rw [if_pos ha, if_neg hs] at hn ⊢
      rw [if_pos (by omega), if_pos hn]
      omega
  · rw [hneg _ f1, hneg _ ha]
    by_cases hs : a < 2 ^ (P + F - 1)
    · rw [decide_eq_true hs, decide_eq_false (fun h => f3.1 h hs)]; rfl
    · rw [decide_eq_false hs, decide_eq_true (f3.2 hs)]; rfl
  · rw [hneg _ hal, hab, decide_eq_true hm]; rfl
  · refine cls_mod hP hal ha ?_
    rw [hab, Nat.mod_mod]
  · exact cls_mod hP f1 ha f2
  · rw [show absN (P + F) (flipN (P + F) a) = flipN (P + F) a % 2 ^ (P + F - 1) from if_pos f1, hab, f2]

theorem signsU (f : Int) (a : Nat) (h : clsU f a ≠ 0) : flipU f (flipU f a) = a ∧ negU f (flipU f a) = !negU f a ∧ negU f (absU f a) = false ∧ clsU f (absU f a) = clsU f a ∧ clsU f (flipU f a) = clsU f a ∧ absU f (flipU f a) = absU f a ∧ absU f a < 2 ^ 128 ∧ flipU f a < 2 ^ 128 := by
  rcases f_cases f with rfl | rfl | rfl | rfl | h0
  · obtain ⟨h1, h2, h3, h4, h5, h6, h7, h8⟩ := signsN (P := 11) (F := 5) (a := a) (by decide) (cls_fit (B := 16) (P := 11) (F := 5) h)
    exact ⟨h1, h2, h3, h4, h5, h6, Nat.lt_of_lt_of_le h7 (Nat.pow_le_pow_right (by decide) (by decide)), Nat.lt_of_lt_of_le h8 (Nat.pow_le_pow_right (by decide) (by decide))⟩
  · obtain ⟨h1, h2, h3, h4, h5, h6, h7, h8⟩ := signsN (P := 24) (F := 8) (a := a) (by decide) (cls_fit (B := 32) (P := 24) (F := 8) h)
    exact ⟨h1, h2, h3, h4, h5, h6, Nat.lt_of_lt_of_le h7 (Nat.pow_le_pow_right (by decide) (by decide)), Nat.lt_of_lt_of_le h8 (Nat.pow_le_pow_right (by decide) (by decide))⟩
  · obtain ⟨h1, h2, h3, h4, h5, h6, h7, h8⟩ := signsN (P := 53) (F := 11) (a := a) (by decide) (cls_fit (B := 64) (P := 53) (F := 11) h)
    exact ⟨h1, h2, h3, h4, h5, h6, Nat.lt_of_lt_of_le h7 (Nat.pow_le_pow_right (by decide) (by decide)), Nat.lt_of_lt_of_le h8 (Nat.pow_le_pow_right (by decide) (by decide))⟩
  · obtain ⟨h1, h2, h3, h4, h5, h6, h7, h8⟩ := signsN (P := 113) (F := 15) (a := a) (by decide) (cls_fit (B := 128) (P := 113) (F := 15) h)
    exact ⟨h1, h2, h3, h4, h5, h6, Nat.lt_of_lt_of_le h7 (Nat.pow_le_pow_right (by decide) (by decide)), Nat.lt_of_lt_of_le h8 (Nat.pow_le_pow_right (by decide) (by decide))⟩
  · exact absurd (tU_none f h0 _ _ _ _ _) h

end Go.Proofs.YtidfegilddlglaaDoor

/- Contracts: class.Finite, IsNaN; the document's Signed, Field, Fraction, one for all formats. -/
set_option linter.unusedVariables false
set_option linter.unusedSimpArgs false
set_option maxRecDepth 8000
namespace Go.Proofs.YtidfegilddlglaaDoor
open Go.RowKit Plain

theorem cfin_u (f : Int) (a : Nat) (ha : a < 2 ^ 128) (w : World) (hg : FmtG w) : Calls Tryd.prog 14 #[.int .i64 f, .agg #[.int .u64 (dgl (a) 1 : Nat), .int .u64 (dgl (a) 0 : Nat)]] w fun e w' => e = .returned (.bool (decide (4 ≤ clsU f a))) ∧ Below w.heap.size w w' := by
  have HB0 := hide (below_allocs w (.cells #[.int .u64 (dgl (a) 1 : Nat), .int .u64 (dgl (a) 0 : Nat)] 24))
  have HG := hide (hg.below HB0.out)
  have hc := fun w hg => cof_u f a ha w hg
  generalize clsU f a = k at *
  have HC := hide hc
  clear hg ha hc
  go_enter Tryd.func14, Tryd.ntmps14
  go_wp2_with fail
  refine (HC.out _ HG.out).mono ?_
  rintro e w1 ⟨rfl, hb1⟩
  have HB := hide (below_trans HB0.out hb1)
  have HD : Hid (decide ((4 : Int) ≤ (k : Int)) = decide (4 ≤ k)) := by unfold Hid; rw [decide_eq_decide]; omega
  clear hb1 HG HB0 HC
  go_wp2
  go_ret
  exact ⟨ret_bl HD.out, HB.out⟩
theorem cnan_u (f : Int) (a : Nat) (ha : a < 2 ^ 128) (w : World) (hg : FmtG w) : Calls Tryd.prog 15 #[.int .i64 f, .agg #[.int .u64 (dgl (a) 1 : Nat), .int .u64 (dgl (a) 0 : Nat)]] w fun e w' => e = .returned (.bool (decide (clsU f a = 1) || decide (clsU f a = 2))) ∧ Below w.heap.size w w' := by
  have HB0 := hide (below_allocs w (.cells #[.int .u64 (dgl (a) 1 : Nat), .int .u64 (dgl (a) 0 : Nat)] 24))
  have HG := hide (hg.below HB0.out)
  have hc := fun w hg => cof_u f a ha w hg
  generalize clsU f a = k at *
  have HC := hide hc
  clear hg ha hc
  go_enter Tryd.func15, Tryd.ntmps15
  go_wp2_with fail
  refine (HC.out _ HG.out).mono ?_
  rintro e w1 ⟨rfl, hb1⟩
  have HB := hide (below_trans HB0.out hb1)
  clear hb1 HG HB0 HC
  have HR : Hid ((((k : Int) == 1) || ((k : Int) == 2)) = (decide (k = 1) || decide (k = 2))) := by
    unfold Hid
    rw [show ((k : Int) == 1) = decide (k = 1) by rw [Bool.eq_iff_iff, beq_iff_eq, decide_eq_true_iff]; omega, show ((k : Int) == 2) = decide (k = 2) by rw [Bool.eq_iff_iff, beq_iff_eq, decide_eq_true_iff]; omega]
  go_wp2
  · rename_i h
    have HT : Hid (true = (decide (k = 1) || decide (k = 2))) := by unfold Hid; rw [decide_eq_true (show k = 1 by omega)]; rfl
    go_ret
    exact ⟨ret_bl HT.out, HB.out⟩
  · go_ret
    exact ⟨ret_bl HR.out, HB.out⟩

/-- A word's number with a sign. -/
def sgnN (B : Nat) (neg : Bool) (a : Nat) : Nat := neg.toNat * 2 ^ (B - 1) + a % 2 ^ (B - 1)
set_option maxHeartbeats 1000000 in
theorem refSgn_walk (f : Int) (B hi lo : Nat) (neg : Bool) (hB : B ≤ 128) (hB1 : 1 ≤ B) (hh : hi < 18446744073709551616) (hl : lo < 18446744073709551616)
    (HN : Hid (∀ w, Calls Tryd.prog 56 #[.int .i64 f] w fun e w' => e = .returned (.int .i64 (B : Nat)) ∧ w' = w)) (w : World) :
    Calls Tryd.prog 25 #[.int .i64 f, .agg #[.int .u64 (hi : Nat), .int .u64 (lo : Nat)], .bool neg] w fun e w' => e = .returned (.agg #[.int .u64 (dgl (sgnN B neg (lo + 18446744073709551616 * hi)) 1 : Nat), .int .u64 (dgl (sgnN B neg (lo + 18446744073709551616 * hi)) 0 : Nat)]) ∧ Below w.heap.size w w' := by
  have HBT := hide (fun n hn w => refBit5_any hi lo n hh hl hn (n : Int) rfl w)
  have HST := hide (Ax0.start hi lo w)
  have hB' : (B : Int) ≤ 128 := by omega
  have hB2 : (1 : Int) ≤ (B : Int) := by omega
  clear hh hl
  generalize (lo + 18446744073709551616 * hi) = a at *
  obtain ⟨N, hN⟩ : ∃ N, sgnN B neg a = N := ⟨_, rfl⟩
  rw [hN]
  have HSN := hide hN
  clear hN
  go_enter Tryd.func25, Tryd.ntmps25
  go_wp2_with fail
  refine (sign5_any neg _).mono ?_
  rintro e w1 ⟨rfl, hw⟩
  subst w1
  go_wp2_with fail
  refine (HN.out _).mono ?_
  rintro e w1 ⟨rfl, hw⟩
  subst w1
  go_wp2_with fail
  go_loopw [7, 8] (fun v i wr => ∃ (l : List Bool) (c : Nat) (z : Int), c ≤ B - 1 ∧ l.length = c + 1 ∧ v = .string (bt l) ∧ i = .int .i64 z ∧ Hid (valN l = neg.toNat * 2 ^ c + a / 2 ^ (B - 1 - c) % 2 ^ c ∧ z = (B : Int) - 2 - c) ∧ Hid (Ax0 hi lo w wr)) (fun v i _ => (intOf i + 1).toNat)
  case atStart => exact ⟨[neg], 0, _, Nat.zero_le _, rfl, rfl, rfl, ⟨by rw [Nat.pow_zero, Nat.mod_one]; cases neg <;> rfl, by simp⟩, HST⟩
  case round =>
    clear HST HN
    obtain ⟨l, c, z, hc, hlen, rfl, rfl, hz, hst⟩ := hrel
    have hz2 := hz.out.2
    by_cases hlt : c < B - 1
    · have hj : 0 ≤ z := by omega
      have c0 := hst.out.s.h
      have c1 := hst.out.s.l
      have c2 := hst.out.s.lt
      obtain ⟨n, hn⟩ : ∃ n : Nat, z = (n : Int) := ⟨z.toNat, by omega⟩
      subst hn
      have hnb : n < 128 := by omega
      have HE := hide (show n = B - 1 - (c + 1) by omega)
      have HV : Hid (valN (l ++ [(a / 2 ^ n % 2 == 1)]) = neg.toNat * 2 ^ (c + 1) + a / 2 ^ (B - 1 - (c + 1)) % 2 ^ (c + 1)) := by
        unfold Hid
        have hlow : a / 2 ^ n % 2 < 2 := Nat.mod_lt _ (by decide)
        rw [valN_snoc, hz.out.1, ← HE.out, fld_step a n c, show n + 1 = B - 1 - c by omega, Nat.pow_succ, show (a / 2 ^ n % 2 == 1).toNat = a / 2 ^ n % 2 by
          generalize a / 2 ^ n % 2 = y at hlow ⊢
          have hy : y = 0 ∨ y = 1 := by omega
          rcases hy with rfl | rfl <;> rfl]
        generalize a / 2 ^ n % 2 = y
        generalize a / 2 ^ (B - 1 - c) % 2 ^ c = u
        rw [← Nat.mul_assoc]
        omega
      have HZ2 := hide (show (n : Int) - 1 = (B : Int) - 2 - ((c + 1 : Nat) : Int) by omega)
      have HLN : Hid ((l ++ [(a / 2 ^ n % 2 == 1)]).length = c + 1 + 1) := by unfold Hid; rw [List.length_append, hlen]; rfl
      have hs1 : (bt l).size ≤ 200 := by rw [bt_size]; omega
      have hs2 : ∀ b, (bt [b]).size = 1 := fun b => bt_size _
      have hn1 : (n : Int) < 128 := by omega
      clear hz hz2
      go_wp2_with fail
      refine (HBT.out n hnb _).mono ?_
      rintro e w1 ⟨rfl, hb1⟩
      have HS1 := hide (hst.out.below hb1)
      clear hb1 c0 c1 c2 hst
      generalize (a / 2 ^ n % 2 == 1) = b at *
      go_wp2_with fail
      refine (sign5_any b _).mono ?_
      rintro e w2 ⟨rfl, hw⟩
      subst w2
      have HA := hide (bt_app l [b])
      have hs3 := hs2 b
      clear hs2
      go_wp2
      go_roundw
      case rel => exact ⟨l ++ [b], c + 1, _, by omega, HLN.out, congrArg Value.string HA.out, rfl, ⟨HV.out, HZ2.out⟩, HS1⟩
      case measure =>
        show ((n : Int) - 1 + 1).toNat < ((n : Int) + 1).toNat
        omega
    · have hj : ¬ 0 ≤ z := by omega
      have HR : Hid (valN l = N) := by
        unfold Hid
        rw [← HSN.out]
        unfold sgnN
        rw [hz.out.1, show c = B - 1 by omega, Nat.sub_self, Nat.pow_zero, Nat.div_one]
      have HLE := hide (show l.length ≤ 1000 by omega)
      clear hz hz2 HBT
      go_wp2_with fail
      refine (refWord_any l HLE.out _).mono ?_
      rintro e w1 ⟨rfl, hb1⟩
      rw [HR.out]
      replace hst := hide (hst.out.below hb1)
      clear hb1 HR HLE hlen
      have z0 := hst.out.z 0 (by decide)
      have z1 := hst.out.z 1 (by decide)
      have hrf := hst.out.f
      have hlt2 := hst.out.lt
      have HB := hide hst.out.s.bel
      clear hst
      go_wp2
      exact bodyPost_ret (v := .agg #[.int .u64 (dgl (N) 1 : Nat), .int .u64 (dgl (N) 0 : Nat)]) (by simp [results, Tryd.results25, go_sem, hlt2, z0, z1]) rfl ⟨rfl, ((HB.out.setCell (p := ⟨w.heap.size + 1, 0, none⟩) (Nat.le_succ _) _).setCell (p := ⟨w.heap.size + 1, 1, none⟩) (Nat.le_succ _) _)⟩

def sgnU (f : Int) (neg : Bool) (a : Nat) : Nat := tU f (sgnN 16 neg a) (sgnN 32 neg a) (sgnN 64 neg a) (sgnN 128 neg a) 0

theorem refSgn_u (f : Int) (a : Nat) (ha : a < 2 ^ 128) (neg : Bool) (hf : clsU f a ≠ 0) (w : World) : Calls Tryd.prog 25 #[.int .i64 f, .agg #[.int .u64 (dgl (a) 1 : Nat), .int .u64 (dgl (a) 0 : Nat)], .bool neg] w fun e w' => e = .returned (.agg #[.int .u64 (dgl (sgnU f neg a) 1 : Nat), .int .u64 (dgl (sgnU f neg a) 0 : Nat)]) ∧ Below w.heap.size w w' := by
  rcases f_cases f with rfl | rfl | rfl | rfl | h
  · have h0 := refSgn_walk 1 16 (dgl a 1) (dgl a 0) neg (by decide) (by decide) (dgl_lt _ _) (dgl_lt _ _) (fun w => bits_1 w) w
    rw [word_back a ha] at h0
    skip
    exact h0
  · have h0 := refSgn_walk 2 32 (dgl a 1) (dgl a 0) neg (by decide) (by decide) (dgl_lt _ _) (dgl_lt _ _) (fun w => bits_2 w) w
    rw [word_back a ha] at h0
    skip
    exact h0
  · have h0 := refSgn_walk 3 64 (dgl a 1) (dgl a 0) neg (by decide) (by decide) (dgl_lt _ _) (dgl_lt _ _) (fun w => bits_3 w) w
    rw [word_back a ha] at h0
    skip
    exact h0
  · have h0 := refSgn_walk 4 128 (dgl a 1) (dgl a 0) neg (by decide) (by decide) (dgl_lt _ _) (dgl_lt _ _) (fun w => bits_4 w) w
    rw [word_back a ha] at h0
    skip
    exact h0
  · exact absurd (tU_none f h _ _ _ _ _) hf

theorem refFld_u (f : Int) (a : Nat) (ha : a < 2 ^ 128) (hf : clsU f a ≠ 0) (w : World) : Calls Tryd.prog 23 #[.int .i64 f, .agg #[.int .u64 (dgl (a) 1 : Nat), .int .u64 (dgl (a) 0 : Nat)]] w fun e w' => e = .returned (.int .i64 ((fldU f a : Nat) : Int)) ∧ Below w.heap.size w w' := by
  rcases f_cases f with rfl | rfl | rfl | rfl | h
  · have h0 := refFld_1 (dgl a 1) (dgl a 0) (dgl_lt _ _) (dgl_lt _ _) w
    rw [word_back a ha] at h0
    rw [show fldU 1 a = a / 2 ^ 10 % 2 ^ 5 from if_pos (cls_fit (B := 16) (P := 11) (F := 5) hf)]
    exact h0
  · have h0 := refFld_2 (dgl a 1) (dgl a 0) (dgl_lt _ _) (dgl_lt _ _) w
    rw [word_back a ha] at h0
    rw [show fldU 2 a = a / 2 ^ 23 % 2 ^ 8 from if_pos (cls_fit (B := 32) (P := 24) (F := 8) hf)]
    exact h0
  · have h0 := refFld_3 (dgl a 1) (dgl a 0) (dgl_lt _ _) (dgl_lt _ _) w
    rw [word_back a ha] at h0
    rw [show fldU 3 a = a / 2 ^ 52 % 2 ^ 11 from if_pos (cls_fit (B := 64) (P := 53) (F := 11) hf)]
    exact h0
  · have h0 := refFld_4 (dgl a 1) (dgl a 0) (dgl_lt _ _) (dgl_lt _ _) w
    rw [word_back a ha] at h0
    rw [show fldU 4 a = a / 2 ^ 112 % 2 ^ 15 from if_pos (cls_fit (B := 128) (P := 113) (F := 15) hf)]
    exact h0
  · exact absurd (tU_none f h _ _ _ _ _) hf

theorem refFrac_u (f : Int) (a : Nat) (ha : a < 2 ^ 128) (hf : clsU f a ≠ 0) (w : World) : Calls Tryd.prog 24 #[.int .i64 f, .agg #[.int .u64 (dgl (a) 1 : Nat), .int .u64 (dgl (a) 0 : Nat)]] w fun e w' => e = .returned (.agg #[.int .u64 (dgl (frcU f a) 0 : Nat), .int .u64 (dgl (frcU f a) 1 : Nat), .int .u64 (dgl (frcU f a) 2 : Nat), .int .u64 (dgl (frcU f a) 3 : Nat), .int .u64 (dgl (frcU f a) 4 : Nat), .int .u64 (dgl (frcU f a) 5 : Nat), .int .u64 (dgl (frcU f a) 6 : Nat), .int .u64 (dgl (frcU f a) 7 : Nat)]) ∧ Below w.heap.size w w' := by
  rcases f_cases f with rfl | rfl | rfl | rfl | h
  · have h0 := refFrac_1 (dgl a 1) (dgl a 0) (dgl_lt _ _) (dgl_lt _ _) w
    rw [word_back a ha] at h0
    rw [show frcU 1 a = a % 2 ^ 10 from if_pos (cls_fit (B := 16) (P := 11) (F := 5) hf)]
    exact h0
  · have h0 := refFrac_2 (dgl a 1) (dgl a 0) (dgl_lt _ _) (dgl_lt _ _) w
    rw [word_back a ha] at h0
    rw [show frcU 2 a = a % 2 ^ 23 from if_pos (cls_fit (B := 32) (P := 24) (F := 8) hf)]
    exact h0
  · have h0 := refFrac_3 (dgl a 1) (dgl a 0) (dgl_lt _ _) (dgl_lt _ _) w
    rw [word_back a ha] at h0
    rw [show frcU 3 a = a % 2 ^ 52 from if_pos (cls_fit (B := 64) (P := 53) (F := 11) hf)]
    exact h0
  · have h0 := refFrac_4 (dgl a 1) (dgl a 0) (dgl_lt _ _) (dgl_lt _ _) w
    rw [word_back a ha] at h0
    rw [show frcU 4 a = a % 2 ^ 112 from if_pos (cls_fit (B := 128) (P := 113) (F := 15) hf)]
    exact h0
  · exact absurd (tU_none f h _ _ _ _ _) hf

theorem sgn_abs (f : Int) (a : Nat) (h : clsU f a ≠ 0) : sgnU f false a = absU f a := by
  rcases f_cases f with rfl | rfl | rfl | rfl | h0
  · rw [show absU 1 a = a % 2 ^ (16 - 1) from if_pos (cls_fit (B := 16) (P := 11) (F := 5) h)]
    show 0 * _ + _ = _
    rw [Nat.zero_mul, Nat.zero_add]
  · rw [show absU 2 a = a % 2 ^ (32 - 1) from if_pos (cls_fit (B := 32) (P := 24) (F := 8) h)]
    show 0 * _ + _ = _
    rw [Nat.zero_mul, Nat.zero_add]
  · rw [show absU 3 a = a % 2 ^ (64 - 1) from if_pos (cls_fit (B := 64) (P := 53) (F := 11) h)]
    show 0 * _ + _ = _
    rw [Nat.zero_mul, Nat.zero_add]
  · rw [show absU 4 a = a % 2 ^ (128 - 1) from if_pos (cls_fit (B := 128) (P := 113) (F := 15) h)]
    show 0 * _ + _ = _
    rw [Nat.zero_mul, Nat.zero_add]
  · exact absurd (tU_none f h0 _ _ _ _ _) h
theorem sgnN_flip (B a : Nat) (hB : 0 < B) (h : a < 2 ^ B) : sgnN B (!negN B a) a = flipN B a := by
  have h2 := pow_half B hB
  unfold sgnN negN flipN
  rw [decide_eq_true h, Bool.true_and, if_pos h]
  by_cases hs : a < 2 ^ (B - 1)
  · rw [Nat.div_eq_of_lt hs, if_pos hs, Nat.mod_eq_of_lt hs]
    show 1 * _ + _ = _
    omega
  · rw [if_neg hs, show a / 2 ^ (B - 1) = 1 from Nat.div_eq_of_lt_le (by omega) (by omega), Nat.mod_eq_sub_mod (Nat.le_of_not_lt hs), show (a - 2 ^ (B - 1)) % 2 ^ (B - 1) = a - 2 ^ (B - 1) from Nat.mod_eq_of_lt (by omega)]
    show 0 * _ + _ = _
    omega
theorem sgn_flip (f : Int) (a : Nat) (h : clsU f a ≠ 0) : sgnU f (!negU f a) a = flipU f a := by
  rcases f_cases f with rfl | rfl | rfl | rfl | h0
  · exact sgnN_flip 16 a (by decide) (cls_fit (B := 16) (P := 11) (F := 5) h)
  · exact sgnN_flip 32 a (by decide) (cls_fit (B := 32) (P := 24) (F := 8) h)
  · exact sgnN_flip 64 a (by decide) (cls_fit (B := 64) (P := 53) (F := 11) h)
  · exact sgnN_flip 128 a (by decide) (cls_fit (B := 128) (P := 113) (F := 15) h)
  · exact absurd (tU_none f h0 _ _ _ _ _) h

end Go.Proofs.YtidfegilddlglaaDoor

